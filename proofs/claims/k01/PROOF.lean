import PyProof.Rows.All
import Wide.All
import OpenK.AllK
import Wide.FinOn
import KE.KStateDown
import HandS.ForMost
import HandS.IsInst
import HandS.Defaults
import HandS.Flow
import HandS.Gcd
import HandS.Wide
import HandS.OwnEq
import HandS.Style
import HandS.Exc
import PyProof.InstNe
import KE.GoesEnum
import KE.GoesMore
import HandS.OwnIter
import KE.KDictZip
import HandS.Head0
import HandS.Head1
import HandS.Head2
import HandS.HeadEnd
import HandS.HeadHook1
import HandS.HeadHook2
import HandS.Head3
import PySem.Challenge.RW_gridlanes_k01_whole_words_in_lines
set_option Elab.async false
set_option linter.all false
set_option maxRecDepth 100000
set_option maxHeartbeats 4000000
/-! == and != by an own __eq__, both answers; enumerate of a tuple; list(zip(list, list)). -/
namespace L2
open PySem PySem.Spec PyProof.Rows
section
variable {X : Cx} {CX : CXT} {C f : Addr} {fd : FuncData} {ps : List Str} {n : Nat} {sp : Sp} {E : XK}
/-- what is asked of x == y, x an instance of the class at C whose own __eq__ keeps sp -/
def rOwnEq (K : PySem.W.Frag) (C : Addr) (sp : Sp) (E : XK) (neg : Bool) : R2 := fun x y H Q => ∃ a dx fs t, x = .ref a ∧ H a = some (.ins C dx fs) ∧ TyX K H y t ∧ PySem.W.notFirst K C t = true ∧ sp [.ref a, y] H (fun v H' => ∃ b, v = .bl b ∧ Q (.bl (if neg then !b else b)) H') E
theorem own_call {A : Around} (F : FnOk X.prog X.w X.K X.mg X.base CX n f fd ps sp) (hb : Binds X.K fd ps []) (hx : Passes CX X E) (sb : Sub X n A) {pins : List (Addr × Obj)} {s : Shared} {σ : St} {H : Hp} {a : Addr} {y : V} {u : Value} {R : Bool → Hp → Prop}
    (I : Inv X pins σ H s) (ry : RelV y u) (h : sp [.ref a, y] H (fun v H' => ∃ b, v = .bl b ∧ R b H') E) :
    wpAny (model X.prog X.w) A (call (.ref f) [.ref a, u]) (fun v s' => ∃ b H', v = .bool b ∧ Inv X pins σ H' s' ∧ R b H') X.xe s := by
  have e0 : Env0 X.prog X.w X.K X.mg X.base A X.stack s H := by
    have e := I.env0
    exact ⟨by rw [sb.fr]; exact e.frames, e.mod, e.bs, e.bsz, e.funs, e.frf, e.hok, e.bare⟩
  have hl := F.len _ _ _ _ h
  have r2 : Vals [V.ref a, y] [Value.ref a, u] := .cons rfl (.cons ry .nil)
  refine wpAny_call (codeAny_mono (F.run A X.stack s H ⟨[.ref a, u], []⟩ [.ref a, u] [.ref a, y] _ E sb.room e0 (by
    have := hb s [.ref a, u] I.kIn (by simpa using hl)
    simpa using this) r2 h) fun r s' hq => ?_)
  cases r with
  | error e => exact hx pins σ H s e s' I hq
  | ok fl =>
    cases fl with
    | ret w =>
      obtain ⟨z, H', I', rz, b, ez, q⟩ := I.after hq
      subst ez
      cases rz
      exact ⟨b, H', rfl, I', q⟩
    | next => exact False.elim hq
    | brk => exact False.elim hq
    | cont => exact False.elim hq
theorem op_eqOwn (F : FnOk X.prog X.w X.K X.mg X.base CX n f fd ps sp) (hs : PySem.W.findIn X.K (.ref C) "__eq__" = some (some (.ref f))) (hf : PySem.W.isFn X.K (.ref f) = true) (hb : Binds X.K fd ps []) (hx : Passes CX X E) (hr : Room n X.A) : OpR X (compareOp .Eq) (rOwnEq X.K C sp E false) := by
  intro pins s σ H x y v u Q I rx ry hq
  obtain ⟨a, dx, fs, t, rfl, ha, ty, hn, h⟩ := hq
  cases rx
  show wpAny (model X.prog X.w) X.A (richCompare .Eq (.ref a) u) (EP X pins σ Q) X.xe s
  obtain ⟨mA, J, _⟩ := ins_get I.hok ha
  obtain ⟨od, J, _⟩ := J.look
  obtain ⟨P, Z, p, _⟩ := kit_of I ry ty
  obtain ⟨m, hF⟩ := I.fr
  refine PySem.W.cmp_K (op := .Eq) (tb := t) hr.units0 hF I.ok.mod.kin J (Z.ty _ _ I.kIn p) hn hs hf ?_
  refine thn (own_call (R := fun b H' => Q (.bl b) H') F hb hx ⟨hr, rfl⟩ I ry h) fun v s' hv => ?_
  obtain ⟨b, H', rfl, I', q⟩ := hv
  exact ⟨.bl b, H', I', rfl, q⟩
theorem ne_try {A : Around} {K : PySem.W.Frag} {prog : Program} {w : World} {E2 : Value → Shared → Prop} {s : Shared} {x : Addr} {u : Value} {ox : Obj} {od : Option Obj} {Q : Option Value → Shared → Prop} (hu : A.units + 1 < cLine) (Y : K.In s.heap) (I : PySem.W.InstAt s.heap x ox C od)
    (hne : PySem.W.findIn K (.ref C) "__ne__" = some (some (.builtin "object.__ne__"))) (hm : PySem.W.mroIn K C (.type "object") = some true) (hs : PySem.W.findIn K (.ref C) "__eq__" = some (some (.ref f))) (hf : PySem.W.isFn K (.ref f) = true)
    (h : wpAny (model prog w) A.in1 (call (.ref f) [.ref x, u]) (fun v s' => ∃ b, v = .bool b ∧ Q (some (.bool (!b))) s') E2 s) : wpAny (model prog w) A (tryCompare (.ref x) "__ne__" u) Q E2 s := by
  have fin : wpAny (model prog w) A (call (.builtin "object.__ne__") ([.ref x] ++ [u])) (fun v s' => ∃ b, v = .bool b ∧ Q (some (.bool b)) s') E2 s := by
    have sub : PySem.W.Looks (model prog w) s.heap (isInstance (.ref x) (.type "object")) true := I.type.andThen (PySem.W.looks_mroIn Y hm)
    refine wpAny_call (codeAny_call_builtin F.cmp_object.ne.plain F.cmpEntry_ne (PySem.W.check_slot F.cmpKind_ne F.cmpSplit_ne sub (F.cmpArgs_ne _ _) ?_))
    unfold Builtin.«object.__ne__»
    refine wpAny_bind (wpAny_of_eq (a := ((Value.ref x : Value), [u])) (by first | rfl | (simp only [slotArgs]; rfl)) ?_)
    refine wpAny_bind (wpAny_cRoomFor hu ?_)
    refine wpAny_bind (PySem.W.ifBound_K Y I hs hf (thn h fun v s' hv => ?_))
    obtain ⟨b, rfl, q⟩ := hv
    refine wpAny_bind (wpAny_truthy_bool ?_)
    exact wpAny_pure ⟨!b, rfl, q⟩
  have fin2 : wpAny (model prog w) A (call (.builtin "object.__ne__") ([.ref x] ++ [u]) >>= fun v => pure (some v)) (fun r s' => ∃ b, r = some (.bool b) ∧ Q (some (.bool b)) s') E2 s := wpAny_bind (thn fin fun v s' ⟨b, e, q⟩ => wpAny_pure ⟨b, by rw [e], q⟩)
  unfold tryCompare
  refine wpAny_bind (wpAny_mono (Q := fun r s' => ∃ b, r = some (.bool b) ∧ Q (some (.bool b)) s') ?_ (fun r s' ⟨b, e, q⟩ => by subst e; exact wpAny_pure q) fun _ _ z => z)
  simp only [callSpecialIfBound?, bindSpecialIfBound?]
  refine wpAny_holding (wpAny_bind (wpAny_bind (wpAny_bind (I.type.here ((PySem.W.looks_findIn Y hne).here ?_)))))
  refine wpAny_bind (wpAny_askSetting (wpAny_ite ?_))
  have hbd := F.cmp_object.ne.bind (.ref x)
  split
  · rw [hbd]
    exact wpAny_bind (wpAny_pure (wpAny_pure (by exact fin2)))
  · rw [hbd]
    exact wpAny_tryCatch (wpAny_bind (wpAny_pure (wpAny_pure (by exact fin2))))
theorem op_neOwn (F : FnOk X.prog X.w X.K X.mg X.base CX n f fd ps sp) (hs : PySem.W.findIn X.K (.ref C) "__eq__" = some (some (.ref f))) (hf : PySem.W.isFn X.K (.ref f) = true) (hne : PySem.W.findIn X.K (.ref C) "__ne__" = some (some (.builtin "object.__ne__")))
    (hm : PySem.W.mroIn X.K C (.type "object") = some true) (hb : Binds X.K fd ps []) (hx : Passes CX X E) (hr : Room (n + 1) X.A) : OpR X (compareOp .NotEq) (rOwnEq X.K C sp E true) := by
  intro pins s σ H x y v u Q I rx ry hq
  obtain ⟨a, dx, fs, t, rfl, ha, ty, hn, h⟩ := hq
  cases rx
  show wpAny (model X.prog X.w) X.A (richCompare .NotEq (.ref a) u) (EP X pins σ Q) X.xe s
  obtain ⟨mA, J, _⟩ := ins_get I.hok ha
  obtain ⟨od, J, _⟩ := J.look
  obtain ⟨P, Z, p, _⟩ := kit_of I ry ty
  have one : wpAny (model X.prog X.w) X.A (tryCompare (.ref a) "__ne__" u) (fun r s' => ∃ b, r = some (.bool b) ∧ EP X pins σ Q (.bool b) s') X.xe s := by
    refine ne_try (hu_of hr) I.kIn J hne hm hs hf ?_
    refine thn (own_call (R := fun b H' => Q (.bl (!b)) H') F hb hx ⟨hr.in1, rfl⟩ I ry h) fun v s' hv => ?_
    obtain ⟨b, H', rfl, I', q⟩ := hv
    exact ⟨b, rfl, _, rfl, .bl (!b), H', I', rfl, q⟩
  have Y := I.kIn
  unfold richCompare
  simp only [oneThing_ref]
  refine wpAny_holding (wpAny_bind (wpAny_cRoomFor (Nat.lt_of_succ_lt (hu_of hr)) ?_))
  rw [cmpInfo_NotEq]
  dsimp only
  refine wpAny_bind (J.type.here (wpAny_bind ((Z.ty _ _ I.kIn p).here ?_)))
  split
  · rename_i q
    have e : PySem.W.subIn X.K t (.ref C) = some false := by
      rcases Bool.or_eq_true_iff.mp hn with e | e
      · rw [beq_iff_eq.mp e] at q; simp at q
      · exact beq_iff_eq.mp e
    refine wpAny_bind ((PySem.W.looks_subIn Y e).here ?_)
    simp only [Bool.false_eq_true, if_false]
    refine wpAny_bind (wpAny_mono one (fun r s' z => ?_) fun _ _ e => e)
    obtain ⟨v, rfl, hq⟩ := z
    exact wpAny_pure hq
  · refine wpAny_bind (wpAny_pure ?_)
    simp only [Bool.false_eq_true, if_false]
    refine wpAny_bind (wpAny_mono one (fun r s' z => ?_) fun _ _ e => e)
    obtain ⟨v, rfl, hq⟩ := z
    exact wpAny_pure hq
end
end L2

set_option Elab.async false
set_option linter.all false
set_option maxRecDepth 100000
set_option maxHeartbeats 4000000
namespace L2
open PySem PySem.Spec PyProof.Rows
/-! ### enumerate(tuple) -/
/-- enumerate(v) of what begins as told -/
theorem en_new {v : Value} {o : Obj} {H : Heap → Prop} (B : Begins v o H) :
    Meets (Builtin.«enumerate.__new__» ⟨[.type "enumerate", v], []⟩) (fun _ R s => H s.heap ∧
      R (.ok (.ret (.ref (s.heap.push o).objs.size))) { s with heap := (s.heap.push o).push { cls := .type "enumerate", data := .fields #[.none, .bool false, .ref s.heap.objs.size, rawInt 0, .none, .none] } }) :=
  .of_wp fun prog w A R s h => by
    obtain ⟨hp, g, d, tk, os⟩ := s; obtain ⟨h1, h⟩ := h
    have hsub := sub_enumerate
    have q1 : ∀ {A' : Around} {E : Value → Shared → Prop} {Q : Value → Shared → Prop}, Q (.ref hp.objs.size) ⟨hp.push o, g, d, tk, os⟩ → wpAny (model prog w) A' (pyIter v) Q E ⟨hp, g, d, tk, os⟩ :=
      fun q => B.iter prog w _ _ ⟨hp, g, d, tk, os⟩ _ h1 q
    wp_walk using q1
    refine wpAny_stack_any fun st => wpAny_pure ?_
    split
    · rename_i c _ _ _ _ _
      cases (c == Value.type "enumerate")
      · wp_walk using q1
        exact ⟨_, rfl, h⟩
      · wp_walk using q1
        exact ⟨_, rfl, h⟩
    · wp_walk using q1
      exact ⟨_, rfl, h⟩
theorem en_call {prog : Program} {w : World} {A : Around} {E : Value → Shared → Prop} {s : Shared} {v : Value} {o : Obj} {H : Heap → Prop} {Q : Value → Shared → Prop} (B : Begins v o H) (h1 : H s.heap)
    (h : ∀ h', IsEnum h' (s.heap.objs.size + 1) s.heap.objs.size 0 .none → h'.get? s.heap.objs.size = some o → h'.objs.size = s.heap.objs.size + 2 →
      (∀ b o, s.heap.get? b = some o → h'.get? b = some o) → Q (.ref (s.heap.objs.size + 1)) { s with heap := h' }) :
    wpAny (model prog w) A (call (.type "enumerate") [v]) Q E s := by
  refine callType_new F.called_enumerate (by decide) (F.typeCall_enumerate_1 _) (F.newCall_enumerate_1 _) (fun obj => F.args_object_init_2 obj _) F.entry_enumerate_new (en_new B) ⟨h1, ?_⟩
  have hz : (s.heap.push o).objs.size = s.heap.objs.size + 1 := Heap.size_push ..
  show _ ∧ _
  rw [hz]
  have he : IsEnum ((s.heap.push o).push { cls := .type "enumerate", data := .fields #[.none, .bool false, .ref s.heap.objs.size, rawInt 0, .none, .none] }) (s.heap.objs.size + 1) s.heap.objs.size 0 .none := by
    have := Heap.get?_push_size (s.heap.push o) (o := { cls := .type "enumerate", data := .fields #[.none, .bool false, .ref s.heap.objs.size, rawInt 0, .none, .none] }) rfl
    rw [hz] at this; exact this
  exact ⟨⟨_, he, rfl⟩, h _ he (Heap.get?_push_of_some _ (Heap.get?_push_size _ B.free)) (by rw [Heap.size_push, hz]) fun b o x => Heap.get?_push_of_some _ (Heap.get?_push_of_some _ x)⟩
theorem tup_over {prog : Program} {w : World} {A : Around} (hh : A.handled = none) (it t : Addr) (hne : t ≠ it) (items : Array Value) (n : Nat) (hn : items[n]? = none) :
    Draws prog w A it [it, t] n (fun _ _ => False) (fun j h => j = n ∧ h.IsTupleIter it t n ∧ h.IsTuple t items) where
  live := fun _ _ st => let ⟨o, ho, _⟩ := st.2.1; ⟨o, ho⟩
  frame := fun _ _ _ st hk => ⟨st.1, st.2.1.at fun o e => hk it (by simp) o e, st.2.2.at fun o e => hk t (by simp) o e⟩
  item := fun i s Q E hi st hQ => absurd st.1 (Nat.ne_of_lt hi)
  done := fun s Q E st hE => wpAny_nextOf_tuple_end hh st.2.1 st.2.2 hn hE
def ItT (K : PySem.W.Frag) (a : Addr) : It :=
  ⟨fun i H => ∃ (xs : List V) (x : V), SqT K H a xs ∧ xs[i]? = some x, fun i H v H' => ∃ T x, v = .ref T ∧ H T = none ∧ H' = upd H T (.tup [.int (i : Nat), x]) ∧ ∀ xs, SqT K H a xs → xs[i]? = some x, fun i H => ∃ xs : List V, SqT K H a xs ∧ xs.length ≤ i⟩
theorem turn_enumT {P : Program} {w : World} {K : PySem.W.Frag} {elts : List Expr} {kk : Nat} {tpos : Pos} (a e it : Addr) :
    Turn P w K (.Tuple elts kk tpos) (ItT K a) [e, it] e (fun i h => (∃ old, IsEnum h e it ((i : Nat) : Int) old) ∧ h.IsTupleIter it a i ∧ e ≠ it ∧ e ≠ a ∧ it ≠ a) where
  mem := by simp
  obj := fun i h st b hb => by
    obtain ⟨⟨old, he⟩, ⟨o, ho, hc, hd⟩, _⟩ := st
    rcases (show b = e ∨ b = it by simpa using hb) with z | z
    · rw [z]
      exact ⟨_, he, fun v q => nomatch q⟩
    · rw [z]
      exact ⟨o, ho, fun v q => by rw [hd] at q; cases q⟩
  keep := fun i h h' st k => by
    obtain ⟨⟨old, he⟩, hi, r⟩ := st
    exact ⟨⟨old, k e (by simp) _ he⟩, hi.at fun o q => k it (by simp) o q, r⟩
  item := by
    intro X hP hw hK hc i pins s σ H E I hf st hg
    subst hP hw hK
    obtain ⟨⟨old, he⟩, hit, hne, hea, hia⟩ := st
    obtain ⟨xs, x, hq, hx⟩ := hg
    obtain ⟨its, rv, p, hz⟩ := I.tuple hq
    obtain ⟨u, hu, ru⟩ := rv.get hx
    have hel : e < s.heap.objs.size := Heap.lt_size he
    have hil : it < s.heap.objs.size := by obtain ⟨_, q, _⟩ := hit; exact Heap.lt_size q
    have hlen : i < its.toArray.size := by
      rw [List.size_toArray]
      exact (List.getElem?_eq_some_iff.mp hu).1
    have DD := Draws.tuple (prog := X.prog) (w := X.w) (A := X.A.in1) (I.ok.hd hc) it a (Ne.symm hia) its.toArray
    refine wpAny_pyNext_enum_itemC DD he ⟨hit, p⟩ hlen hne (by simp [hne, hea]) fun y h' tk hy ho hst hT hsz hk => ?_
    have ey : y = u := by
      have z : its.toArray[i]? = some y := hy
      rw [List.getElem?_toArray, hu] at z
      exact (Option.some.inj z).symm
    subst ey
    refine ⟨_, rfl, wpAny_letOwnedTupleGo_enum (s := { s with heap := h', toks := tk + 1 }) ho fun h'' he' sb => ?_⟩
    have hT2 : h''.get? s.heap.objs.size = some { cls := .type "tuple", data := .seq #[.int i tk, y] } := (sb.2 _ (Nat.ne_of_gt hel)).trans hT
    have new : ObjOk X.prog X.w (upd H s.heap.objs.size (.tup [.int (i : Nat), x])) h'' s.heap.objs.size (.tup [.int (i : Nat), x]) :=
      ⟨by show 2 ≤ sizeLine; decide, [.int i tk, y], .cons ⟨_, rfl⟩ (.cons ru .nil), ⟨_, hT2, rfl, _, rfl⟩⟩
    have I1 : Inv X pins σ (upd H s.heap.objs.size (.tup [.int (i : Nat), x])) { s with heap := h'', toks := tk + 1 } :=
      I.turnedNew (ch := [e, it]) (fun b ob hb q => (sb.2 b (fun z => hb (by simp [z]))).trans (hk b ob (fun z => hb (by simp [z])) (fun z => hb (by simp [z])) q)) hf (Nat.le_refl _) new
    refine ⟨.ref s.heap.objs.size, _, I1, rfl, ⟨_, x, rfl, I.hok.fresh (Nat.le_refl _), rfl, fun ys hy => by rw [I.tuple_inj hy hq]; exact hx⟩, ⟨⟨y, ?_⟩, hst.1.at fun o q => (sb.2 it (Ne.symm hne)).trans q, hne, hea, hia⟩, fun b hb => ?_⟩
    · have e1 : ((i + 1 : Nat) : Int) = (i : Int) + 1 := by omega
      rw [e1]; exact he'
    · have hb' : b < s.heap.objs.size := by
        rcases (show b = e ∨ b = it by simpa using hb) with z | z
        · rw [z]; exact hel
        · rw [z]; exact hil
      rw [upd_ne (Nat.ne_of_lt hb')]
      exact (hf b hb).1
  done := by
    intro X hP hw hK hc i pins s σ H E I hf st hg
    subst hP hw hK
    obtain ⟨⟨old, he⟩, hit, hne, hea, hia⟩ := st
    obtain ⟨xs, hq, hx⟩ := hg
    obtain ⟨its, rv, p, hz⟩ := I.tuple hq
    obtain ⟨f0, f1, f2, f3, f4, f5⟩ := hf it (by simp)
    have hl := rv.length
    have hn : its.toArray[i]? = none := by
      rw [List.getElem?_toArray, List.getElem?_eq_none]
      omega
    have DD := tup_over (prog := X.prog) (w := X.w) (A := X.A.in1) (I.ok.hd hc) it a (Ne.symm hia) its.toArray i hn
    exact wpAny_pyNext_enum_endD DD he ⟨rfl, hit, p⟩ fun h' eb => ⟨rfl, I.turned (t' := s.toks) (fun b o hb q => eb b o hb q) f0 f1 f3 f4 f5⟩
  self := fun A i s Q E st h => let ⟨⟨_, he⟩, _⟩ := st; wpAny_pyIter_enum he h
def iEnumT (K : PySem.W.Frag) (ta : TA) : TI := fun σ H R => ta σ H fun vs H1 => ∃ a xs, vs = [.ref a] ∧ SqT K H1 a xs ∧ R (ItT K a) H1
theorem pi_enumT {X : Cx} {e : Expr} {ta : TA} {p pos tpos : Pos} {elts : List Expr} {kk : Nat} (hg : Gl X "enumerate") (hm : X.mg "enumerate" = none) (ha : PA X [e] ta) (hs : starEach [e] X.env = [(false, eval e X.env)] := by rfl) :
    PI X (.Tuple elts kk tpos) (.Call (.Name "enumerate" p) [e] [] pos) (iEnumT X.K ta) := by
  refine ⟨fun pins s σ H R I h => ?_⟩
  refine Call_ (ld_blt I hg hm boot_enumerate (PyProof.Rows.callWith_type1 (thn (ha.run pos pins s σ H _ I h) fun us s1 ⟨vs, H1, I1, r1, q1⟩ => ?_) hs rfl))
  obtain ⟨a, xs, ex, hq, q⟩ := q1
  subst ex
  cases r1 with
  | cons r rr =>
    cases rr
    cases r
    obtain ⟨its, rv, p', hz⟩ := I1.tuple hq
    have hal : a < s1.heap.objs.size := by obtain ⟨_, z, _⟩ := p'; exact Heap.lt_size z
    refine en_call (begins_tuple a its.toArray) p' fun h' he hit hsz hk => wpAny_pyIter_enum he ?_
    have I2 : Inv X pins σ H1 { s1 with heap := h' } := I1.kept (t' := s1.toks) hk
    refine ⟨s1.heap.objs.size + 1, [s1.heap.objs.size + 1, s1.heap.objs.size], _, _, H1, rfl, I2, turn_enumT a (s1.heap.objs.size + 1) s1.heap.objs.size,
      ⟨⟨.none, he⟩, ⟨_, hit, rfl, rfl⟩, Nat.succ_ne_self _, Nat.ne_of_gt (Nat.lt_succ_of_lt hal), Nat.ne_of_gt hal⟩, fun b hb => ?_, q⟩
    have hle : s1.heap.objs.size ≤ b := by
      rcases (show b = s1.heap.objs.size + 1 ∨ b = s1.heap.objs.size by simpa using hb) with z | z
      · rw [z]; exact Nat.le_add_right _ _
      · rw [z]; exact Nat.le_refl _
    exact I1.fpOk hle (I1.hok.fresh hle)
theorem for_enumT {K : PySem.W.Frag} {a : Addr} {xs : List V} {g : TG} {tb : TS} {D : Ends} {σ : St} {H : Hp} (Pv : Nat → St → Hp → Prop) (h0 : Pv 0 σ H) (hl : ∀ i σ H, i ≤ xs.length → Pv i σ H → SqT K H a xs)
    (hs : ∀ i x T σ H, xs[i]? = some x → Pv i σ H → H T = none → g (.ref T) σ (upd H T (.tup [.int (i : Nat), x])) fun σ2 H2 => tb { D with nx := Pv (i + 1), ct := Pv (i + 1), bk := D.nx } σ2 H2) (hd : ∀ σ H, Pv xs.length σ H → D.nx σ H) :
    ∃ W : Nat → Nat → St → Hp → Prop, (∃ m, W 0 m σ H) ∧ ∀ i m σ H, W i m σ H →
      ((ItT K a).stop i H ∧ D.nx σ H) ∨ ((ItT K a).go i H ∧ ∃ N : St → Hp → Prop, (∀ σ' H', N σ' H' → ∃ m', m' < m ∧ W (i + 1) m' σ' H') ∧ ∀ x H', (ItT K a).yld i H x H' → g x σ H' fun σ2 H2 => tb { D with nx := N, ct := N, bk := D.nx } σ2 H2) := by
  refine ⟨fun i m σ H => m = xs.length - i ∧ i ≤ xs.length ∧ Pv i σ H, ⟨xs.length, by simp, Nat.zero_le _, h0⟩, ?_⟩
  rintro i m σ H ⟨rfl, hi, p⟩
  have q := hl i σ H hi p
  by_cases hlt : i < xs.length
  · refine .inr ⟨⟨xs, xs[i], q, by simp [hlt]⟩, Pv (i + 1), fun σ' H' p' => ⟨xs.length - (i + 1), by omega, rfl, hlt, p'⟩, fun v H' y => ?_⟩
    obtain ⟨T, x, e, hT, e2, y⟩ := y
    subst e e2
    exact hs i x T σ _ (y xs q) p hT
  · have e : i = xs.length := by omega
    subst e
    exact .inl ⟨⟨xs, q, Nat.le_refl _⟩, hd σ H p⟩
end L2

set_option Elab.async false
set_option linter.all false
set_option maxRecDepth 100000
set_option maxHeartbeats 4000000
namespace L2
open PySem PySem.Spec PyProof.Rows
/-! ### list(zip(list, list)) -/
/-- a zip over the lists at a and b, k turns on -/
def ZL (q z TI TO i1 i2 a b : Addr) (k : Nat) (h : Heap) : Prop := IsPair h TI (.ref i1) (.ref i2) ∧ h.IsListIter i1 a k ∧ h.IsListIter i2 b k ∧
  ((IsZip h z TI TO .none ∧ ∃ x y, IsPair h TO x y) ∨ ∃ (T : Addr) (f : Bool) (oT : Obj), IsZipHeld h z TI TO T f ∧ h.get? T = some oT ∧ T ≠ q ∧ T ∉ [z, TI, TO, i1, i2])
theorem ZL.lt {q z TI TO i1 i2 a b : Addr} {k : Nat} {h : Heap} (x : ZL q z TI TO i1 i2 a b k h) : z < h.objs.size ∧ TI < h.objs.size ∧ i1 < h.objs.size ∧ i2 < h.objs.size := by
  obtain ⟨hTI, ⟨o1, e1, _⟩, ⟨o2, e2, _⟩, hz⟩ := x
  refine ⟨?_, Heap.lt_size hTI, Heap.lt_size e1, Heap.lt_size e2⟩
  rcases hz with ⟨hz, _⟩ | ⟨_, _, _, hz, _⟩ <;> exact Heap.lt_size hz
section
variable {X : Cx} {pins : List (Addr × Obj)} {σ : St} {H : Hp} {s : Shared} {q z TI TO i1 i2 a b : Addr} {A1 : Around} {E : Value → Shared → Prop}
theorem zl_next {k : Nat} {xs ys : List V} {x y : V} (D : ZipApart z TI TO i1 i2 a b) (hTO : TO < s.heap.objs.size) (hql : q < s.heap.objs.size) (I : Inv X pins σ H s) (hf : ∀ c ∈ [z, TI, TO, i1, i2], FpOk X pins H c) (st : ZL q z TI TO i1 i2 a b k s.heap) (hqx : SqL X.K H a xs) (hqy : SqL X.K H b ys) (hx : xs[k]? = some x) (hy : ys[k]? = some y) :
    wpAny (model X.prog X.w) A1 (pyNext (.ref z)) (fun r s' => ∃ T, r = some (.ref T) ∧ H T = none ∧ Inv X pins σ (upd H T (.tup [x, y])) s' ∧ (∀ c ∈ [z, TI, TO, i1, i2], FpOk X pins (upd H T (.tup [x, y])) c) ∧ ZL q z TI TO i1 i2 a b (k + 1) s'.heap ∧ TO < s'.heap.objs.size) E s := by
  have lts := st.lt
  obtain ⟨hTI, h1, h2, hz⟩ := st
  obtain ⟨its, rv, p, _⟩ := I.list hqx
  obtain ⟨its2, rv2, p2, _⟩ := I.list hqy
  obtain ⟨u, hu, ru⟩ := rv.get hx
  obtain ⟨u2, hu2, ru2⟩ := rv2.get hy
  have eu : its.toArray[k]? = some u := by simpa using hu
  have eu2 : its2.toArray[k]? = some u2 := by simpa using hu2
  have nin : s.heap.objs.size ∉ [z, TI, TO, i1, i2] := fun hm => by
    rcases (show s.heap.objs.size = z ∨ s.heap.objs.size = TI ∨ s.heap.objs.size = TO ∨ s.heap.objs.size = i1 ∨ s.heap.objs.size = i2 by simpa using hm) with q | q | q | q | q
    · exact absurd lts.1 (by rw [← q]; exact Nat.lt_irrefl _)
    · exact absurd lts.2.1 (by rw [← q]; exact Nat.lt_irrefl _)
    · exact absurd hTO (by rw [← q]; exact Nat.lt_irrefl _)
    · exact absurd lts.2.2.1 (by rw [← q]; exact Nat.lt_irrefl _)
    · exact absurd lts.2.2.2 (by rw [← q]; exact Nat.lt_irrefl _)
  have fin : ∀ h' : Heap, (∀ c o, c ∉ [z, TI, TO, i1, i2] → s.heap.get? c = some o → h'.get? c = some o) → IsPair h' s.heap.objs.size u u2 → h'.objs.size = s.heap.objs.size + 1 → ZL q z TI TO i1 i2 a b (k + 1) h' →
      ∃ T, some (Value.ref s.heap.objs.size) = some (.ref T) ∧ H T = none ∧ Inv X pins σ (upd H T (.tup [x, y])) { s with heap := h' } ∧ (∀ c ∈ [z, TI, TO, i1, i2], FpOk X pins (upd H T (.tup [x, y])) c) ∧ ZL q z TI TO i1 i2 a b (k + 1) h' ∧ TO < h'.objs.size := by
    intro h' hk hT hsz st'
    have new : ObjOk X.prog X.w (upd H s.heap.objs.size (.tup [x, y])) h' s.heap.objs.size (.tup [x, y]) :=
      ⟨by show 2 ≤ sizeLine; decide, [u, u2], .cons ru (.cons ru2 .nil), ⟨_, hT, rfl, _, rfl⟩⟩
    refine ⟨s.heap.objs.size, rfl, I.hok.fresh (Nat.le_refl _), I.turnedNew (t' := s.toks) (ch := [z, TI, TO, i1, i2]) hk hf (Nat.le_refl _) new, fun c hc => ?_, st', by rw [hsz]; exact Nat.lt_succ_of_lt hTO⟩
    obtain ⟨f0, f1⟩ := hf c hc
    exact ⟨by rw [upd_ne (fun e => nin (by rw [← e]; exact hc))]; exact f0, f1⟩
  rcases hz with ⟨hz, x0, y0, hTO'⟩ | ⟨T, f, oT, hz, hT, hTq, hn⟩
  · refine wpAny_pyNext_zip_item D hz hTI hTO' h1 h2 p.isList p2.isList eu eu2 fun h' a1 a2 a3 a4 a5 a6 hk => ?_
    exact fin h' (fun c o hc e => hk c o (fun q => hc (by simp [q])) (fun q => hc (by simp [q])) (fun q => hc (by simp [q])) (fun q => hc (by simp [q])) e) a5 a6
      ⟨hk _ _ D.TIz D.TITO D.TIi1 D.TIi2 hTI, a3, a4, .inr ⟨s.heap.objs.size, false, _, a1, a5, Nat.ne_of_gt hql, nin⟩⟩
  · have n1 : T ≠ z := fun q => hn (by simp [q])
    have n2 : T ≠ i1 := fun q => hn (by simp [q])
    have n3 : T ≠ i2 := fun q => hn (by simp [q])
    refine wpAny_pyNext_zip_item_held D hz hT hTI h1 h2 p.isList p2.isList eu eu2 fun h' a1 a3 a4 a5 a6 hk => ?_
    exact fin h' (fun c o hc e => hk c o (fun q => hc (by simp [q])) (fun q => hc (by simp [q])) (fun q => hc (by simp [q])) e) a5 a6
      ⟨hk _ _ D.TIz D.TIi1 D.TIi2 hTI, a3, a4, .inr ⟨T, true, oT, a1, hk _ _ n1 n2 n3 hT, hTq, hn⟩⟩
theorem zl_end {k : Nat} {xs ys : List V} (hh : A1.handled = none) (D : ZipApart z TI TO i1 i2 a b) (I : Inv X pins σ H s) (hf : ∀ c ∈ [z, TI, TO, i1, i2], FpOk X pins H c) (st : ZL q z TI TO i1 i2 a b k s.heap) (hqx : SqL X.K H a xs) (hqy : SqL X.K H b ys) (hend : xs.length ≤ k ∨ ys.length ≤ k) :
    wpAny (model X.prog X.w) A1 (pyNext (.ref z)) (fun r s' => r = none ∧ Inv X pins σ H s') E s := by
  obtain ⟨hTI, h1, h2, hz⟩ := st
  obtain ⟨its, rv, p, _⟩ := I.list hqx
  obtain ⟨its2, rv2, p2, _⟩ := I.list hqy
  have l1 := rv.length
  have l2 := rv2.length
  have he : its.toArray[k]? = none ∨ its2.toArray[k]? = none := by
    rcases hend with q | q
    · exact .inl (by simp; omega)
    · exact .inr (by simp; omega)
  have fin : ∀ h' : Heap, (∀ c o, c ∉ [z, TI, TO, i1, i2] → s.heap.get? c = some o → h'.get? c = some o) → Inv X pins σ H { s with heap := h' } := fun h' hk => I.turnedL (t' := s.toks) (ch := [z, TI, TO, i1, i2]) hk hf
  rcases hz with ⟨hz, x0, y0, hTO'⟩ | ⟨T, f, oT, hz, hT, hTq, hn⟩
  · exact wpAny_pyNext_zip_end hh D hz hTI hTO' h1 h2 p.isList p2.isList he fun h' hk => ⟨rfl, fin h' fun c o hc e => hk c o (fun q => hc (by simp [q])) (fun q => hc (by simp [q])) (fun q => hc (by simp [q])) (fun q => hc (by simp [q])) e⟩
  · exact wpAny_pyNext_zip_end_held hh D hz hT hTI h1 h2 p.isList p2.isList he fun h' hk => ⟨rfl, fin h' fun c o hc e => hk c o (fun q => hc (by simp [q])) (fun q => hc (by simp [q])) (fun q => hc (by simp [q])) e⟩
/-- so far: the list at q holds new pairs -/
def Prs2 (H : Hp) (xs ys : List V) (ts : List Addr) : Prop := ∀ (j : Nat) (t : Addr), ts[j]? = some t → ∃ x y, xs[j]? = some x ∧ ys[j]? = some y ∧ H t = some (.tup [x, y])
theorem zl_loop {Rs : Result → Shared → Prop} {xs ys : List V} {H0 : Hp} (hh : A1.in1.handled = none) (D : ZipApart z TI TO i1 i2 a b) (hqn : q ∉ [z, TI, TO, i1, i2]) (hn0 : H0 q = none) (hqx : SqL X.K H0 a xs) (hqy : SqL X.K H0 b ys) (hlen : xs.length ≤ ys.length) (hline : xs.length < sizeLine)
    (hdone : ∀ ts H s, Inv X pins σ H s → Same H0 H → ts.length = xs.length → H q = some (.lst (ts.map V.ref)) → Prs2 H xs ys ts → Rs (.ok (.ret .none)) s) :
    ∀ (m : Nat) (ts : List Addr) (H : Hp) (s : Shared), m = xs.length - ts.length → ts.length ≤ xs.length → Inv X pins σ H s → Same H0 H → H q = some (.lst (ts.map V.ref)) → Prs2 H xs ys ts → (∀ c ∈ [z, TI, TO, i1, i2], FpOk X pins H c) → ZL q z TI TO i1 i2 a b ts.length s.heap → TO < s.heap.objs.size →
      codeAny (model X.prog X.w) A1 (.builtin "list.extend.loop" ⟨[.ref q, .ref z, .none], []⟩) Rs s := by
  intro m
  induction m with
  | zero =>
    intro ts H s hm hl I sm hq hp hf st hTO
    refine codeAny_builtin PySem.F.entry_extend_loop ?_
    rw [Around.under_plainId PySem.F.plain_extend_loop _]
    show wpAny _ A1.in1 (pyNext (.ref z) >>= _) _ _ s
    have sx : SqL X.K H a xs := sm.seq hqx
    have sy : SqL X.K H b ys := sm.seq hqy
    refine wpAny_bind (thn (zl_end hh D I hf st sx sy (.inl (by omega))) fun r s' ⟨er, I'⟩ => ?_)
    subst er
    exact wpAny_pure (hdone ts H s' I' sm (by omega) hq hp)
  | succ m ih =>
    intro ts H s hm hl I sm hq hp hf st hTO
    refine codeAny_builtin PySem.F.entry_extend_loop ?_
    rw [Around.under_plainId PySem.F.plain_extend_loop _]
    show wpAny _ A1.in1 (pyNext (.ref z) >>= _) _ _ s
    have sx : SqL X.K H a xs := sm.seq hqx
    have sy : SqL X.K H b ys := sm.seq hqy
    have hi : ts.length < xs.length := by omega
    have hql : q < s.heap.objs.size := by
      obtain ⟨_, _, _, _, _, e0⟩ := I.lstM hq
      exact Heap.lt_size e0
    have hi2 : ts.length < ys.length := by omega
    refine wpAny_bind (thn (zl_next D hTO hql I hf st sx sy (List.getElem?_eq_getElem hi) (List.getElem?_eq_getElem hi2)) fun r s' hr => ?_)
    obtain ⟨T, rfl, hT, I', hf', st', hTO2⟩ := hr
    show wpAny _ A1.in1 (updateSeq q (·.push (.ref T)) >>= _) _ _ _
    have hqT : q ≠ T := ne_of_none hq hT
    have hq' : upd H T (.tup [xs[ts.length], ys[ts.length]]) q = some (.lst (ts.map V.ref)) := by rw [upd_ne hqT]; exact hq
    obtain ⟨zl, its, k, r2, hl2, e⟩ := I'.lstM hq'
    have hts : its.length = ts.length := by rw [← hl2, List.length_map]
    refine wpAny_bind (wpAny_updateSeq e rfl (wpAny_pure ⟨plainId_quiet PySem.F.plain_extend_loop _, ?_⟩) (by rw [List.size_toArray]; omega) (by show (its.toArray.push (.ref T)).size ≤ sizeLine + 1; rw [Array.size_push, List.size_toArray]; omega))
    have J := I'.lset (f := (·.push (Value.ref T))) (its' := its ++ [.ref T]) (t' := s'.toks) hq' e (by simp) (r2.append (.cons (show RelV (.ref T) (.ref T) from rfl) .nil)) (by rw [List.length_append, List.length_singleton, List.length_map]; omega)
    have em : ts.map V.ref ++ [V.ref T] = (ts ++ [T]).map V.ref := by rw [List.map_append]; rfl
    rw [em] at J
    have lq := Heap.lt_size e
    refine ih (ts ++ [T]) _ _ (by rw [List.length_append, List.length_singleton]; omega) (by rw [List.length_append, List.length_singleton]; omega) J (fun c o ec => ?_) upd_same (fun j t ej => ?_) (fun c hc => ?_) ?_ ?_
    · have hcT : c ≠ T := ne_of_none (sm _ _ ec) hT
      have hcq : c ≠ q := ne_of_none ec hn0
      rw [upd_ne hcq, upd_ne hcT]
      exact sm _ _ ec
    · by_cases hj : j < ts.length
      · rw [List.getElem?_append_left hj] at ej
        obtain ⟨x, y, ex, ey, et⟩ := hp j t ej
        have htT : t ≠ T := ne_of_none et hT
        have htq : t ≠ q := fun e => by
          rw [e, hq] at et
          cases et
        exact ⟨x, y, ex, ey, by rw [upd_ne htq, upd_ne htT]; exact et⟩
      · rw [List.getElem?_append_right (by omega)] at ej
        have hj2 : j = ts.length := by
          have := (List.getElem?_eq_some_iff.mp ej).1
          rw [List.length_singleton] at this
          omega
        subst hj2
        rw [Nat.sub_self] at ej
        cases ej
        exact ⟨_, _, List.getElem?_eq_getElem hi, List.getElem?_eq_getElem hi2, by rw [upd_ne (Ne.symm hqT), upd_same]⟩
    · obtain ⟨f0, f1⟩ := hf' c hc
      exact ⟨by rw [upd_ne (fun e => hqn (by rw [← e]; exact hc))]; exact f0, f1⟩
    · rw [List.length_append, List.length_singleton]
      obtain ⟨g1, g2, g3, g4⟩ := st'
      have ne : ∀ c, c ∈ [z, TI, TO, i1, i2] → c ≠ q := fun c hc e => hqn (by rw [← e]; exact hc)
      have up : ∀ (c : Addr) (o : Obj), c ≠ q → s'.heap.get? c = some o → (s'.heap.update q (Obj.mapSeq (·.push (Value.ref T)))).get? c = some o := fun c o hc ec => (Heap.get?_update_ne _ _ _ _ hc).trans ec
      refine ⟨up _ _ (ne TI (by simp)) g1, g2.at fun o ec => up _ o (ne i1 (by simp)) ec, g3.at fun o ec => up _ o (ne i2 (by simp)) ec, ?_⟩
      rcases g4 with ⟨w1, x0, y0, w2⟩ | ⟨T2, f, oT, w1, w2, w3, w4⟩
      · exact .inl ⟨up _ _ (ne z (by simp)) w1, x0, y0, up _ _ (ne TO (by simp)) w2⟩
      · exact .inr ⟨T2, f, oT, up _ _ (ne z (by simp)) w1, up _ _ w3 w2, w3, w4⟩
    · show TO < (s'.heap.update q (Obj.mapSeq (·.push (Value.ref T)))).objs.size
      rw [Heap.size_update]
      exact hTO2
end
end L2

set_option Elab.async false
set_option linter.all false
set_option maxRecDepth 100000
set_option maxHeartbeats 4000000
namespace L2
open PySem PySem.Spec PyProof.Rows
theorem zip_no_len : typeLookup (.type "zip") "__len__" = pure none := am_miss_of_fast (by decide +kernel)
theorem zip_no_hint : typeLookup (.type "zip") "__length_hint__" = pure none := am_miss_of_fast (by decide +kernel)
section
variable {X : Cx} {pins : List (Addr × Obj)} {σ : St} {H : Hp} {s : Shared} {q z TI TO i1 i2 a b : Addr} {A1 : Around} {E : Value → Shared → Prop}
theorem zl_hint {M : Model} {A : Around} {Q : Bool → Shared → Prop} {f0 : Value} (hz : IsZip s.heap z TI TO f0) (h : Q true s) : wpAny M A (Builtin.List.listLengthHint (.ref z)) Q E s := by
  have ty : PySem.W.Looks M s.heap (typeOf (.ref z)) (.type "zip") := fun A' Q' E' s' k q => wpAny_typeOf_ref (k _ _ hz) q
  unfold Builtin.List.listLengthHint
  refine wpAny_bind (wpAny_bind (ty.here ((PySem.W.Looks.of_pure zip_no_len).here ?_)))
  refine PySem.W.KFB.if_not rfl ?_
  refine PySem.W.KFB.if_not rfl ?_
  refine wpAny_bind (wpAny_bind (ty.here ((PySem.W.Looks.of_pure zip_no_hint).here ?_)))
  exact wpAny_pure h
theorem zl_extend {Rs : Result → Shared → Prop} {xs ys : List V} (hh : A1.in1.handled = none) (D : ZipApart z TI TO i1 i2 a b) (hqn : q ∉ [z, TI, TO, i1, i2]) (H0 : Hp) (e0 : H = upd H0 q (.lst [])) (hn0 : H0 q = none) (hqx : SqL X.K H0 a xs) (hqy : SqL X.K H0 b ys) (hlen : xs.length ≤ ys.length) (hline : xs.length < sizeLine)
    (hdone : ∀ ts H s, Inv X pins σ H s → Same H0 H → ts.length = xs.length → H q = some (.lst (ts.map V.ref)) → Prs2 H xs ys ts → Rs (.ok (.ret .none)) s)
    (I : Inv X pins σ H s) (hf : ∀ c ∈ [z, TI, TO, i1, i2], FpOk X pins H c) (hz : IsZip s.heap z TI TO .none) (hTI : IsPair s.heap TI (.ref i1) (.ref i2)) (hTO : ∃ x y, IsPair s.heap TO x y) (h1 : s.heap.IsListIter i1 a 0) (h2 : s.heap.IsListIter i2 b 0) :
    wpAny (model X.prog X.w) A1.in1 (Builtin.List.listExtendWith (.ref q) (.ref z) .none)
      (fun fin s' => match fin with | .done f => Rs (.ok f) s' | .again c' => c'.quiet = true ∧ codeAny (model X.prog X.w) A1 c' Rs s') (fun e s' => Rs (.error e) s') s := by
  have hq : H q = some (.lst []) := by rw [e0]; exact upd_same
  have hne : q ≠ z := fun e => hqn (by simp [e])
  have sm : Same H0 H := by
    intro c o ec
    rw [e0, upd_ne (ne_of_none ec hn0)]
    exact ec
  have ty : PySem.W.Looks (model X.prog X.w) s.heap (typeOf (.ref z)) (.type "zip") := fun A' Q' E' s' k q => wpAny_typeOf_ref (k _ _ hz) q
  unfold Builtin.List.listExtendWith
  refine wpAny_bind (ty.here ?_)
  have g1 : Builtin.List.listSameRef (.ref q) (.ref z) = false := by simp [Builtin.List.listSameRef, hne]
  have g2 : (Value.type "zip" == Value.type "list") = false := by decide +kernel
  have g3 : (Value.type "zip" == Value.type "tuple") = false := by decide +kernel
  simp only [g1, g2, g3, Bool.or_false, Bool.false_eq_true, if_false]
  refine wpAny_bind (wpAny_pyIter_zip hz ?_)
  refine wpAny_bind (wpAny_holding (zl_hint hz ?_))
  obtain ⟨zz, its, k, r3, hl3, e3⟩ := I.lstM hq
  cases r3
  obtain ⟨x0, y0, hTO⟩ := hTO
  have lTO : TO < s.heap.objs.size := Heap.lt_size hTO
  refine wpAny_ite_split (fun _ => ?_) (fun _ => wpAny_pure ⟨plainId_quiet PySem.F.plain_extend_loop _, zl_loop hh D hqn hn0 hqx hqy hlen hline hdone _ [] H s rfl (Nat.zero_le _) I sm hq (fun j t e => by cases e) hf ⟨hTI, h1, h2, .inl ⟨hz, x0, y0, hTO⟩⟩ lTO⟩)
  refine wpAny_bind (wpAny_rule ?_)
  refine wpAny_bind ?_
  show wpAny _ _ (updateSeq q (·.push .none) >>= fun _ => updateSeq q (·.pop)) _ _ _
  refine wpAny_bind (wpAny_updateSeq e3 rfl ?_)
  have I2 := I.lset (f := (·.push Value.none)) (its' := [Value.none]) (ys := [.non]) (t' := s.toks) hq e3 (by simp) (.cons rfl .nil) (by rw [List.length_singleton, sizeLine_eq]; decide)
  obtain ⟨z4, its4, k4, r4, hl4, e4⟩ := I2.lstM upd_same
  obtain ⟨u4, rfl, ru4⟩ := r4.one
  refine wpAny_updateSeq e4 rfl ?_ (by show 1 ≤ sizeLine; rw [sizeLine_eq]; decide) (by show 0 ≤ sizeLine + 1; exact Nat.zero_le _)
  have I3 := I2.lset (f := (·.pop)) (its := [u4]) (its' := []) (ys := []) (t' := s.toks) upd_same e4 (by rfl) .nil (Nat.zero_le _)
  rw [upd_upd] at I3
  have hH : upd H q (.lst []) = H := by
    funext b
    by_cases hb : b = q
    · rw [hb, upd_same, hq]
    · rw [upd_ne hb]
  rw [hH] at I3
  have ne : ∀ c, c ∈ [z, TI, TO, i1, i2] → c ≠ q := fun c hc e => hqn (by rw [← e]; exact hc)
  have up : ∀ (c : Addr) (o : Obj), c ≠ q → s.heap.get? c = some o → ((s.heap.update q (Obj.mapSeq (·.push Value.none))).update q (Obj.mapSeq (·.pop))).get? c = some o := fun c o hc ec =>
    (Heap.get?_update_ne _ _ _ _ hc).trans ((Heap.get?_update_ne _ _ _ _ hc).trans ec)
  refine wpAny_pure ⟨plainId_quiet PySem.F.plain_extend_loop _, zl_loop hh D hqn hn0 hqx hqy hlen hline hdone _ [] H _ rfl (Nat.zero_le _) I3 sm hq (fun j t e => by cases e) hf
    ⟨up _ _ (ne TI (by simp)) hTI, h1.at fun o ec => up _ o (ne i1 (by simp)) ec, h2.at fun o ec => up _ o (ne i2 (by simp)) ec, .inl ⟨up _ _ (ne z (by simp)) hz, x0, y0, up _ _ (ne TO (by simp)) hTO⟩⟩ (Heap.lt_size (up _ _ (ne TO (by simp)) hTO))⟩
def tListZip (K : PySem.W.Frag) (t : TA) : TE := fun σ H Q => t σ H fun vs H1 => ∃ (a b : Addr) (xs ys : List V), vs = [.ref a, .ref b] ∧ SqL K H1 a xs ∧ SqL K H1 b ys ∧ xs.length ≤ ys.length ∧ xs.length < sizeLine ∧
  ∀ (H' : Hp) (q : Addr) (ts : List Addr), Same H1 H' → ts.length = xs.length → H' q = some (.lst (ts.map V.ref)) → Prs2 H' xs ys ts → Q (.ref q) H'
theorem pe_listzip {e e2 : Expr} {t : TA} {p p2 pos pos2 : Pos} (hc : X.calm = true) (hg : Gl X "list") (hm : X.mg "list" = none) (hg2 : Gl X "zip") (hm2 : X.mg "zip" = none) (ha : PA X [e, e2] t)
    (hs : starEach [.Call (.Name "zip" p2) [e, e2] [] pos2] X.env = (false, eval (.Call (.Name "zip" p2) [e, e2] [] pos2) X.env) :: starEach [] X.env := by rfl)
    (hs2 : starEach [e, e2] X.env = (false, eval e X.env) :: starEach [e2] X.env := by rfl) (hpl : (backTo pos2 (starEach [e2] X.env)).any (·.1) = false := by rfl) :
    PE X (.Call (.Name "list" p) [.Call (.Name "zip" p2) [e, e2] [] pos2] [] pos) (tListZip X.K t) := by
  refine ⟨fun pins s σ H Q I hq => ?_⟩
  refine wpAny_Call_Name_kw (ld_blt I hg hm (u := .type "list") (by decide +kernel) ?_)
  refine PyProof.Rows.callWith_type1 ?_ hs rfl
  rw [hs]
  show wpAny _ _ (spliced ((false, eval (.Call (.Name "zip" p2) [e, e2] [] pos2) X.env) :: backTo pos (starEach [] X.env))) _ _ s
  refine Calls.spliced_cons ?_
  refine wpAny_Call_Name_kw (ld_blt I hg2 hm2 PyProof.Rows.boot_zip ?_)
  refine PyProof.Rows.callWith_type1 (thn (ha.run pos2 pins s σ H _ I hq) fun us s1 ⟨vs, H1, I1, r1, q1⟩ => ?_) hs2 hpl
  obtain ⟨a, b, xs, ys, ex, hqx, hqy, hlen, hline, q⟩ := q1
  subst ex
  cases r1 with
  | cons r rr =>
    cases rr with
    | cons r' rr =>
      cases rr
      cases r
      cases r'
      obtain ⟨its, rv, p1, _⟩ := I1.list hqx
      obtain ⟨its2, rv2, p2, _⟩ := I1.list hqy
      have la : a < s1.heap.objs.size := p1.lt
      have lb : b < s1.heap.objs.size := p2.lt
      refine call_zip_2 p1.isList p2.isList fun h' hz hTI hTO h1 h2 hsz hk => ?_
      have I2 : Inv X pins σ H1 { s1 with heap := h' } := I1.kept (t' := s1.toks) hk
      refine Calls.spliced_nil ?_
      have D := PySem.W.ktu_apart s1.heap.objs.size a b la lb
      refine callType_codes (Q₁ := fun obj s₁ => obj = .ref h'.objs.size ∧ s₁ = { s1 with heap := h'.push { cls := .type "list", data := .seq #[] } }) PySem.F.called_list (PySem.F.typeCall_list_1 _) PySem.F.entry_list_init
        (code_list_new _ ⟨rfl, rfl⟩) fun obj s₁ h₁ => ?_
      obtain ⟨rfl, rfl⟩ := h₁
      have hS : (h'.push { cls := .type "list", data := .seq #[] }).get? h'.objs.size = some { cls := .type "list", data := .seq #[] } := Heap.get?_push_size _ rfl
      refine ⟨⟨_, hS, rfl⟩, PySem.F.args_list_init_2 _ _, ?_⟩
      have fr : H1 h'.objs.size = none := I2.hok.fresh (Nat.le_refl _)
      have I3 : Inv X pins σ (upd H1 h'.objs.size (.lst [])) { s1 with heap := h'.push { cls := .type "list", data := .seq #[] } } := I2.lnew (its := []) (t' := s1.toks) .nil (Nat.zero_le _)
      show wpAny _ _ (do let old ← Builtin.List.listItems (.ref h'.objs.size); Builtin.List.listUpdate (.ref h'.objs.size) (fun _ => #[]); letGo old.toList.reverse; Builtin.List.listExtendWith (.ref h'.objs.size) (.ref (s1.heap.objs.size + 4)) .none) _ _ _
      refine wpAny_bind ?_
      unfold Builtin.List.listItems
      refine wpAny_bind (wpAny_seqItems hS rfl (wpAny_pure ?_))
      show wpAny _ _ (updateSeq h'.objs.size (fun _ => #[]) >>= fun _ => letGo (#[] : Array Value).toList.reverse >>= fun _ => Builtin.List.listExtendWith (.ref h'.objs.size) (.ref (s1.heap.objs.size + 4)) .none) _ _ _
      refine wpAny_bind (wpAny_updateSeq hS rfl ?_)
      have I4 := I3.lset (f := fun _ => #[]) (its := []) (its' := []) (ys := []) (t' := s1.toks) upd_same hS rfl .nil (Nat.zero_le _)
      rw [upd_upd] at I4
      refine wpAny_bind (wpAny_letGo ?_)
      have five : ∀ c, c ∈ [s1.heap.objs.size + 4, s1.heap.objs.size + 2, s1.heap.objs.size + 3, s1.heap.objs.size, s1.heap.objs.size + 1] → s1.heap.objs.size ≤ c ∧ c < h'.objs.size := fun c hcm => by
        have e' : c = s1.heap.objs.size + 4 ∨ c = s1.heap.objs.size + 2 ∨ c = s1.heap.objs.size + 3 ∨ c = s1.heap.objs.size ∨ c = s1.heap.objs.size + 1 := by simpa using hcm
        rw [hsz]
        rcases e' with z | z | z | z | z
        · rw [z]; exact ⟨Nat.le_add_right _ _, Nat.add_lt_add_left (by decide) _⟩
        · rw [z]; exact ⟨Nat.le_add_right _ _, Nat.add_lt_add_left (by decide) _⟩
        · rw [z]; exact ⟨Nat.le_add_right _ _, Nat.add_lt_add_left (by decide) _⟩
        · rw [z]; exact ⟨Nat.le_refl _, Nat.lt_add_of_pos_right (by decide)⟩
        · rw [z]; exact ⟨Nat.le_add_right _ _, Nat.add_lt_add_left (by decide) _⟩
      have hqn : h'.objs.size ∉ [s1.heap.objs.size + 4, s1.heap.objs.size + 2, s1.heap.objs.size + 3, s1.heap.objs.size, s1.heap.objs.size + 1] := fun hm => Nat.lt_irrefl _ (five _ hm).2
      have up : ∀ (c : Addr) (o : Obj), h'.get? c = some o → ((h'.push { cls := .type "list", data := .seq #[] }).update h'.objs.size (Obj.mapSeq fun _ => #[])).get? c = some o := fun c o ec =>
        (Heap.get?_update_ne _ _ _ _ (Nat.ne_of_lt (Heap.lt_size ec))).trans (Heap.get?_push_of_some _ ec)
      refine zl_extend (A1 := X.A.in1) (Rs := wants (fun r s₂ => r = .none ∧ EP X pins σ Q (.ref h'.objs.size) s₂) X.xe) (I.ok.hd hc) D hqn H1 rfl fr hqx hqy hlen hline
        (fun ts H' s' I' sm l1 l2 l3 => ⟨rfl, .ref h'.objs.size, H', I', rfl, q H' _ ts sm l1 l2 l3⟩) I4 (fun c hcm => ?_) (up _ _ hz) (up _ _ hTI) ⟨_, _, up _ _ hTO⟩ (h1.at fun o ec => up _ o ec) (h2.at fun o ec => up _ o ec)
      obtain ⟨c1, c2⟩ := five c hcm
      have f := I1.fpOk (H' := H1) c1 (I1.hok.fresh c1)
      exact ⟨by rw [upd_ne (Nat.ne_of_lt c2)]; exact f.1, f.2⟩
end
end L2

set_option Elab.async false
set_option linter.all false
set_option maxRecDepth 100000
set_option maxHeartbeats 4000000
/-! Draws from a well; lists put together; enumerate. -/
namespace L2
open PySem PySem.Spec PyProof.Rows
/-- list + list, whoever holds them -/
def rCatS (K : PySem.W.Frag) : R2 := fun x y H Q => ∃ l b xs zs, x = .ref l ∧ y = .ref b ∧ SqL K H l xs ∧ SqL K H b zs ∧ xs.length + zs.length ≤ sizeLine ∧ ∀ p, H p = none → Q (.ref p) (upd H p (.lst (xs ++ zs)))
theorem op_catS {X : Cx} : OpR X (binaryOp .Add) (rCatS X.K) := by
  intro pins s σ H x y v u Q I rx ry h
  obtain ⟨l, b, xs, zs, rfl, rfl, hH, hB, hz, q⟩ := h
  cases rx
  cases ry
  obtain ⟨its, r, p1, z⟩ := I.list hH
  obtain ⟨its2, r2, p2, z2⟩ := I.list hB
  have hl := r.length
  have hl2 := r2.length
  obtain ⟨⟨cls, dd, data, sl⟩, ho, hc, n, hd⟩ := id p1.isList
  obtain ⟨⟨cls2, dd2, data2, sl2⟩, ho2, hc2, n2, hd2⟩ := id p2.isList
  simp only at hc hd hc2 hd2
  subst hc hd hc2 hd2
  open PySem.P in
  refine concat_meets ⟨_, ho, rfl⟩ ⟨_, ho2, rfl⟩ noFill_list_add seq_list_add PySem.F.slot_list_add PySem.F.entry_list_add (PySem.F.args_list_add_2 _ _) (list_addW l b its.toArray its2.toArray n n2 dd dd2 sl sl2 (by rw [List.size_toArray, List.size_toArray]; omega)) ⟨ho, ho2, ?_⟩
  have ea : its.toArray ++ its2.toArray = (its ++ its2).toArray := by simp
  rw [ea]
  exact ⟨.ref _, _, I.lnew (t' := s.toks) (r.append r2) (by rw [List.length_append]; omega), rfl, q _ I.fresh⟩
theorem for_enum {K : PySem.W.Frag} {a : Addr} {xs : List V} {g : TG} {tb : TS} {D : Ends} {σ : St} {H : Hp} (Pv : Nat → St → Hp → Prop) (h0 : Pv 0 σ H) (hl : ∀ i σ H, i ≤ xs.length → Pv i σ H → SqL K H a xs)
    (hs : ∀ i x T σ H, xs[i]? = some x → Pv i σ H → H T = none → g (.ref T) σ (upd H T (.tup [.int (i : Nat), x])) fun σ2 H2 => tb { D with nx := Pv (i + 1), ct := Pv (i + 1), bk := D.nx } σ2 H2) (hd : ∀ σ H, Pv xs.length σ H → D.nx σ H) :
    ∃ W : Nat → Nat → St → Hp → Prop, (∃ m, W 0 m σ H) ∧ ∀ i m σ H, W i m σ H →
      ((Ite K a).stop i H ∧ D.nx σ H) ∨ ((Ite K a).go i H ∧ ∃ N : St → Hp → Prop, (∀ σ' H', N σ' H' → ∃ m', m' < m ∧ W (i + 1) m' σ' H') ∧ ∀ x H', (Ite K a).yld i H x H' → g x σ H' fun σ2 H2 => tb { D with nx := N, ct := N, bk := D.nx } σ2 H2) := by
  refine ⟨fun i m σ H => m = xs.length - i ∧ i ≤ xs.length ∧ Pv i σ H, ⟨xs.length, by simp, Nat.zero_le _, h0⟩, ?_⟩
  rintro i m σ H ⟨rfl, hi, p⟩
  have q := hl i σ H hi p
  by_cases hlt : i < xs.length
  · refine .inr ⟨⟨xs, xs[i], q, by simp [hlt]⟩, Pv (i + 1), fun σ' H' p' => ⟨xs.length - (i + 1), by omega, rfl, hlt, p'⟩, fun v H' y => ?_⟩
    obtain ⟨T, x, e, hT, e2, y⟩ := y
    subst e e2
    exact hs i x T σ _ (y xs q) p hT
  · have e : i = xs.length := by omega
    subst e
    exact .inl ⟨⟨xs, q, Nat.le_refl _⟩, hd σ H p⟩
/-- a well: three numbers in a list at a -/
def Well (H : Hp) (a : Addr) (n : Int) : Prop := ∃ w0 w1 w2 : Int, H a = some (.lst [.int w0, .int w1, .int w2]) ∧ 0 ≤ w0 ∧ 0 ≤ w1 ∧ w1 < 4294967296 ∧ 0 ≤ w2 ∧ w2 ≤ n
/-- nothing but a is otherwise -/
def But (a : Addr) (H H' : Hp) : Prop := ∀ b, b ≠ a → H' b = H b
theorem But.refl (a : Addr) (H : Hp) : But a H H := fun _ _ => rfl
theorem But.trans {a : Addr} {H H1 H2 : Hp} (x : But a H H1) (y : But a H1 H2) : But a H H2 := fun b hb => (y b hb).trans (x b hb)
theorem But.upd {a : Addr} {H : Hp} {o : HO} : But a H (upd H a o) := fun b hb => upd_ne hb
theorem at0 {x y z : V} : atI [x, y, z] 0 = some x := rfl
theorem at1 {x y z : V} : atI [x, y, z] 1 = some y := rfl
theorem at2 {x y z : V} : atI [x, y, z] 2 = some z := rfl
theorem ix0 : ixN 3 0 = some 0 := rfl
theorem ix2 : ixN 3 2 = some 2 := rfl
/-- draw(well, many): a number from 0 to many - 1, the well at most one count further -/
def spDraw : Sp := fun vs H Q _ => ∃ (a : Addr) (m n : Int), vs = [.ref a, .int m] ∧ Well H a n ∧ n < 1000000 ∧ 0 < m ∧ m < 1073741824 ∧ ∀ r H', 0 ≤ r → r < m → But a H H' → Well H' a (n + 1) → Q (.int r) H'
/-- one(well, some): one of them -/
def spOne (K : PySem.W.Frag) : Sp := fun vs H Q _ => ∃ (a b : Addr) (n : Int) (xs : List V), vs = [.ref a, .ref b] ∧ Well H a n ∧ n < 1000000 ∧ a ≠ b ∧ H b = some (.lst xs) ∧ 0 < xs.length ∧ xs.length < 1000000 ∧ ∀ x H', x ∈ xs → But a H H' → Well H' a (n + 1) → Q x H'
theorem fmod_in {x m : Int} (hm : 0 < m) : 0 ≤ x.fmod m ∧ x.fmod m < m := by
  rw [Int.fmod_eq_emod_of_nonneg x (Int.le_of_lt hm)]
  exact ⟨Int.emod_nonneg _ (by omega), Int.emod_lt_of_pos _ hm⟩
theorem fdiv_in {x m : Int} (hx : 0 ≤ x) (hm : 0 < m) : 0 ≤ x.fdiv m := by
  rw [Int.fdiv_eq_ediv_of_nonneg x (Int.le_of_lt hm)]
  exact Int.ediv_nonneg hx (Int.le_of_lt hm)
theorem divN {i m : Int} (h0 : 0 < m) (h1 : m < 1073741824) : CDivN i m := ⟨by omega, by omega⟩
theorem same_upd {H : Hp} {p : Addr} {o : HO} (h : H p = none) : Same H (upd H p o) := fun b x e => by
  rw [upd_ne (ne_of_none e h)]
  exact e
theorem ba {a b : Bool} (h : (a && b) = true) : a = true ∧ b = true := Bool.and_eq_true_iff.mp h
end L2

set_option Elab.async false
set_option linter.all false
set_option maxRecDepth 100000
set_option maxHeartbeats 4000000
namespace K1
open PySem PySem.Spec PyProof.Rows L2
def top (i : Nat) : Stmt := PySem.Challenge.pw_gridlanes_k01_whole_words_in_lines.main.body.getD i (.Pass ⟨0, 0, 0, 0⟩)
abbrev FnP (K : PySem.W.Frag) (x : Str) (st : Stmt) (f : Addr) (fd : FuncData) : Prop := FunD K x x (defArgs st) (defBody st) (defScope st) [] [] f fd
/-! ### numbers -/
def NumP (H : Hp) (v : V) (t : Int) (b : Nat) : Prop := (v = .int t ∧ b = 1) ∨ ∃ p, v = .ref p ∧ H p = some (.tup [.int t, .int (b : Int)])
def NumAt (H : Hp) (v : V) (q : Rat) : Prop := (q.den = 1 ∧ v = .int q.num) ∨ (q.den ≠ 1 ∧ ∃ p, v = .ref p ∧ H p = some (.tup [.int q.num, .int (q.den : Int)]))
theorem NumAt.p {H : Hp} {v : V} {q : Rat} (h : NumAt H v q) : NumP H v q.num q.den := by
  rcases h with ⟨e, h⟩ | ⟨_, h⟩
  · exact .inl ⟨h, e⟩
  · exact .inr h
theorem NumP.same {H H' : Hp} {v : V} {t : Int} {b : Nat} (h : NumP H v t b) (s : Same H H') : NumP H' v t b := by
  rcases h with h | ⟨p, e, h⟩
  · exact .inl h
  · exact .inr ⟨p, e, s _ _ h⟩
theorem NumAt.same {H H' : Hp} {v : V} {q : Rat} (h : NumAt H v q) (s : Same H H') : NumAt H' v q := by
  rcases h with h | ⟨n, p, e, h⟩
  · exact .inl h
  · exact .inr ⟨n, p, e, s _ _ h⟩
theorem numInt {H : Hp} (i : Int) : NumAt H (.int i) (i : Rat) := .inl ⟨Rat.den_intCast .., by rw [Rat.num_intCast]⟩
theorem mk_num {t : Int} {b : Nat} (hb : 0 < b) : (mkRat t b).num = t / ((Nat.gcd t.natAbs b : Nat) : Int) := by
  rw [Rat.num_mkRat, if_neg (by omega), Nat.gcd_comm]
theorem mk_den {t : Int} {b : Nat} (hb : 0 < b) : (mkRat t b).den = b / Nat.gcd t.natAbs b := by
  rw [Rat.den_mkRat, if_neg (by omega), Nat.gcd_comm]
theorem gcd_le {t : Int} {b : Nat} (hb : 0 < b) : 0 < Nat.gcd t.natAbs b ∧ Nat.gcd t.natAbs b ≤ b := ⟨Nat.gcd_pos_of_pos_right _ hb, Nat.gcd_le_right _ hb⟩
theorem den_one {t : Int} {b : Nat} (hb : 0 < b) : (mkRat t b).den = 1 ↔ Nat.gcd t.natAbs b = b := by
  rw [mk_den hb]
  obtain ⟨g0, g1⟩ := gcd_le (t := t) hb
  constructor
  · intro h
    have z := Nat.mul_div_cancel' (Nat.gcd_dvd_right t.natAbs b)
    rw [h, Nat.mul_one] at z
    exact z
  · intro h
    rw [h]
    exact Nat.div_self hb
/-- the values of top // g and (top // g, bottom // g), g the greatest common divisor -/
theorem mk_int {H : Hp} {t : Int} {b : Nat} (hb : 0 < b) (h : Nat.gcd t.natAbs b = b) : NumAt H (.int (t / (b : Int))) (mkRat t b) := .inl ⟨(den_one hb).mpr h, by rw [mk_num hb, h]⟩
theorem mk_tup {H : Hp} {t : Int} {b : Nat} {p : Addr} (hb : 0 < b) (h : Nat.gcd t.natAbs b ≠ b) (hp : H p = some (.tup [.int (t / ((Nat.gcd t.natAbs b : Nat) : Int)), .int ((b : Int) / ((Nat.gcd t.natAbs b : Nat) : Int))])) : NumAt H (.ref p) (mkRat t b) := by
  refine .inr ⟨fun e => h ((den_one hb).mp e), p, rfl, ?_⟩
  rw [mk_num hb, mk_den hb, Int.natCast_ediv]
  exact hp
def S2 : Nat := 2 ^ 200
def Sz (t : Int) (b : Nat) : Prop := t.natAbs < 2 ^ 98 ∧ 0 < b ∧ b < 2 ^ 98
theorem wm {i j : Int} (ha : i.natAbs < 2 ^ 98) (hb : j.natAbs < 2 ^ 98) : CMulW i j := wide_mul ha hb (by decide) (by decide) (by decide)
theorem wl {i j : Int} (ha : i.natAbs < 2 ^ 98) (hb : j.natAbs < 2 ^ 98) : (i * j).natAbs < 2 ^ 196 := wide_lt ha hb
theorem Sz.bot {t t' : Int} {b b' : Nat} (h : Sz t b) (h' : Sz t' b') : 0 < b * b' ∧ b * b' < 2 ^ 199 := by
  refine ⟨Nat.mul_pos h.2.1 h'.2.1, ?_⟩
  have : b * b' < 2 ^ 98 * 2 ^ 98 := Nat.mul_lt_mul'' h.2.2 h'.2.2
  exact Nat.lt_trans this (by decide)
theorem Sz.top {t t' : Int} {b b' : Nat} (h : Sz t b) (h' : Sz t' b') : (t * b' + t' * b).natAbs < 2 ^ 199 := by
  have h1 : (t * (b' : Int)).natAbs < 2 ^ 196 := wl h.1 h'.2.2
  have h2 : (t' * (b : Int)).natAbs < 2 ^ 196 := wl h'.1 h.2.2
  have h3 := Int.natAbs_add_le (t * (b' : Int)) (t' * (b : Int))
  omega
theorem Sz.prod {t t' : Int} {b b' : Nat} (h : Sz t b) (h' : Sz t' b') : (t * t').natAbs < 2 ^ 199 := Nat.lt_trans (wl h.1 h'.1) (by decide)
/-! ### Euclid, turn by turn -/
def eu : Nat → Nat → Nat → Nat × Nat
  | 0, a, b => (a, b)
  | n + 1, a, b => if b = 0 then eu n a b else eu n b (a % b)
theorem eu_zero : ∀ n a, eu n a 0 = (a, 0)
  | 0, _ => rfl
  | n + 1, a => by
    show (if 0 = 0 then eu n a 0 else _) = _
    rw [if_pos rfl]
    exact eu_zero n a
theorem eu_gcd : ∀ n m a b, b < 2 ^ n → eu (2 * n + 1 + m) a b = (Nat.gcd a b, 0) := by
  intro n
  induction n with
  | zero =>
    intro m a b h
    have : b = 0 := by omega
    subst this
    rw [eu_zero, Nat.gcd_zero_right]
  | succ n ih =>
    intro m a b h
    by_cases hb : b = 0
    · subst hb
      rw [eu_zero, Nat.gcd_zero_right]
    · have e : 2 * (n + 1) + 1 + m = (2 * n + 1 + m) + 1 + 1 := by omega
      rw [e]
      show (if b = 0 then _ else eu (2 * n + 1 + m + 1) b (a % b)) = _
      rw [if_neg hb]
      have hr := Nat.mod_lt a (Nat.pos_of_ne_zero hb)
      by_cases h0 : a % b = 0
      · rw [h0, eu_zero, Nat.gcd_comm, Nat.gcd_rec, h0, Nat.gcd_zero_left]
      · show (if a % b = 0 then _ else eu (2 * n + 1 + m) (a % b) (b % (a % b))) = _
        rw [if_neg h0]
        have h2 := Nat.mod_lt b (Nat.pos_of_ne_zero h0)
        have h3 : a % b + b % (a % b) ≤ b := by
          have h4 := Nat.div_add_mod b (a % b)
          have h5 : 1 ≤ b / (a % b) := (Nat.le_div_iff_mul_le (Nat.pos_of_ne_zero h0)).mpr (by omega)
          have h6 : a % b * 1 ≤ a % b * (b / (a % b)) := Nat.mul_le_mul_left _ h5
          omega
        have h7 : 2 ^ (n + 1) = 2 * 2 ^ n := by rw [Nat.pow_succ, Nat.mul_comm]
        rw [ih m _ _ (by omega), Nat.gcd_comm (a % b), ← Nat.gcd_rec, ← Nat.gcd_rec, Nat.gcd_comm b a]
section
variable {P : Program} {w : World} {K : PySem.W.Frag} {mg : Str → Option Value} {base : Heap}
structure Nm (mg : Str → Option Value) : Prop where
  isi : mg "isinstance" = none
  tint : mg "int" = none
  tbool : mg "bool" = none
  ttup : mg "tuple" = none
  tlst : mg "list" = none
  len : mg "len" = none
  abs : mg "abs" = none
  rng : mg "range" = none
  enu : mg "enumerate" = none
  zip : mg "zip" = none
  gcd : mg "gcd" = some (.builtin "math.gcd")
/-! ### the program's numbers -/
def spInt : Sp := fun vs H Q _ => ∃ i : Int, vs = [.int i] ∧ Q (.bl true) H
theorem scInt : FnScope ["value"] ["value"] (defScope (top 7)) := ⟨rfl, rfl, rfl, by decide +kernel, rfl, by decide +kernel, by decide +kernel⟩
theorem ok_int {f : Addr} {fd : FuncData} (F : FnP K "is_integer" (top 7) f fd) (N : Nm mg) : FnOk P w K mg base CX0 1 f fd ["value"] spInt := by
  refine F.ok scInt (fun vs H Q E h => ?_) (fun cdv A outer s H vs Q E hr h => ?_)
  · obtain ⟨i, rfl, _⟩ := h
    rfl
  · obtain ⟨i, rfl, k⟩ := h
    refine ⟨_, PSs.nox (pss_one (ps_ret (pe_and (pe_callB call_isi (by rfl) N.isi (by decide +kernel) (pa_cons (pv 0) (pa_cons (pe_bltn (v := .ty "int") (u := .type "int") rfl N.tint (by decide +kernel) rfl) pa_nil)))
      (pe_one (pe_not (pe_callB call_isi (by rfl) N.isi (by decide +kernel) (pa_cons (pv 0) (pa_cons (pe_bltn (v := .ty "bool") (u := .type "bool") rfl N.tbool (by decide +kernel) rfl) pa_nil)))))))), ?_⟩
    refine ⟨_, rfl, _, _, _, _, true, rfl, .ty _, .base (.int i), kit_ty (by decide +kernel), true, rfl, iteT ?_⟩
    exact ⟨_, rfl, _, _, _, _, false, rfl, .ty _, .base (.int i), kit_ty (by decide +kernel), false, rfl, k⟩
theorem bi1 {x p : Str} {i : Nat} {f : Addr} {fd : FuncData} (F : FnP K x (top i) f fd) (h : ∀ (kV doc pm : Value) (an : Option Addr) (cdv ct : Value) (u : Value), bindArgs (PySem.W.fnOf x x (defArgs (top i)) (defBody (top i)) (defScope (top i)) .none kV doc pm an cdv ct) ⟨[u], []⟩ = pure [(p, u)] := by intros; rfl) : Binds K fd [p] [] := F.bindsN fun _ _ _ _ _ _ us hl => match us, hl with | [_], _ => h _ _ _ _ _ _ _
end
end K1

set_option Elab.async false
set_option linter.all false
set_option maxRecDepth 100000
set_option maxHeartbeats 4000000
namespace K1
open PySem PySem.Spec PyProof.Rows L2
section
variable {P : Program} {w : World} {K : PySem.W.Frag} {mg : Str → Option Value} {base : Heap}
theorem bi2 {x p1 p2 : Str} {i : Nat} {f : Addr} {fd : FuncData} (F : FnP K x (top i) f fd) (h : ∀ (kV doc pm : Value) (an : Option Addr) (cdv ct : Value) (u v : Value), bindArgs (PySem.W.fnOf x x (defArgs (top i)) (defBody (top i)) (defScope (top i)) .none kV doc pm an cdv ct) ⟨[u, v], []⟩ = pure [(p1, u), (p2, v)] := by intros; rfl) : Binds K fd [p1, p2] [] := F.bindsN fun _ _ _ _ _ _ us hl => match us, hl with | [_, _], _ => h _ _ _ _ _ _ _ _
theorem bi3 {x p1 p2 p3 : Str} {i : Nat} {f : Addr} {fd : FuncData} (F : FnP K x (top i) f fd) (h : ∀ (kV doc pm : Value) (an : Option Addr) (cdv ct : Value) (u v z : Value), bindArgs (PySem.W.fnOf x x (defArgs (top i)) (defBody (top i)) (defScope (top i)) .none kV doc pm an cdv ct) ⟨[u, v, z], []⟩ = pure [(p1, u), (p2, v), (p3, z)] := by intros; rfl) : Binds K fd [p1, p2, p3] [] := F.bindsN fun _ _ _ _ _ _ us hl => match us, hl with | [_, _, _], _ => h _ _ _ _ _ _ _ _ _
/-- a def of one, two parameters as its callers need it -/
structure D1 (P : Program) (w : World) (K : PySem.W.Frag) (mg : Str → Option Value) (base : Heap) (x p : Str) (k : Nat) (sp : Sp) (f : Addr) (fd : FuncData) : Prop where
  G : FnOk P w K mg base CX0 k f fd [p] sp
  g : mg x = some (.ref f)
  kp : PySem.W.keepIn K (.ref f) = true
  b : Binds K fd [p] []
structure D2 (P : Program) (w : World) (K : PySem.W.Frag) (mg : Str → Option Value) (base : Heap) (x p q : Str) (k : Nat) (sp : Sp) (f : Addr) (fd : FuncData) : Prop where
  G : FnOk P w K mg base CX0 k f fd [p, q] sp
  g : mg x = some (.ref f)
  kp : PySem.W.keepIn K (.ref f) = true
  b : Binds K fd [p, q] []
structure D3 (P : Program) (w : World) (K : PySem.W.Frag) (mg : Str → Option Value) (base : Heap) (x p q r : Str) (k : Nat) (sp : Sp) (f : Addr) (fd : FuncData) : Prop where
  G : FnOk P w K mg base CX0 k f fd [p, q, r] sp
  g : mg x = some (.ref f)
  kp : PySem.W.keepIn K (.ref f) = true
  b : Binds K fd [p, q, r] []
def spNum : Sp := fun vs H Q _ => ∃ (v : V) (q : Rat), vs = [v] ∧ NumAt H v q ∧ Q (.bl true) H
theorem scNum : FnScope ["value"] ["value"] (defScope (top 8)) := ⟨rfl, rfl, rfl, by decide +kernel, rfl, by decide +kernel, by decide +kernel⟩
theorem red2 {q : Rat} (h : q.den ≠ 1) : 2 ≤ (q.den : Int) := by
  have := q.den_pos
  omega
theorem ok_num {f fI CM : Addr} {fd dI : FuncData} (F : FnP K "is_number" (top 8) f fd) (N : Nm mg) (gMo : mg "Moment" = some (.ref CM)) (d_is_integer : D1 P w K mg base "is_integer" "value" 1 spInt fI dI) : FnOk P w K mg base CX0 2 f fd ["value"] spNum := by
  refine F.ok scNum (fun vs H Q E h => ?_) (fun cdv A outer s H vs Q E hr h => ?_)
  · obtain ⟨v, q, rfl, _⟩ := h
    rfl
  · obtain ⟨v, q, rfl, hv, k⟩ := h
    refine ⟨_, PSs.nox (pss_cons (ps_if (pt_not (pt_val (pe_callB call_isi (by rfl) N.isi (by decide +kernel) (pa_cons (pv 0) (pa_cons (pe_bltn (v := .ty "tuple") (u := .type "tuple") (by rfl) N.ttup (by decide +kernel) rfl) pa_nil)))))
    (pss_one (ps_ret (pe_call d_is_integer.G (hr.mono (by decide)) (by rfl) d_is_integer.g d_is_integer.kp d_is_integer.b .nil pass0 (pa_cons (pv 0) pa_nil))))
    pss_nil)
  (pss_cons (ps_if (PW.pt (pw_and (pt_cmpR op_eq (pe_callB call_len_seq (by rfl) N.len PySem.boot_len (pa_cons (pv 0) pa_nil)) pe_int (nomark _)) (pw_and1 (pt_val (pe_callB call_isi (by rfl) N.isi (by decide +kernel) (pa_cons (pe_ix ix_tup (pv 0) pe_int (fun _ _ => rfl)) (pa_cons (pe_glob (by rfl) gMo (v := .ref CM) rfl) pa_nil)))))))
    (pss_one (ps_ret pe_bl))
    pss_nil)
  (pss_cons (ps_if (PW.pt (pw_or (pt_cmpR op_ne (pe_callB call_len_seq (by rfl) N.len PySem.boot_len (pa_cons (pv 0) pa_nil)) pe_int (nomark _)) (pw_or (pt_not (pt_val (pe_call d_is_integer.G (hr.mono (by decide)) (by rfl) d_is_integer.g d_is_integer.kp d_is_integer.b .nil pass0 (pa_cons (pe_ix ix_tup (pv 0) pe_int (fun _ _ => rfl)) pa_nil)))) (pw_or1 (pt_not (pt_val (pe_call d_is_integer.G (hr.mono (by decide)) (by rfl) d_is_integer.g d_is_integer.kp d_is_integer.b .nil pass0 (pa_cons (pe_ix ix_tup (pv 0) pe_int (fun _ _ => rfl)) pa_nil))))))))
    (pss_one (ps_ret pe_bl))
    pss_nil)
  (pss_one (ps_ret (pe_and (pe_cmpR op_ge (pe_ix ix_tup (pv 0) pe_int (fun _ _ => rfl)) pe_int (nomark _)) (pe_one (pe_cmpR op_eq (pe_callBfun cr_gcd (by rfl) N.gcd (pa_cons (pe_ix ix_tup (pv 0) pe_int (fun _ _ => rfl)) (pa_cons (pe_ix ix_tup (pv 0) pe_int (fun _ _ => rfl)) pa_nil))) pe_int (nomark _))))))))), ?_⟩
    rcases hv with ⟨e, rfl⟩ | ⟨e, p, rfl, hp⟩
    · refine ⟨_, rfl, _, _, _, _, false, rfl, .ty _, .base (.int _), kit_ty (by decide +kernel), false, rfl, iteT ?_⟩
      exact ⟨_, rfl, _, rfl, k⟩
    · have ht : SqT K H p [.int q.num, .int (q.den : Int)] := SqT.of hp
      refine ⟨_, rfl, _, _, _, _, true, rfl, .ty _, .base (.tup hp), kit_ty (by decide +kernel), true, rfl, iteF ?_⟩
      refine ⟨_, rfl, p, _, rfl, .inr ht, rfl, _, rfl, iteF (iteF ?_)⟩
      refine ⟨_, rfl, p, _, rfl, .inr ht, rfl, _, rfl, iteNS rfl ?_⟩
      refine ⟨_, rfl, p, _, _, _, rfl, rfl, ht, rfl, _, rfl, true, rfl, iteF ?_⟩
      refine ⟨_, rfl, p, _, _, _, rfl, rfl, ht, rfl, _, rfl, true, rfl, iteF ?_⟩
      refine ⟨_, rfl, p, _, _, _, rfl, rfl, ht, rfl, _, _, rfl, rfl, true, ?_, iteT ?_⟩
      · exact congrArg V.bl (decide_eq_true (red2 e))
      refine ⟨_, rfl, p, _, _, _, rfl, rfl, ht, rfl, _, rfl, p, _, _, _, rfl, rfl, ht, rfl, _, _, rfl, rfl, ?_⟩
      have hg : Nat.gcd q.num.natAbs q.den = 1 := q.reduced
      show Q (.bl (decide (V.int ((Nat.gcd q.num.natAbs q.den : Nat) : Int) = V.int 1))) H
      rw [hg]
      exact k
/-! fraction_of, number_of -/
def spPair : Sp := fun vs H Q _ => ∃ (v : V) (t : Int) (b : Nat), vs = [v] ∧ NumP H v t b ∧ ∀ H' p, Same H H' → H' p = some (.tup [.int t, .int (b : Int)]) → Q (.ref p) H'
theorem scFrac : FnScope ["number"] ["number"] (defScope (top 10)) := ⟨rfl, rfl, rfl, by decide +kernel, rfl, by decide +kernel, by decide +kernel⟩
theorem ok_frac {f : Addr} {fd : FuncData} (F : FnP K "fraction_of" (top 10) f fd) (N : Nm mg) : FnOk P w K mg base CX0 1 f fd ["number"] spPair := by
  refine F.ok scFrac (fun vs H Q E h => ?_) (fun cdv A outer s H vs Q E hr h => ?_)
  · obtain ⟨v, t, b, rfl, _⟩ := h
    rfl
  · obtain ⟨v, t, b, rfl, hv, k⟩ := h
    refine ⟨_, PSs.nox (pss_cons (ps_if (pt_val (pe_callB call_isi (by rfl) N.isi (by decide +kernel) (pa_cons (pv 0) (pa_cons (pe_bltn (v := .ty "tuple") (u := .type "tuple") (by rfl) N.ttup (by decide +kernel) rfl) pa_nil))))
    (pss_one (ps_ret (pv 0)))
    pss_nil)
  (pss_one (ps_ret (pe_tup (pa_cons (pv 0) (pa_cons pe_int pa_nil)))))), ?_⟩
    rcases hv with ⟨rfl, rfl⟩ | ⟨p, rfl, hp⟩
    · refine ⟨_, rfl, _, _, _, _, false, rfl, .ty _, .base (.int _), kit_ty (by decide +kernel), false, rfl, iteF ?_⟩
      exact ⟨_, rfl, (by show 2 ≤ sizeLine; decide), fun q nq => k _ _ (same_upd nq) upd_same⟩
    · refine ⟨_, rfl, _, _, _, _, true, rfl, .ty _, .base (.tup hp), kit_ty (by decide +kernel), true, rfl, iteT ?_⟩
      exact ⟨_, rfl, k _ _ (Same.refl H) hp⟩
def spMkN : Sp := fun vs H Q _ => ∃ (t : Int) (b : Nat), vs = [.int t, .int (b : Int)] ∧ 0 < b ∧ b < 2 ^ 199 ∧ ∀ H' v, Same H H' → NumAt H' v (mkRat t b) → Q v H'
theorem scNof : FnScope ["top", "bottom", "common"] ["top", "bottom"] (defScope (top 11)) := ⟨rfl, rfl, rfl, by decide +kernel, rfl, by decide +kernel, by decide +kernel⟩
theorem gw {g b : Nat} (h0 : 0 < g) (h : g ≤ b) (hb : b < 2 ^ 199) (i : Int) : CDivW i (g : Int) := wide_div (b := 199) (Int.natCast_pos.mpr h0) (by rw [Int.natAbs_natCast]; exact Nat.lt_of_le_of_lt h hb) (by decide) (by decide)
theorem ok_nof {f : Addr} {fd : FuncData} (F : FnP K "number_of" (top 11) f fd) (N : Nm mg) : FnOk P w K mg base CX0 1 f fd ["top", "bottom"] spMkN := by
  refine F.ok scNof (fun vs H Q E h => ?_) (fun cdv A outer s H vs Q E hr h => ?_)
  · obtain ⟨t, b, rfl, _⟩ := h
    rfl
  · obtain ⟨t, b, rfl, b0, b1, k⟩ := h
    obtain ⟨g0, g1⟩ := gcd_le (t := t) b0
    refine ⟨_, PSs.nox (pss_cons (ps_set (i := 2) scNof.nd rfl (Or.inl rfl) (pe_callBfun cr_gcd (by rfl) N.gcd (pa_cons (pv 0) (pa_cons (pv 1) pa_nil))))
  (pss_cons (ps_if (pt_cmpR op_eq (pv 2) (pv 1) (nomark _))
    (pss_one (ps_ret (pe_op op_fdivW (pv 0) (pv 1))))
    pss_nil)
  (pss_one (ps_ret (pe_tup (pa_cons (pe_op op_fdivW (pv 0) (pv 2)) (pa_cons (pe_op op_fdivW (pv 1) (pv 2)) pa_nil))))))), ?_⟩
    refine ⟨_, rfl, _, rfl, _, _, rfl, ?_⟩
    refine ⟨_, rfl, _, rfl, rfl, _, rfl, ite2 (fun c => ?_) (fun c => ?_)⟩
    · have c : V.int ((Nat.gcd t.natAbs b : Nat) : Int) = V.int (b : Int) := of_decide_eq_true c
      have c' : Nat.gcd t.natAbs b = b := by
        injection c with c
        omega
      exact ⟨_, rfl, _, rfl, _, _, rfl, rfl, gw b0 (Nat.le_refl b) b1 _, k _ _ (Same.refl H) (mk_int b0 c')⟩
    · have c' : Nat.gcd t.natAbs b ≠ b := fun e => c (decide_eq_true (show V.int ((Nat.gcd t.natAbs b : Nat) : Int) = V.int (b : Int) by rw [e]))
      refine ⟨_, rfl, _, rfl, _, _, rfl, rfl, gw g0 g1 b1 _, _, rfl, _, rfl, _, _, rfl, rfl, gw g0 g1 b1 _, (by show 2 ≤ sizeLine; decide), fun q nq => ?_⟩
      exact k _ _ (same_upd nq) (mk_tup b0 c' upd_same)
/-! at_most, plus, times, is_length -/
theorem mk_one {H : Hp} (t : Int) : NumAt H (.int t) (mkRat t 1) := by
  have := mk_int (H := H) (t := t) (b := 1) (by decide) (Nat.gcd_one_right _)
  rw [show t / ((1 : Nat) : Int) = t from Int.ediv_one t] at this
  exact this
def sp2 (R : Int → Nat → Int → Nat → Hp → VK → Prop) : Sp := fun vs H Q _ => ∃ (v v' : V) (t t' : Int) (b b' : Nat), vs = [v, v'] ∧ NumP H v t b ∧ NumP H v' t' b' ∧ Sz t b ∧ Sz t' b' ∧ R t b t' b' H Q
def spLe : Sp := sp2 fun t b t' b' H Q => ∀ H', Same H H' → Q (.bl (decide (t * b' ≤ t' * b))) H'
def spLt : Sp := sp2 fun t b t' b' H Q => ∀ H', Same H H' → Q (.bl (decide (t * b' < t' * b))) H'
def spPlus : Sp := sp2 fun t b t' b' H Q => ∀ H' v, Same H H' → NumAt H' v (mkRat (t * b' + t' * b) (b * b')) → Q v H'
def spTimes : Sp := sp2 fun t b t' b' H Q => ∀ H' v, Same H H' → NumAt H' v (mkRat (t * t') (b * b')) → Q v H'
def spMov : Sp := fun vs H Q _ => ∃ (v : V) (t : Int) (b : Nat), vs = [v] ∧ NumP H v t b ∧ Q (.bl false) H
theorem scMov : FnScope ["number"] ["number"] (defScope (top 12)) := ⟨rfl, rfl, rfl, by decide +kernel, rfl, by decide +kernel, by decide +kernel⟩
theorem ok_mov {f : Addr} {fd : FuncData} (F : FnP K "is_moving" (top 12) f fd) (N : Nm mg) : FnOk P w K mg base CX0 1 f fd ["number"] spMov := by
  refine F.ok scMov (fun vs H Q E h => ?_) (fun cdv A outer s H vs Q E hr h => ?_)
  · obtain ⟨v, t, b, rfl, _⟩ := h
    rfl
  · obtain ⟨v, t, b, rfl, hv, k⟩ := h
    refine ⟨_, PSs.nox (pss_one (ps_ret (pe_and (pe_callB call_isi (by rfl) N.isi (by decide +kernel) (pa_cons (pv 0) (pa_cons (pe_bltn (v := .ty "tuple") (u := .type "tuple") (by rfl) N.ttup (by decide +kernel) rfl) pa_nil))) (pe_one (pe_cmpR op_eq (pe_callB call_len_seq (by rfl) N.len PySem.boot_len (pa_cons (pv 0) pa_nil)) pe_int (nomark _)))))), ?_⟩
    rcases hv with ⟨rfl, rfl⟩ | ⟨p, rfl, hp⟩
    · exact ⟨_, rfl, _, _, _, _, false, rfl, .ty _, .base (.int _), kit_ty (by decide +kernel), false, rfl, iteF k⟩
    · refine ⟨_, rfl, _, _, _, _, true, rfl, .ty _, .base (.tup hp), kit_ty (by decide +kernel), true, rfl, iteT ?_⟩
      exact ⟨_, rfl, p, _, rfl, .inr (SqT.of hp), rfl, k⟩
theorem scLe : FnScope ["one", "other", "one_top", "one_bottom", "other_top", "other_bottom"] ["one", "other"] (defScope (top 19)) := ⟨rfl, rfl, rfl, by decide +kernel, rfl, by decide +kernel, by decide +kernel⟩
theorem ok_le {f fM fP : Addr} {fd dM dP : FuncData} (F : FnP K "at_most" (top 19) f fd) (N : Nm mg) (d_is_moving : D1 P w K mg base "is_moving" "number" 1 spMov fM dM) (d_fraction_of : D1 P w K mg base "fraction_of" "number" 1 spPair fP dP) : FnOk P w K mg base CX0 2 f fd ["one", "other"] spLe := by
  refine F.ok scLe (fun vs H Q E h => ?_) (fun cdv A outer s H vs Q E hr h => ?_)
  · obtain ⟨v, v', t, t', b, b', rfl, _⟩ := h
    rfl
  · obtain ⟨v, v', t, t', b, b', rfl, hv, hv', z, z', k⟩ := h
    refine ⟨_, PSs.nox (pss_cons (ps_if (PW.pt (pw_and (pt_val (pe_callB call_isi (by rfl) N.isi (by decide +kernel) (pa_cons (pv 0) (pa_cons (pe_bltn (v := .ty "int") (u := .type "int") (by rfl) N.tint (by decide +kernel) rfl) pa_nil)))) (pw_and1 (pt_val (pe_callB call_isi (by rfl) N.isi (by decide +kernel) (pa_cons (pv 1) (pa_cons (pe_bltn (v := .ty "int") (u := .type "int") (by rfl) N.tint (by decide +kernel) rfl) pa_nil)))))))
    (pss_one (ps_ret (pe_cmpR op_le (pv 0) (pv 1) (nomark _))))
    pss_nil)
  (pss_cons (ps_if (PW.pt (pw_or (pt_val (pe_call d_is_moving.G (hr.mono (by decide)) (by rfl) d_is_moving.g d_is_moving.kp d_is_moving.b .nil pass0 (pa_cons (pv 0) pa_nil))) (pw_or1 (pt_val (pe_call d_is_moving.G (hr.mono (by decide)) (by rfl) d_is_moving.g d_is_moving.kp d_is_moving.b .nil pass0 (pa_cons (pv 1) pa_nil))))))
    pss_never
    pss_nil)
  (pss_cons (ps_asg (pe_call d_fraction_of.G (hr.mono (by decide)) (by rfl) d_fraction_of.g d_fraction_of.kp d_fraction_of.b .nil pass0 (pa_cons (pv 0) pa_nil)) (pg_tup rfl (pgs_cons (pg_name (i := 2) scLe.nd rfl (Or.inl rfl)) (pgs_cons (pg_name (i := 3) scLe.nd rfl (Or.inl rfl)) pgs_nil))))
  (pss_cons (ps_asg (pe_call d_fraction_of.G (hr.mono (by decide)) (by rfl) d_fraction_of.g d_fraction_of.kp d_fraction_of.b .nil pass0 (pa_cons (pv 1) pa_nil)) (pg_tup rfl (pgs_cons (pg_name (i := 4) scLe.nd rfl (Or.inl rfl)) (pgs_cons (pg_name (i := 5) scLe.nd rfl (Or.inl rfl)) pgs_nil))))
  (pss_one (ps_ret (pe_cmpR op_le (pe_op op_mulW (pv 2) (pv 5)) (pe_op op_mulW (pv 4) (pv 3)) (nomark _)))))))), ?_⟩
    have hw := hv
    have hw' := hv'
    rcases hv with ⟨rfl, rfl⟩ | ⟨p, rfl, hp⟩
    · refine ⟨_, rfl, _, _, _, _, true, rfl, .ty _, .base (.int _), kit_ty (by decide +kernel), true, rfl, iteT ?_⟩
      rcases hv' with ⟨rfl, rfl⟩ | ⟨p', rfl, hp'⟩
      · refine ⟨_, rfl, _, _, _, _, true, rfl, .ty _, .base (.int _), kit_ty (by decide +kernel), true, rfl, iteT ?_⟩
        refine ⟨_, rfl, _, rfl, _, _, rfl, rfl, ?_⟩
        have q := k H (Same.refl H)
        rw [show decide (t * ((1 : Nat) : Int) ≤ t' * ((1 : Nat) : Int)) = decide (t ≤ t') from decide_eq_decide.mpr (by omega)] at q
        exact q
      · refine ⟨_, rfl, _, _, _, _, false, rfl, .ty _, .base (.tup hp'), kit_ty (by decide +kernel), false, rfl, iteF ?_⟩
        refine ⟨_, rfl, _, _, _, rfl, hw, false, rfl, iteF ?_⟩
        refine ⟨_, rfl, _, _, _, rfl, hw', false, rfl, iteF ?_⟩
        refine ⟨_, rfl, _, _, _, rfl, hw, fun H1 p1 s1 e1 => ⟨p1, _, rfl, SqT.of e1, rfl, _, _, rfl, _, _, rfl, rfl, ?_⟩⟩
        refine ⟨_, rfl, _, _, _, rfl, hw'.same s1, fun H2 p2 s2 e2 => ⟨p2, _, rfl, SqT.of e2, rfl, _, _, rfl, _, _, rfl, rfl, ?_⟩⟩
        exact ⟨_, rfl, _, rfl, _, _, rfl, rfl, wm z.1 z'.2.2, _, rfl, _, rfl, _, _, rfl, rfl, wm z'.1 z.2.2, _, _, rfl, rfl, k _ (s1.trans s2)⟩
    · refine ⟨_, rfl, _, _, _, _, false, rfl, .ty _, .base (.tup hp), kit_ty (by decide +kernel), false, rfl, iteF (iteF ?_)⟩
      refine ⟨_, rfl, _, _, _, rfl, hw, false, rfl, iteF ?_⟩
      refine ⟨_, rfl, _, _, _, rfl, hw', false, rfl, iteF ?_⟩
      refine ⟨_, rfl, _, _, _, rfl, hw, fun H1 p1 s1 e1 => ⟨p1, _, rfl, SqT.of e1, rfl, _, _, rfl, _, _, rfl, rfl, ?_⟩⟩
      refine ⟨_, rfl, _, _, _, rfl, hw'.same s1, fun H2 p2 s2 e2 => ⟨p2, _, rfl, SqT.of e2, rfl, _, _, rfl, _, _, rfl, rfl, ?_⟩⟩
      exact ⟨_, rfl, _, rfl, _, _, rfl, rfl, wm z.1 z'.2.2, _, rfl, _, rfl, _, _, rfl, rfl, wm z'.1 z.2.2, _, _, rfl, rfl, k _ (s1.trans s2)⟩
theorem scPlus : FnScope ["one", "other", "one_top", "one_bottom", "other_top", "other_bottom"] ["one", "other"] (defScope (top 20)) := ⟨rfl, rfl, rfl, by decide +kernel, rfl, by decide +kernel, by decide +kernel⟩
theorem ok_plus {f fM fP fN : Addr} {fd dM dP dN : FuncData} (F : FnP K "plus" (top 20) f fd) (N : Nm mg) (d_is_moving : D1 P w K mg base "is_moving" "number" 1 spMov fM dM) (d_fraction_of : D1 P w K mg base "fraction_of" "number" 1 spPair fP dP) (d_number_of : D2 P w K mg base "number_of" "top" "bottom" 1 spMkN fN dN) : FnOk P w K mg base CX0 2 f fd ["one", "other"] spPlus := by
  refine F.ok scPlus (fun vs H Q E h => ?_) (fun cdv A outer s H vs Q E hr h => ?_)
  · obtain ⟨v, v', t, t', b, b', rfl, _⟩ := h
    rfl
  · obtain ⟨v, v', t, t', b, b', rfl, hv, hv', z, z', k⟩ := h
    refine ⟨_, PSs.nox (pss_cons (ps_if (PW.pt (pw_and (pt_val (pe_callB call_isi (by rfl) N.isi (by decide +kernel) (pa_cons (pv 0) (pa_cons (pe_bltn (v := .ty "int") (u := .type "int") (by rfl) N.tint (by decide +kernel) rfl) pa_nil)))) (pw_and1 (pt_val (pe_callB call_isi (by rfl) N.isi (by decide +kernel) (pa_cons (pv 1) (pa_cons (pe_bltn (v := .ty "int") (u := .type "int") (by rfl) N.tint (by decide +kernel) rfl) pa_nil)))))))
    (pss_one (ps_ret (pe_op op_add (pv 0) (pv 1))))
    pss_nil)
  (pss_cons (ps_if (PW.pt (pw_or (pt_val (pe_call d_is_moving.G (hr.mono (by decide)) (by rfl) d_is_moving.g d_is_moving.kp d_is_moving.b .nil pass0 (pa_cons (pv 0) pa_nil))) (pw_or1 (pt_val (pe_call d_is_moving.G (hr.mono (by decide)) (by rfl) d_is_moving.g d_is_moving.kp d_is_moving.b .nil pass0 (pa_cons (pv 1) pa_nil))))))
    pss_never
    pss_nil)
  (pss_cons (ps_asg (pe_call d_fraction_of.G (hr.mono (by decide)) (by rfl) d_fraction_of.g d_fraction_of.kp d_fraction_of.b .nil pass0 (pa_cons (pv 0) pa_nil)) (pg_tup rfl (pgs_cons (pg_name (i := 2) scPlus.nd rfl (Or.inl rfl)) (pgs_cons (pg_name (i := 3) scPlus.nd rfl (Or.inl rfl)) pgs_nil))))
  (pss_cons (ps_asg (pe_call d_fraction_of.G (hr.mono (by decide)) (by rfl) d_fraction_of.g d_fraction_of.kp d_fraction_of.b .nil pass0 (pa_cons (pv 1) pa_nil)) (pg_tup rfl (pgs_cons (pg_name (i := 4) scPlus.nd rfl (Or.inl rfl)) (pgs_cons (pg_name (i := 5) scPlus.nd rfl (Or.inl rfl)) pgs_nil))))
  (pss_one (ps_ret (pe_call d_number_of.G (hr.mono (by decide)) (by rfl) d_number_of.g d_number_of.kp d_number_of.b .nil pass0 (pa_cons (pe_op op_add (pe_op op_mulW (pv 2) (pv 5)) (pe_op op_mulW (pv 4) (pv 3))) (pa_cons (pe_op op_mulW (pv 3) (pv 5)) pa_nil))))))))), ?_⟩
    have hw := hv
    have hw' := hv'
    rcases hv with ⟨rfl, rfl⟩ | ⟨p, rfl, hp⟩
    · refine ⟨_, rfl, _, _, _, _, true, rfl, .ty _, .base (.int _), kit_ty (by decide +kernel), true, rfl, iteT ?_⟩
      rcases hv' with ⟨rfl, rfl⟩ | ⟨p', rfl, hp'⟩
      · refine ⟨_, rfl, _, _, _, _, true, rfl, .ty _, .base (.int _), kit_ty (by decide +kernel), true, rfl, iteT ?_⟩
        refine ⟨_, rfl, _, rfl, _, _, rfl, rfl, ?_⟩
        refine k _ _ (Same.refl H) ?_
        rw [show t * ((1 : Nat) : Int) + t' * ((1 : Nat) : Int) = t + t' by omega]
        exact mk_one _
      · refine ⟨_, rfl, _, _, _, _, false, rfl, .ty _, .base (.tup hp'), kit_ty (by decide +kernel), false, rfl, iteF ?_⟩
        refine ⟨_, rfl, _, _, _, rfl, hw, false, rfl, iteF ?_⟩
        refine ⟨_, rfl, _, _, _, rfl, hw', false, rfl, iteF ?_⟩
        refine ⟨_, rfl, _, _, _, rfl, hw, fun H1 p1 s1 e1 => ⟨p1, _, rfl, SqT.of e1, rfl, _, _, rfl, _, _, rfl, rfl, ?_⟩⟩
        refine ⟨_, rfl, _, _, _, rfl, hw'.same s1, fun H2 p2 s2 e2 => ⟨p2, _, rfl, SqT.of e2, rfl, _, _, rfl, _, _, rfl, rfl, ?_⟩⟩
        refine ⟨_, rfl, _, rfl, _, _, rfl, rfl, wm z.1 z'.2.2, _, rfl, _, rfl, _, _, rfl, rfl, wm z'.1 z.2.2, _, _, rfl, rfl, _, rfl, _, rfl, _, _, rfl, rfl, wm z.2.2 z'.2.2, ?_⟩
        exact ⟨t * b' + t' * ((1 : Nat) : Int), 1 * b', rfl, (z.bot z').1, (z.bot z').2, fun H3 v3 s3 e3 => k _ _ ((s1.trans s2).trans s3) e3⟩
    · refine ⟨_, rfl, _, _, _, _, false, rfl, .ty _, .base (.tup hp), kit_ty (by decide +kernel), false, rfl, iteF (iteF ?_)⟩
      refine ⟨_, rfl, _, _, _, rfl, hw, false, rfl, iteF ?_⟩
      refine ⟨_, rfl, _, _, _, rfl, hw', false, rfl, iteF ?_⟩
      refine ⟨_, rfl, _, _, _, rfl, hw, fun H1 p1 s1 e1 => ⟨p1, _, rfl, SqT.of e1, rfl, _, _, rfl, _, _, rfl, rfl, ?_⟩⟩
      refine ⟨_, rfl, _, _, _, rfl, hw'.same s1, fun H2 p2 s2 e2 => ⟨p2, _, rfl, SqT.of e2, rfl, _, _, rfl, _, _, rfl, rfl, ?_⟩⟩
      refine ⟨_, rfl, _, rfl, _, _, rfl, rfl, wm z.1 z'.2.2, _, rfl, _, rfl, _, _, rfl, rfl, wm z'.1 z.2.2, _, _, rfl, rfl, _, rfl, _, rfl, _, _, rfl, rfl, wm z.2.2 z'.2.2, ?_⟩
      exact ⟨t * b' + t' * b, b * b', rfl, (z.bot z').1, (z.bot z').2, fun H3 v3 s3 e3 => k _ _ ((s1.trans s2).trans s3) e3⟩
theorem scTimes : FnScope ["one", "other", "one_top", "one_bottom", "other_top", "other_bottom"] ["one", "other"] (defScope (top 21)) := ⟨rfl, rfl, rfl, by decide +kernel, rfl, by decide +kernel, by decide +kernel⟩
theorem ok_times {f fM fP fN : Addr} {fd dM dP dN : FuncData} (F : FnP K "times" (top 21) f fd) (N : Nm mg) (d_is_moving : D1 P w K mg base "is_moving" "number" 1 spMov fM dM) (d_fraction_of : D1 P w K mg base "fraction_of" "number" 1 spPair fP dP) (d_number_of : D2 P w K mg base "number_of" "top" "bottom" 1 spMkN fN dN) : FnOk P w K mg base CX0 2 f fd ["one", "other"] spTimes := by
  refine F.ok scTimes (fun vs H Q E h => ?_) (fun cdv A outer s H vs Q E hr h => ?_)
  · obtain ⟨v, v', t, t', b, b', rfl, _⟩ := h
    rfl
  · obtain ⟨v, v', t, t', b, b', rfl, hv, hv', z, z', k⟩ := h
    refine ⟨_, PSs.nox (pss_cons (ps_if (PW.pt (pw_and (pt_val (pe_callB call_isi (by rfl) N.isi (by decide +kernel) (pa_cons (pv 0) (pa_cons (pe_bltn (v := .ty "int") (u := .type "int") (by rfl) N.tint (by decide +kernel) rfl) pa_nil)))) (pw_and1 (pt_val (pe_callB call_isi (by rfl) N.isi (by decide +kernel) (pa_cons (pv 1) (pa_cons (pe_bltn (v := .ty "int") (u := .type "int") (by rfl) N.tint (by decide +kernel) rfl) pa_nil)))))))
    (pss_one (ps_ret (pe_op op_mulW (pv 0) (pv 1))))
    pss_nil)
  (pss_cons (ps_if (pt_val (pe_call d_is_moving.G (hr.mono (by decide)) (by rfl) d_is_moving.g d_is_moving.kp d_is_moving.b .nil pass0 (pa_cons (pv 0) pa_nil)))
    pss_never
    pss_nil)
  (pss_cons (ps_if (pt_val (pe_call d_is_moving.G (hr.mono (by decide)) (by rfl) d_is_moving.g d_is_moving.kp d_is_moving.b .nil pass0 (pa_cons (pv 1) pa_nil)))
    pss_never
    pss_nil)
  (pss_cons (ps_asg (pe_call d_fraction_of.G (hr.mono (by decide)) (by rfl) d_fraction_of.g d_fraction_of.kp d_fraction_of.b .nil pass0 (pa_cons (pv 0) pa_nil)) (pg_tup rfl (pgs_cons (pg_name (i := 2) scTimes.nd rfl (Or.inl rfl)) (pgs_cons (pg_name (i := 3) scTimes.nd rfl (Or.inl rfl)) pgs_nil))))
  (pss_cons (ps_asg (pe_call d_fraction_of.G (hr.mono (by decide)) (by rfl) d_fraction_of.g d_fraction_of.kp d_fraction_of.b .nil pass0 (pa_cons (pv 1) pa_nil)) (pg_tup rfl (pgs_cons (pg_name (i := 4) scTimes.nd rfl (Or.inl rfl)) (pgs_cons (pg_name (i := 5) scTimes.nd rfl (Or.inl rfl)) pgs_nil))))
  (pss_one (ps_ret (pe_call d_number_of.G (hr.mono (by decide)) (by rfl) d_number_of.g d_number_of.kp d_number_of.b .nil pass0 (pa_cons (pe_op op_mulW (pv 2) (pv 4)) (pa_cons (pe_op op_mulW (pv 3) (pv 5)) pa_nil)))))))))), ?_⟩
    have hw := hv
    have hw' := hv'
    rcases hv with ⟨rfl, rfl⟩ | ⟨p, rfl, hp⟩
    · refine ⟨_, rfl, _, _, _, _, true, rfl, .ty _, .base (.int _), kit_ty (by decide +kernel), true, rfl, iteT ?_⟩
      rcases hv' with ⟨rfl, rfl⟩ | ⟨p', rfl, hp'⟩
      · refine ⟨_, rfl, _, _, _, _, true, rfl, .ty _, .base (.int _), kit_ty (by decide +kernel), true, rfl, iteT ?_⟩
        refine ⟨_, rfl, _, rfl, _, _, rfl, rfl, wm z.1 z'.1, ?_⟩
        exact k _ _ (Same.refl H) (mk_one _)
      · refine ⟨_, rfl, _, _, _, _, false, rfl, .ty _, .base (.tup hp'), kit_ty (by decide +kernel), false, rfl, iteF ?_⟩
        refine ⟨_, rfl, _, _, _, rfl, hw, false, rfl, iteF ?_⟩
        refine ⟨_, rfl, _, _, _, rfl, hw', false, rfl, iteF ?_⟩
        refine ⟨_, rfl, _, _, _, rfl, hw, fun H1 p1 s1 e1 => ⟨p1, _, rfl, SqT.of e1, rfl, _, _, rfl, _, _, rfl, rfl, ?_⟩⟩
        refine ⟨_, rfl, _, _, _, rfl, hw'.same s1, fun H2 p2 s2 e2 => ⟨p2, _, rfl, SqT.of e2, rfl, _, _, rfl, _, _, rfl, rfl, ?_⟩⟩
        refine ⟨_, rfl, _, rfl, _, _, rfl, rfl, wm z.1 z'.1, _, rfl, _, rfl, _, _, rfl, rfl, wm z.2.2 z'.2.2, ?_⟩
        exact ⟨t * t', 1 * b', rfl, (z.bot z').1, (z.bot z').2, fun H3 v3 s3 e3 => k _ _ ((s1.trans s2).trans s3) e3⟩
    · refine ⟨_, rfl, _, _, _, _, false, rfl, .ty _, .base (.tup hp), kit_ty (by decide +kernel), false, rfl, iteF (iteF ?_)⟩
      refine ⟨_, rfl, _, _, _, rfl, hw, false, rfl, iteF ?_⟩
      refine ⟨_, rfl, _, _, _, rfl, hw', false, rfl, iteF ?_⟩
      refine ⟨_, rfl, _, _, _, rfl, hw, fun H1 p1 s1 e1 => ⟨p1, _, rfl, SqT.of e1, rfl, _, _, rfl, _, _, rfl, rfl, ?_⟩⟩
      refine ⟨_, rfl, _, _, _, rfl, hw'.same s1, fun H2 p2 s2 e2 => ⟨p2, _, rfl, SqT.of e2, rfl, _, _, rfl, _, _, rfl, rfl, ?_⟩⟩
      refine ⟨_, rfl, _, rfl, _, _, rfl, rfl, wm z.1 z'.1, _, rfl, _, rfl, _, _, rfl, rfl, wm z.2.2 z'.2.2, ?_⟩
      exact ⟨t * t', b * b', rfl, (z.bot z').1, (z.bot z').2, fun H3 v3 s3 e3 => k _ _ ((s1.trans s2).trans s3) e3⟩
/-- a number as a Rat, not below 0, of no great size -/
def Len (q : Rat) : Prop := 0 ≤ q.num ∧ Sz q.num q.den
def spLen : Sp := fun vs H Q _ => ∃ (v : V) (q : Rat), vs = [v] ∧ NumAt H v q ∧ Len q ∧ ∀ H', Same H H' → Q (.bl true) H'
theorem scLen : FnScope ["value"] ["value"] (defScope (top 9)) := ⟨rfl, rfl, rfl, by decide +kernel, rfl, by decide +kernel, by decide +kernel⟩
theorem ok_len {f fN fL : Addr} {fd dN dL : FuncData} (F : FnP K "is_length" (top 9) f fd) (d_is_number : D1 P w K mg base "is_number" "value" 2 spNum fN dN) (d_at_most : D2 P w K mg base "at_most" "one" "other" 2 spLe fL dL) : FnOk P w K mg base CX0 3 f fd ["value"] spLen := by
  refine F.ok scLen (fun vs H Q E h => ?_) (fun cdv A outer s H vs Q E hr h => ?_)
  · obtain ⟨v, q, rfl, _⟩ := h
    rfl
  · obtain ⟨v, q, rfl, hv, hl, k⟩ := h
    refine ⟨_, PSs.nox (pss_one (ps_ret (pe_and (pe_call d_is_number.G (hr.mono (by decide)) (by rfl) d_is_number.g d_is_number.kp d_is_number.b .nil pass0 (pa_cons (pv 0) pa_nil)) (pe_one (pe_call d_at_most.G (hr.mono (by decide)) (by rfl) d_at_most.g d_at_most.kp d_at_most.b .nil pass0 (pa_cons pe_int (pa_cons (pv 0) pa_nil))))))), ?_⟩
    refine ⟨_, rfl, _, q, rfl, hv, true, rfl, iteT ?_⟩
    refine ⟨_, rfl, .int 0, v, 0, q.num, 1, q.den, rfl, .inl ⟨rfl, rfl⟩, hv.p, ⟨by decide, by decide, by decide⟩, hl.2, fun H' s' => ?_⟩
    rw [decide_eq_true (by have := hl.1; omega)]
    exact k _ s'
end
end K1

set_option Elab.async false
set_option linter.all false
set_option maxRecDepth 100000
set_option maxHeartbeats 4000000
namespace K1
open PySem PySem.Spec PyProof.Rows L2
section
variable {P : Program} {w : World} {K : PySem.W.Frag} {mg : Str → Option Value} {base : Heap}
/-! ### the law's numbers -/
theorem scLPair : FnScope ["number"] ["number"] (defScope (top 40)) := ⟨rfl, rfl, rfl, by decide +kernel, rfl, by decide +kernel, by decide +kernel⟩
theorem ok_lpair {f : Addr} {fd : FuncData} (F : FnP K "_law_pair" (top 40) f fd) (N : Nm mg) : FnOk P w K mg base CX0 1 f fd ["number"] spPair := by
  refine F.ok scLPair (fun vs H Q E h => ?_) (fun cdv A outer s H vs Q E hr h => ?_)
  · obtain ⟨v, t, b, rfl, _⟩ := h
    rfl
  · obtain ⟨v, t, b, rfl, hv, k⟩ := h
    refine ⟨_, PSs.nox (pss_one (ps_ret (pe_ifExp (pt_val (pe_callB call_isi (by rfl) N.isi (by decide +kernel) (pa_cons (pv 0) (pa_cons (pe_bltn (v := .ty "int") (u := .type "int") (by rfl) N.tint (by decide +kernel) rfl) pa_nil)))) (pe_tup (pa_cons (pv 0) (pa_cons pe_int pa_nil))) (pv 0)))), ?_⟩
    rcases hv with ⟨rfl, rfl⟩ | ⟨p, rfl, hp⟩
    · refine ⟨_, rfl, _, _, _, _, true, rfl, .ty _, .base (.int _), kit_ty (by decide +kernel), true, rfl, iteT ?_⟩
      exact ⟨_, rfl, (by show 2 ≤ sizeLine; decide), fun q nq => k _ _ (same_upd nq) upd_same⟩
    · refine ⟨_, rfl, _, _, _, _, false, rfl, .ty _, .base (.tup hp), kit_ty (by decide +kernel), false, rfl, iteF ?_⟩
      exact ⟨_, rfl, k _ _ (Same.refl H) hp⟩
theorem scLNum : FnScope ["top", "bottom", "one", "other", "turn"] ["top", "bottom"] (defScope (top 41)) := ⟨rfl, rfl, rfl, by decide +kernel, rfl, by decide +kernel, by decide +kernel⟩
theorem abs_is (t : Int) : (if t < 0 then -t else t) = ((t.natAbs : Nat) : Int) := by
  split <;> omega
theorem fmod_nat (x y : Nat) : (x : Int).fmod (y : Int) = ((x % y : Nat) : Int) := by
  rw [Int.fmod_eq_emod_of_nonneg _ (by omega)]
  rfl
theorem ok_lnum {f : Addr} {fd : FuncData} (F : FnP K "_law_number" (top 41) f fd) (N : Nm mg) : FnOk P w K mg base CX0 1 f fd ["top", "bottom"] spMkN := by
  refine F.ok scLNum (fun vs H Q E h => ?_) (fun cdv A outer s H vs Q E hr h => ?_)
  · obtain ⟨t, b, rfl, _⟩ := h
    rfl
  · obtain ⟨t, b, rfl, b0, b1, k⟩ := h
    obtain ⟨g0, g1⟩ := gcd_le (t := t) b0
    refine ⟨_, PSs.nox (pss_cons (ps_par (i := 2) (j := 3) rfl scLNum.nd rfl rfl (by decide) (by rfl) (by rfl) (pa_cons (pe_callB call_abs (by rfl) N.abs (by decide +kernel) (pa_cons (pv 0) pa_nil)) (pa_cons (pv 1) pa_nil)) (by rfl))
  (pss_cons (ps_for PassesOwn.never rfl (pi_range1 rfl N.rng (pa_cons pe_int pa_nil))
    (pg_name (i := 4) scLNum.nd rfl (Or.inl rfl))
    (pss_one (ps_if (pt_cmpR op_ne (pv 3) pe_int (nomark _))
    (pss_one (ps_par (i := 2) (j := 3) rfl scLNum.nd rfl rfl (by decide) (by rfl) (by rfl) (pa_cons (pv 3) (pa_cons (pe_op op_modN (pe_callTy call_int1 (by rfl) N.tint (by decide +kernel) (pa_cons (pv 2) pa_nil)) (pv 3)) pa_nil)) (by rfl)))
    pss_nil)))
  (pss_one (ps_ret (pe_ifExp (pt_cmpR op_eq (pv 1) (pv 2) (nomark _)) (pe_op op_fdivW (pv 0) (pv 2)) (pe_tup (pa_cons (pe_op op_fdivW (pv 0) (pv 2)) (pa_cons (pe_op op_fdivW (pv 1) (pv 2)) pa_nil)))))))), ?_⟩
    refine ⟨_, rfl, t, rfl, _, rfl, _, _, rfl, ?_⟩
    refine ⟨400, rfl, by decide, by decide, for_range (n := 400) (fun i σ H' => H' = H ∧ ∃ (x y : Nat) (u : Option V), σ = [some (.int t), some (.int (b : Int)), some (.int (x : Int)), some (.int (y : Int)), u] ∧ eu (400 - i) x y = (Nat.gcd t.natAbs b, 0))
      ⟨rfl, t.natAbs, b, _, by rw [← abs_is] <;> rfl, eu_gcd 199 1 _ _ b1⟩ ?_ ?_⟩
    · rintro i σ H' hi ⟨rfl, x, y, u, rfl, he⟩
      have e : 400 - i = (400 - (i + 1)) + 1 := by omega
      rw [e] at he
      have he' : (if y = 0 then eu (400 - (i + 1)) x y else eu (400 - (i + 1)) y (x % y)) = (Nat.gcd t.natAbs b, 0) := he
      refine ⟨_, rfl, rfl, _, rfl, ite2 (fun c => ?_) (fun c => ?_)⟩
      · have c' : y ≠ 0 := fun z => by
          subst z
          exact absurd c (by decide)
        rw [if_neg c'] at he'
        refine ⟨_, rfl, _, rfl, .inl ⟨_, rfl, _, rfl, _, _, rfl, rfl, (by show (y : Int) ≠ 0; omega), ?_⟩⟩
        exact ⟨_, _, rfl, rfl, y, x % y, _, by rw [← fmod_nat] <;> rfl, he'⟩
      · have c' : y = 0 := by
          apply Classical.byContradiction
          intro z
          apply c
          show (!decide (V.int (y : Int) = V.int 0)) = true
          rw [decide_eq_false (fun z' => by injection z' with z'; omega)]
          rfl
        rw [if_pos c'] at he'
        exact ⟨rfl, x, y, _, rfl, he'⟩
    · rintro σ H' ⟨rfl, x, y, u, rfl, he⟩
      have he' : (x, y) = (Nat.gcd t.natAbs b, 0) := he
      injection he' with hx hy
      subst hx hy
      refine ⟨_, rfl, _, rfl, rfl, _, rfl, ite2 (fun c => ?_) (fun c => ?_)⟩
      · have c : V.int (b : Int) = V.int ((Nat.gcd t.natAbs b : Nat) : Int) := of_decide_eq_true c
        have c' : Nat.gcd t.natAbs b = b := by
          injection c with c
          omega
        have e2 : NumAt H' (.int (t / ((Nat.gcd t.natAbs b : Nat) : Int))) (mkRat t b) := by
          rw [c']
          exact mk_int b0 c'
        exact ⟨_, rfl, _, rfl, _, _, rfl, rfl, gw g0 g1 b1 _, k _ _ (Same.refl _) e2⟩
      · have c' : Nat.gcd t.natAbs b ≠ b := fun e => c (decide_eq_true (show V.int (b : Int) = V.int ((Nat.gcd t.natAbs b : Nat) : Int) by rw [e]))
        refine ⟨_, rfl, _, rfl, _, _, rfl, rfl, gw g0 g1 b1 _, _, rfl, _, rfl, _, _, rfl, rfl, gw g0 g1 b1 _, (by show 2 ≤ sizeLine; decide), fun q nq => ?_⟩
        exact k _ _ (same_upd nq) (mk_tup b0 c' upd_same)
theorem scLPlus : FnScope ["one", "other", "top", "bottom", "more", "below"] ["one", "other"] (defScope (top 42)) := ⟨rfl, rfl, rfl, by decide +kernel, rfl, by decide +kernel, by decide +kernel⟩
theorem ok_lplus {f fP fN : Addr} {fd dP dN : FuncData} (F : FnP K "_law_plus" (top 42) f fd) (d__law_pair : D1 P w K mg base "_law_pair" "number" 1 spPair fP dP) (d__law_number : D2 P w K mg base "_law_number" "top" "bottom" 1 spMkN fN dN) : FnOk P w K mg base CX0 2 f fd ["one", "other"] spPlus := by
  refine F.ok scLPlus (fun vs H Q E h => ?_) (fun cdv A outer s H vs Q E hr h => ?_)
  · obtain ⟨v, v', t, t', b, b', rfl, _⟩ := h
    rfl
  · obtain ⟨v, v', t, t', b, b', rfl, hv, hv', z, z', k⟩ := h
    refine ⟨_, PSs.nox (pss_cons (ps_asg (pe_call d__law_pair.G (hr.mono (by decide)) (by rfl) d__law_pair.g d__law_pair.kp d__law_pair.b .nil pass0 (pa_cons (pv 0) pa_nil)) (pg_tup rfl (pgs_cons (pg_name (i := 2) scLPlus.nd rfl (Or.inl rfl)) (pgs_cons (pg_name (i := 3) scLPlus.nd rfl (Or.inl rfl)) pgs_nil))))
  (pss_cons (ps_asg (pe_call d__law_pair.G (hr.mono (by decide)) (by rfl) d__law_pair.g d__law_pair.kp d__law_pair.b .nil pass0 (pa_cons (pv 1) pa_nil)) (pg_tup rfl (pgs_cons (pg_name (i := 4) scLPlus.nd rfl (Or.inl rfl)) (pgs_cons (pg_name (i := 5) scLPlus.nd rfl (Or.inl rfl)) pgs_nil))))
  (pss_one (ps_ret (pe_call d__law_number.G (hr.mono (by decide)) (by rfl) d__law_number.g d__law_number.kp d__law_number.b .nil pass0 (pa_cons (pe_op op_add (pe_op op_mulW (pv 2) (pv 5)) (pe_op op_mulW (pv 4) (pv 3))) (pa_cons (pe_op op_mulW (pv 3) (pv 5)) pa_nil))))))), ?_⟩
    refine ⟨_, rfl, _, t, b, rfl, hv, fun H1 p1 s1 e1 => ⟨p1, _, rfl, SqT.of e1, rfl, _, _, rfl, _, _, rfl, rfl, ?_⟩⟩
    refine ⟨_, rfl, _, t', b', rfl, hv'.same s1, fun H2 p2 s2 e2 => ⟨p2, _, rfl, SqT.of e2, rfl, _, _, rfl, _, _, rfl, rfl, ?_⟩⟩
    refine ⟨_, rfl, _, rfl, _, _, rfl, rfl, wm z.1 z'.2.2, _, rfl, _, rfl, _, _, rfl, rfl, wm z'.1 z.2.2, _, _, rfl, rfl, _, rfl, _, rfl, _, _, rfl, rfl, wm z.2.2 z'.2.2, ?_⟩
    exact ⟨t * b' + t' * b, b * b', rfl, (z.bot z').1, (z.bot z').2, fun H3 v3 s3 e3 => k _ _ ((s1.trans s2).trans s3) e3⟩
theorem scLLess : FnScope ["one", "other", "top", "bottom", "more", "below"] ["one", "other"] (defScope (top 44)) := ⟨rfl, rfl, rfl, by decide +kernel, rfl, by decide +kernel, by decide +kernel⟩
theorem ok_lless {f fP : Addr} {fd dP : FuncData} (F : FnP K "_law_less" (top 44) f fd) (d__law_pair : D1 P w K mg base "_law_pair" "number" 1 spPair fP dP) : FnOk P w K mg base CX0 2 f fd ["one", "other"] spLt := by
  refine F.ok scLLess (fun vs H Q E h => ?_) (fun cdv A outer s H vs Q E hr h => ?_)
  · obtain ⟨v, v', t, t', b, b', rfl, _⟩ := h
    rfl
  · obtain ⟨v, v', t, t', b, b', rfl, hv, hv', z, z', k⟩ := h
    refine ⟨_, PSs.nox (pss_cons (ps_asg (pe_call d__law_pair.G (hr.mono (by decide)) (by rfl) d__law_pair.g d__law_pair.kp d__law_pair.b .nil pass0 (pa_cons (pv 0) pa_nil)) (pg_tup rfl (pgs_cons (pg_name (i := 2) scLLess.nd rfl (Or.inl rfl)) (pgs_cons (pg_name (i := 3) scLLess.nd rfl (Or.inl rfl)) pgs_nil))))
  (pss_cons (ps_asg (pe_call d__law_pair.G (hr.mono (by decide)) (by rfl) d__law_pair.g d__law_pair.kp d__law_pair.b .nil pass0 (pa_cons (pv 1) pa_nil)) (pg_tup rfl (pgs_cons (pg_name (i := 4) scLLess.nd rfl (Or.inl rfl)) (pgs_cons (pg_name (i := 5) scLLess.nd rfl (Or.inl rfl)) pgs_nil))))
  (pss_one (ps_ret (pe_cmpR op_lt (pe_op op_mulW (pv 2) (pv 5)) (pe_op op_mulW (pv 4) (pv 3)) (nomark _)))))), ?_⟩
    refine ⟨_, rfl, _, t, b, rfl, hv, fun H1 p1 s1 e1 => ⟨p1, _, rfl, SqT.of e1, rfl, _, _, rfl, _, _, rfl, rfl, ?_⟩⟩
    refine ⟨_, rfl, _, t', b', rfl, hv'.same s1, fun H2 p2 s2 e2 => ⟨p2, _, rfl, SqT.of e2, rfl, _, _, rfl, _, _, rfl, rfl, ?_⟩⟩
    exact ⟨_, rfl, _, rfl, _, _, rfl, rfl, wm z.1 z'.2.2, _, rfl, _, rfl, _, _, rfl, rfl, wm z'.1 z.2.2, _, _, rfl, rfl, k _ (s1.trans s2)⟩
/-- times(number, many): a whole many -/
def spLTimes : Sp := fun vs H Q _ => ∃ (v : V) (t m : Int) (b : Nat), vs = [v, .int m] ∧ NumP H v t b ∧ Sz t b ∧ m.natAbs < 2 ^ 98 ∧ ∀ H' v, Same H H' → NumAt H' v (mkRat (t * m) b) → Q v H'
theorem scLTimes : FnScope ["number", "many", "top", "bottom"] ["number", "many"] (defScope (top 47)) := ⟨rfl, rfl, rfl, by decide +kernel, rfl, by decide +kernel, by decide +kernel⟩
theorem ok_ltimes {f fP fN : Addr} {fd dP dN : FuncData} (F : FnP K "_law_times" (top 47) f fd) (d__law_pair : D1 P w K mg base "_law_pair" "number" 1 spPair fP dP) (d__law_number : D2 P w K mg base "_law_number" "top" "bottom" 1 spMkN fN dN) : FnOk P w K mg base CX0 2 f fd ["number", "many"] spLTimes := by
  refine F.ok scLTimes (fun vs H Q E h => ?_) (fun cdv A outer s H vs Q E hr h => ?_)
  · obtain ⟨v, t, m, b, rfl, _⟩ := h
    rfl
  · obtain ⟨v, t, m, b, rfl, hv, z, hm, k⟩ := h
    refine ⟨_, PSs.nox (pss_cons (ps_asg (pe_call d__law_pair.G (hr.mono (by decide)) (by rfl) d__law_pair.g d__law_pair.kp d__law_pair.b .nil pass0 (pa_cons (pv 0) pa_nil)) (pg_tup rfl (pgs_cons (pg_name (i := 2) scLTimes.nd rfl (Or.inl rfl)) (pgs_cons (pg_name (i := 3) scLTimes.nd rfl (Or.inl rfl)) pgs_nil))))
  (pss_one (ps_ret (pe_call d__law_number.G (hr.mono (by decide)) (by rfl) d__law_number.g d__law_number.kp d__law_number.b .nil pass0 (pa_cons (pe_op op_mulW (pv 2) (pv 1)) (pa_cons (pv 3) pa_nil)))))), ?_⟩
    refine ⟨_, rfl, _, t, b, rfl, hv, fun H1 p1 s1 e1 => ⟨p1, _, rfl, SqT.of e1, rfl, _, _, rfl, _, _, rfl, rfl, ?_⟩⟩
    refine ⟨_, rfl, _, rfl, _, _, rfl, rfl, wm z.1 hm, _, rfl, ?_⟩
    exact ⟨t * m, b, rfl, z.2.1, Nat.lt_trans z.2.2 (by decide), fun H3 v3 s3 e3 => k _ _ (s1.trans s3) e3⟩
/-- minus -/
def spMinus : Sp := sp2 fun t b t' b' H Q => ∀ H' v, Same H H' → NumAt H' v (mkRat (t * b' + -t' * b) (b * b')) → Q v H'
theorem scLMinus : FnScope ["one", "other", "more", "below"] ["one", "other"] (defScope (top 43)) := ⟨rfl, rfl, rfl, by decide +kernel, rfl, by decide +kernel, by decide +kernel⟩
theorem ok_lminus {f fP fN : Addr} {fd dP dN : FuncData} (F : FnP K "_law_minus" (top 43) f fd) (d__law_pair : D1 P w K mg base "_law_pair" "number" 1 spPair fP dP) (d__law_plus : D2 P w K mg base "_law_plus" "one" "other" 2 spPlus fN dN) : FnOk P w K mg base CX0 3 f fd ["one", "other"] spMinus := by
  refine F.ok scLMinus (fun vs H Q E h => ?_) (fun cdv A outer s H vs Q E hr h => ?_)
  · obtain ⟨v, v', t, t', b, b', rfl, _⟩ := h
    rfl
  · obtain ⟨v, v', t, t', b, b', rfl, hv, hv', z, z', k⟩ := h
    refine ⟨_, PSs.nox (pss_cons (ps_asg (pe_call d__law_pair.G (hr.mono (by decide)) (by rfl) d__law_pair.g d__law_pair.kp d__law_pair.b .nil pass0 (pa_cons (pv 1) pa_nil)) (pg_tup rfl (pgs_cons (pg_name (i := 2) scLMinus.nd rfl (Or.inl rfl)) (pgs_cons (pg_name (i := 3) scLMinus.nd rfl (Or.inl rfl)) pgs_nil))))
  (pss_one (ps_ret (pe_call d__law_plus.G (hr.mono (by decide)) (by rfl) d__law_plus.g d__law_plus.kp d__law_plus.b .nil pass0 (pa_cons (pv 0) (pa_cons (pe_tup (pa_cons (pe_un un_neg (pv 2)) (pa_cons (pv 3) pa_nil))) pa_nil)))))), ?_⟩
    refine ⟨_, rfl, _, t', b', rfl, hv', fun H1 p1 s1 e1 => ⟨p1, _, rfl, SqT.of e1, rfl, _, _, rfl, _, _, rfl, rfl, ?_⟩⟩
    refine ⟨_, rfl, _, rfl, _, rfl, _, rfl, (by show 2 ≤ sizeLine; decide), fun q nq => ?_⟩
    have s2 := same_upd (o := .tup [.int (-t'), .int (b' : Int)]) nq
    refine ⟨_, _, t, -t', b, b', rfl, hv.same (s1.trans s2), .inr ⟨q, rfl, upd_same⟩, z, ⟨by rw [Int.natAbs_neg]; exact z'.1, z'.2⟩, fun H3 v3 s3 e3 => k _ _ ((s1.trans s2).trans s3) e3⟩
end
end K1

set_option Elab.async false
set_option linter.all false
set_option maxRecDepth 100000
set_option maxHeartbeats 4000000
namespace K1
open PySem PySem.Spec PyProof.Rows L2
/-! ### lengths over one bottom -/
def Fr (D B : Nat) (q : Rat) : Prop := ∃ k : Nat, k ≤ B ∧ q = mkRat (k : Int) D
theorem Fr.mono {D B B' : Nat} {q : Rat} (h : Fr D B q) (l : B ≤ B') : Fr D B' q := by
  obtain ⟨k, hk, e⟩ := h
  exact ⟨k, Nat.le_trans hk l, e⟩
theorem Fr.zero {D B : Nat} : Fr D B 0 := ⟨0, Nat.zero_le _, (Rat.zero_mkRat D).symm⟩
theorem Fr.add {D B B' : Nat} {q r : Rat} (hD : 0 < D) (h : Fr D B q) (h' : Fr D B' r) : Fr D (B + B') (q + r) := by
  obtain ⟨k, hk, rfl⟩ := h
  obtain ⟨k', hk', rfl⟩ := h'
  refine ⟨k + k', Nat.add_le_add hk hk', ?_⟩
  rw [Rat.mkRat_add_mkRat _ _ (by omega) (by omega), ← Int.add_mul, Rat.mkRat_mul_right (by omega), Int.natCast_add]
theorem Fr.scale {D B c : Nat} {q : Rat} (hc : 0 < c) (h : Fr D B q) : Fr (D * c) (B * c) q := by
  obtain ⟨k, hk, rfl⟩ := h
  refine ⟨k * c, Nat.mul_le_mul_right _ hk, ?_⟩
  rw [Int.natCast_mul, Rat.mkRat_mul_right (by omega)]
theorem Fr.len {D B : Nat} {q : Rat} (hD : 0 < D) (hD' : D < 2 ^ 98) (hB : B < 2 ^ 98) (h : Fr D B q) : Len q := by
  obtain ⟨k, hk, rfl⟩ := h
  obtain ⟨g0, g1⟩ := gcd_le (t := (k : Int)) hD
  have hn : (mkRat (k : Int) D).num = ((k / Nat.gcd (k : Int).natAbs D : Nat) : Int) := by
    rw [mk_num hD]
    rfl
  have hd := mk_den (t := (k : Int)) hD
  have l1 : k / Nat.gcd (k : Int).natAbs D ≤ k := Nat.div_le_self _ _
  have l2 : D / Nat.gcd (k : Int).natAbs D ≤ D := Nat.div_le_self _ _
  refine ⟨by rw [hn]; exact Int.natCast_nonneg _, by rw [hn, Int.natAbs_natCast]; exact Nat.lt_of_le_of_lt (Nat.le_trans l1 hk) hB, Rat.den_pos _, by rw [hd]; exact Nat.lt_of_le_of_lt l2 hD'⟩
/-! ### sums, lines -/
def lo (b : Rat) (w : Nat → Rat) : Nat → Rat
  | 0 => 0
  | i + 1 => lo b w i + (if i = 0 then w 0 else b + w i)
theorem lo_one (b : Rat) (w : Nat → Rat) : lo b w 1 = w 0 := Rat.zero_add _
theorem lo_fr {D B : Nat} {b : Rat} {w : Nat → Rat} (hD : 0 < D) (hb : Fr D B b) (hw : ∀ i, Fr D B (w i)) : ∀ n, Fr D (n * (B + B)) (lo b w n)
  | 0 => Fr.zero
  | n + 1 => by
    show Fr D ((n + 1) * (B + B)) (lo b w n + (if n = 0 then w 0 else b + w n))
    rw [Nat.succ_mul]
    refine Fr.add hD (lo_fr hD hb hw n) ?_
    split
    · exact (hw 0).mono (by omega)
    · exact Fr.add hD hb (hw n)
/-- the first words of lines, without the last; that of the last line: behind word i -/
def lp (room b : Rat) (w : Nat → Rat) : Nat → List Nat × Nat
  | 0 => ([], 0)
  | i + 1 => if room < lo b (fun j => w ((lp room b w i).2 + j)) (i + 2 - (lp room b w i).2) then ((lp room b w i).1 ++ [(lp room b w i).2], i + 1) else lp room b w i
theorem lp_le (room b : Rat) (w : Nat → Rat) : ∀ i, (lp room b w i).2 ≤ i ∧ (lp room b w i).1.length ≤ i
  | 0 => ⟨Nat.le_refl _, Nat.le_refl _⟩
  | i + 1 => by
    have ih := lp_le room b w i
    unfold lp
    split
    · refine ⟨Nat.le_refl _, ?_⟩
      rw [List.length_append]
      exact Nat.add_le_add_right ih.2 1
    · exact ⟨by omega, by omega⟩
def prs (l : List Nat) (e : Nat) : List (Nat × Nat) := l.zip (l.tail ++ [e])
theorem prs_snoc (l : List Nat) (c e : Nat) : prs (l ++ [c]) e = prs l c ++ [(c, e)] := by
  unfold prs
  cases l with
  | nil => rfl
  | cons x xs =>
    show List.zip ((x :: xs) ++ [c]) ((xs ++ [c]) ++ [e]) = List.zip (x :: xs) (xs ++ [c]) ++ [(c, e)]
    rw [List.zip_append (by simp)]
    rfl
theorem prs_len (l : List Nat) (e : Nat) : (prs l e).length = l.length := by
  unfold prs
  rw [List.length_zip, List.length_append, List.length_tail]
  simp
  omega
def fst (room b : Rat) (w : Nat → Rat) : Nat → List Nat
  | 0 => []
  | i + 1 => (lp room b w i).1 ++ [(lp room b w i).2]
theorem fst_len (room b : Rat) (w : Nat → Rat) (n : Nat) : (fst room b w n).length ≤ n := by
  cases n with
  | zero => exact Nat.le_refl _
  | succ n =>
    show ((lp room b w n).1 ++ [(lp room b w n).2]).length ≤ n + 1
    rw [List.length_append]
    exact Nat.add_le_add_right (lp_le room b w n).2 1
def lns (room b : Rat) (w : Nat → Rat) (n : Nat) : List (Nat × Nat) := prs (fst room b w n) n
theorem lns_len (room b : Rat) (w : Nat → Rat) (n : Nat) : (lns room b w n).length = (fst room b w n).length := prs_len _ _
/-- the widest -/
def mx (w : Nat → Rat) : Nat → Rat
  | 0 => 0
  | i + 1 => if mx w i ≤ w i then w i else mx w i
theorem mx_fr {D B : Nat} {w : Nat → Rat} (hw : ∀ i, Fr D B (w i)) : ∀ n, Fr D B (mx w n)
  | 0 => Fr.zero
  | n + 1 => by
    unfold mx
    split
    · exact hw n
    · exact mx_fr hw n
theorem mx_lt (w : Nat → Rat) (i : Nat) : mx w (i + 1) = if mx w i < w i then w i else mx w i := by
  show (if mx w i ≤ w i then w i else mx w i) = _
  by_cases h : mx w i < w i
  · rw [if_pos h, if_pos (Rat.le_of_lt h)]
  · rw [if_neg h]
    by_cases h2 : mx w i ≤ w i
    · rw [if_pos h2]
      exact Rat.le_antisymm (Rat.not_lt.mp h) h2
    · rw [if_neg h2]
/-! ### what Python compares -/
def dat (q : Rat) : PyData := if q.den = 1 then .int q.num else .tuple [.int q.num, .int (q.den : Int)]
theorem NumAt.dp {K : PySem.W.Frag} {H : Hp} {v : V} {q : Rat} (h : NumAt H v q) : Dp K H v (dat q) := by
  unfold dat
  rcases h with ⟨e, rfl⟩ | ⟨e, p, rfl, hp⟩
  · rw [if_pos e]
    exact .int _
  · rw [if_neg e]
    exact .tup (SqT.of hp) (.cons (.int _) (.cons (.int _) .nil))
/-- ints, and tuples of ints: all that is compared here -/
def simple : PyData → Bool
  | .int _ => true
  | .tuple xs => xs.all fun | .int _ => true | _ => false
  | _ => false
theorem dat_simple (q : Rat) : simple (dat q) = true := by
  unfold dat
  split <;> rfl
theorem simple_lay {d : PyData} (h : simple d = true) : d.canLay0 = true ∧ d.depth ≤ 2 := by
  cases d with
  | int i => exact ⟨rfl, by simp [PyData.depth]⟩
  | tuple xs =>
    have h' : xs.all (fun | .int _ => true | _ => false) = true := h
    have z : PyData.canLayAll0 xs = true ∧ PyData.depthAll xs ≤ 1 := by
      clear h
      induction xs with
      | nil => exact ⟨rfl, by decide⟩
      | cons x xs ih =>
        obtain ⟨h1, h2⟩ := Bool.and_eq_true_iff.mp (by simpa only [List.all_cons] using h')
        obtain ⟨i1, i2⟩ := ih h2
        cases x with
        | int i => exact ⟨by simp [PyData.canLayAll0, PyData.canLay0, i1], by simp [PyData.depthAll, PyData.depth]; omega⟩
        | _ => exact absurd (show false = true from h1) Bool.false_ne_true
    exact ⟨by simp [PyData.canLay0, z.1], by simp [PyData.depth]; omega⟩
  | _ => exact absurd h (by simp [simple])
end K1

set_option Elab.async false
set_option linter.all false
set_option maxRecDepth 100000
set_option maxHeartbeats 4000000
namespace K1
open PySem PySem.Spec PyProof.Rows L2
/-! ### widths of words, classes -/
def Nums (H : Hp) (xs : List V) (w : Nat → Rat) : Prop := ∀ i v, xs[i]? = some v → NumAt H v (w i)
theorem Nums.same {H H' : Hp} {xs : List V} {w : Nat → Rat} (h : Nums H xs w) (s : Same H H') : Nums H' xs w := fun i v e => (h i v e).same s
structure TC (K : PySem.W.Frag) (mg : Str → Option Value) (x : Str) (C fI fE : Addr) : Prop where
  gC : mg x = some (.ref C)
  cl : Cls K C
  mkC : Mk K C fI
  eqf : PySem.W.findIn K (.ref C) "__eq__" = some (some (.ref fE))
  eqi : PySem.W.isFn K (.ref fE) = true
  nef : PySem.W.findIn K (.ref C) "__ne__" = some (some (.builtin "object.__ne__"))
  cls : PySem.W.findIn K (.ref C) "__class__" = some (some (.builtin "object.__class__"))
  mro : PySem.W.mroIn K C (.type "object") = some true
  gget : PySem.W.specialIn K (.builtin "object.__class__") "__get__" = some (some (.builtin "getset_descriptor.__get__"))
  gtk : PySem.W.takesIn K (.builtin "object.__class__") = some true
  self : PySem.W.kitOne K (.ref C) (.ref C) = some true
  nf : PySem.W.notFirst K C (.ref C) = true
theorem TC.ty {K : PySem.W.Frag} {mg : Str → Option Value} {x : Str} {C fI fE : Addr} (T : TC K mg x C fI fE) {H : Hp} {a dx : Addr} {fs : List (Str × V)} (e : H a = some (.ins C dx fs)) : TyX K H (.ref a) (.ref C) := .base (.ins e T.cl T.cls T.gget T.gtk T.mro)
section
variable {P : Program} {w : World} {K : PySem.W.Frag} {mg : Str → Option Value} {base : Heap}
def spCkW : Sp := fun vs H Q _ => ∃ (l : Addr) (xs : List V) (ws : Nat → Rat), vs = [.ref l] ∧ (H l = some (.lst xs) ∨ H l = some (.tup xs)) ∧ xs.length ≤ 20 ∧ Nums H xs ws ∧ (∀ i, Len (ws i)) ∧ ∀ H', Same H H' → Q .non H'
theorem scCkW : FnScope ["widths", "index", "width"] ["widths"] (defScope (top 26)) := ⟨rfl, rfl, rfl, by decide +kernel, rfl, by decide +kernel, by decide +kernel⟩
theorem kitA {t c d : Value} {b r : Bool} (h1 : PySem.W.kitOne K t c = some b) (h2 : PySem.W.kitOne K t d = some r) (h : (b || r) = true) : PySem.W.kitAny K t [c, d] = some true := by
  refine kitAny_cons h1 (fun e => ?_) (fun _ => rfl)
  subst e
  have : r = true := h
  subst this
  exact kitAny_cons h2 (fun e => nomatch e) (fun _ => rfl)
theorem ok_ckw {f fL : Addr} {fd dL : FuncData} {tk : Tok} (F : FnP K "check_widths" (top 26) f fd) (N : Nm mg) (gM : mg "MOST_WORDS" = some (.int 20 tk)) (d_is_length : D1 P w K mg base "is_length" "value" 3 spLen fL dL) : FnOk P w K mg base CX0 4 f fd ["widths"] spCkW := by
  refine F.ok scCkW (fun vs H Q E h => ?_) (fun cdv A outer s H vs Q E hr h => ?_)
  · obtain ⟨l, xs, ws, rfl, _⟩ := h
    rfl
  · obtain ⟨l, xs, ws, rfl, hl, hn, hx, hw, k⟩ := h
    have i20 : ¬ ((20 : Int) < ((xs.length : Nat) : Int)) := by omega
    rcases hl with hl | hl
    · skip
      refine ⟨_, PSs.nox (pss_cons (ps_if (PW.pt (pw_or (pt_not (pt_val (pe_callB call_isiT (by rfl) N.isi (by decide +kernel) (pa_cons (pv 0) (pa_cons (pe_tup (pa_cons (pe_bltn (v := .ty "list") (u := .type "list") (by rfl) N.tlst (by decide +kernel) rfl) (pa_cons (pe_bltn (v := .ty "tuple") (u := .type "tuple") (by rfl) N.ttup (by decide +kernel) rfl) pa_nil))) pa_nil))))) (pw_or1 (pt_cmpR op_gt (pe_callB call_len_seq (by rfl) N.len PySem.boot_len (pa_cons (pv 0) pa_nil)) (pe_glob (by rfl) gM (v := .int 20) ⟨_, rfl⟩) (nomark _)))))
    pss_never
    pss_nil)
  (pss_one (ps_for PassesOwn.never rfl (pi_enum (by rfl) N.enu (pa_cons (pv 0) pa_nil))
    (pg_tup rfl (pgs_cons (pg_name (i := 1) scCkW.nd rfl (Or.inl rfl)) (pgs_cons (pg_name (i := 2) scCkW.nd rfl (Or.inl rfl)) pgs_nil)))
    (pss_one (ps_if (pt_not (pt_val (pe_call d_is_length.G (hr.mono (by decide)) (by rfl) d_is_length.g d_is_length.kp d_is_length.b .nil pass0 (pa_cons (pv 2) pa_nil))))
    pss_never
    pss_nil))))), ?_⟩
      refine ⟨_, rfl, (by show 2 ≤ sizeLine; decide), fun z nz => ⟨_, z, _, _, _, true, rfl, upd_same, .cons (.ty _) (.cons (.ty _) .nil), .base (.lst (same_upd nz _ _ hl)), kitA (kit_ty (r := true) (by decide +kernel)) (kit_ty (r := false) (by decide +kernel)) rfl, true, rfl, iteF ?_⟩⟩
      have s0 := same_upd (o := .tup [.ty "list", .ty "tuple"]) nz
      refine ⟨_, rfl, l, _, rfl, .inl (SqL.of (s0 _ _ hl)), _, _, rfl, rfl, _, rfl, ite2 (fun c => absurd (of_decide_eq_true c) i20) (fun _ => ?_)⟩
      refine ⟨_, rfl, l, _, rfl, SqL.of (s0 _ _ hl), for_enum (K := K) (a := l) (xs := xs) (fun i σ H' => Same H H' ∧ ∃ v1 v2, σ = [some (.ref l), v1, v2]) ⟨s0, _, _, rfl⟩ (fun i σ H' _ h => SqL.of (h.1 _ _ hl)) ?_ ?_⟩
      · rintro i x T σ H1 hi ⟨s1, v1, v2, rfl⟩ nT
        refine ⟨T, _, rfl, SqT.of upd_same, rfl, _, _, rfl, _, _, rfl, rfl, ?_⟩
        have s2 := s1.trans (same_upd (o := .tup [.int (i : Nat), x]) nT)
        exact ⟨_, rfl, x, ws i, rfl, (hx i x hi).same s2, hw i, fun H2 s3 => ⟨true, rfl, iteF ⟨s2.trans s3, _, _, rfl⟩⟩⟩
      · rintro σ H1 ⟨s1, v1, v2, rfl⟩
        exact k _ s1
    · skip
      refine ⟨_, PSs.nox (pss_cons (ps_if (PW.pt (pw_or (pt_not (pt_val (pe_callB call_isiT (by rfl) N.isi (by decide +kernel) (pa_cons (pv 0) (pa_cons (pe_tup (pa_cons (pe_bltn (v := .ty "list") (u := .type "list") (by rfl) N.tlst (by decide +kernel) rfl) (pa_cons (pe_bltn (v := .ty "tuple") (u := .type "tuple") (by rfl) N.ttup (by decide +kernel) rfl) pa_nil))) pa_nil))))) (pw_or1 (pt_cmpR op_gt (pe_callB call_len_seq (by rfl) N.len PySem.boot_len (pa_cons (pv 0) pa_nil)) (pe_glob (by rfl) gM (v := .int 20) ⟨_, rfl⟩) (nomark _)))))
    pss_never
    pss_nil)
  (pss_one (ps_for PassesOwn.never rfl (pi_enumT (by rfl) N.enu (pa_cons (pv 0) pa_nil))
    (pg_tup rfl (pgs_cons (pg_name (i := 1) scCkW.nd rfl (Or.inl rfl)) (pgs_cons (pg_name (i := 2) scCkW.nd rfl (Or.inl rfl)) pgs_nil)))
    (pss_one (ps_if (pt_not (pt_val (pe_call d_is_length.G (hr.mono (by decide)) (by rfl) d_is_length.g d_is_length.kp d_is_length.b .nil pass0 (pa_cons (pv 2) pa_nil))))
    pss_never
    pss_nil))))), ?_⟩
      refine ⟨_, rfl, (by show 2 ≤ sizeLine; decide), fun z nz => ⟨_, z, _, _, _, true, rfl, upd_same, .cons (.ty _) (.cons (.ty _) .nil), .base (.tup (same_upd nz _ _ hl)), kitA (kit_ty (r := false) (by decide +kernel)) (kit_ty (r := true) (by decide +kernel)) rfl, true, rfl, iteF ?_⟩⟩
      have s0 := same_upd (o := .tup [.ty "list", .ty "tuple"]) nz
      refine ⟨_, rfl, l, _, rfl, .inr (SqT.of (s0 _ _ hl)), _, _, rfl, rfl, _, rfl, ite2 (fun c => absurd (of_decide_eq_true c) i20) (fun _ => ?_)⟩
      refine ⟨_, rfl, l, _, rfl, SqT.of (s0 _ _ hl), for_enumT (K := K) (a := l) (xs := xs) (fun i σ H' => Same H H' ∧ ∃ v1 v2, σ = [some (.ref l), v1, v2]) ⟨s0, _, _, rfl⟩ (fun i σ H' _ h => SqT.of (h.1 _ _ hl)) ?_ ?_⟩
      · rintro i x T σ H1 hi ⟨s1, v1, v2, rfl⟩ nT
        refine ⟨T, _, rfl, SqT.of upd_same, rfl, _, _, rfl, _, _, rfl, rfl, ?_⟩
        have s2 := s1.trans (same_upd (o := .tup [.int (i : Nat), x]) nT)
        exact ⟨_, rfl, x, ws i, rfl, (hx i x hi).same s2, hw i, fun H2 s3 => ⟨true, rfl, iteF ⟨s2.trans s3, _, _, rfl⟩⟩⟩
      · rintro σ H1 ⟨s1, v1, v2, rfl⟩
        exact k _ s1
def spCkL : Sp := fun vs H Q _ => ∃ (x v : V) (q : Rat), vs = [x, v] ∧ NumAt H v q ∧ Len q ∧ ∀ H', Same H H' → Q .non H'
theorem scCkL : FnScope ["part", "value"] ["part", "value"] (defScope (top 27)) := ⟨rfl, rfl, rfl, by decide +kernel, rfl, by decide +kernel, by decide +kernel⟩
theorem ok_ckl {f fL : Addr} {fd dL : FuncData} (F : FnP K "check_length" (top 27) f fd) (d_is_length : D1 P w K mg base "is_length" "value" 3 spLen fL dL) : FnOk P w K mg base CX0 4 f fd ["part", "value"] spCkL := by
  refine F.ok scCkL (fun vs H Q E h => ?_) (fun cdv A outer s H vs Q E hr h => ?_)
  · obtain ⟨x, v, q, rfl, _⟩ := h
    rfl
  · obtain ⟨x, v, q, rfl, hv, hl, k⟩ := h
    refine ⟨_, PSs.nox (pss_one (ps_if (pt_not (pt_val (pe_call d_is_length.G (hr.mono (by decide)) (by rfl) d_is_length.g d_is_length.kp d_is_length.b .nil pass0 (pa_cons (pv 1) pa_nil))))
    pss_never
    pss_nil)), ?_⟩
    exact ⟨_, rfl, v, q, rfl, hv, hl, fun H' s' => ⟨true, rfl, iteF (k _ s')⟩⟩
def spCkN : Sp := fun vs H Q _ => ∃ (v : V) (q : Rat), vs = [v] ∧ NumAt H v q ∧ Len q ∧ ∀ H', Same H H' → Q .non H'
theorem scCkN : FnScope ["width"] ["width"] (defScope (top 29)) := ⟨rfl, rfl, rfl, by decide +kernel, rfl, by decide +kernel, by decide +kernel⟩
theorem ok_ckn {f fL : Addr} {fd dL : FuncData} (F : FnP K "check_width" (top 29) f fd) (d_is_length : D1 P w K mg base "is_length" "value" 3 spLen fL dL) : FnOk P w K mg base CX0 4 f fd ["width"] spCkN := by
  refine F.ok scCkN (fun vs H Q E h => ?_) (fun cdv A outer s H vs Q E hr h => ?_)
  · obtain ⟨v, q, rfl, _⟩ := h
    rfl
  · obtain ⟨v, q, rfl, hv, hl, k⟩ := h
    refine ⟨_, PSs.nox (pss_one (ps_if (pt_not (pt_val (pe_call d_is_length.G (hr.mono (by decide)) (by rfl) d_is_length.g d_is_length.kp d_is_length.b .nil pass0 (pa_cons (pv 0) pa_nil))))
    pss_never
    pss_nil)), ?_⟩
    exact ⟨_, rfl, v, q, rfl, hv, hl, fun H' s' => ⟨true, rfl, iteF (k _ s')⟩⟩
/-- the two classes -/
structure T2 (K : PySem.W.Frag) (mg : Str → Option Value) (CW CB fI fE gI gE : Addr) : Prop where
  W : TC K mg "Words" CW fI fE
  B : TC K mg "Block" CB gI gE
  kWB : PySem.W.kitOne K (.ref CW) (.ref CB) = some false
  kBW : PySem.W.kitOne K (.ref CB) (.ref CW) = some false
  nWB : PySem.W.notFirst K CW (.ref CB) = true
  aw : NoAttr K CW "widths"
  ab : NoAttr K CW "blank"
  al : NoAttr K CW "line"
  ag : NoAttr K CW "base"
  bw : NoAttr K CB "width"
  bh : NoAttr K CB "height"
def spCkC (CW CB : Addr) : Sp := fun vs H Q _ => ∃ (a dx : Addr) (fs : List (Str × V)), vs = [.ref a] ∧ (H a = some (.ins CW dx fs) ∨ H a = some (.ins CB dx fs)) ∧ ∀ H', Same H H' → Q .non H'
theorem scCkC : FnScope ["content"] ["content"] (defScope (top 28)) := ⟨rfl, rfl, rfl, by decide +kernel, rfl, by decide +kernel, by decide +kernel⟩
theorem ok_ckc {f CW CB fI fE gI gE : Addr} {fd : FuncData} (F : FnP K "check_content" (top 28) f fd) (N : Nm mg) (T : T2 K mg CW CB fI fE gI gE) : FnOk P w K mg base CX0 1 f fd ["content"] (spCkC CW CB) := by
  refine F.ok scCkC (fun vs H Q E h => ?_) (fun cdv A outer s H vs Q E hr h => ?_)
  · obtain ⟨a, dx, fs, rfl, _⟩ := h
    rfl
  · obtain ⟨a, dx, fs, rfl, ha, k⟩ := h
    refine ⟨_, PSs.nox (pss_one (ps_if (pt_not (pt_val (pe_callB call_isiT (by rfl) N.isi (by decide +kernel) (pa_cons (pv 0) (pa_cons (pe_tup (pa_cons (pe_glob (by rfl) T.W.gC (v := .ref CW) rfl) (pa_cons (pe_glob (by rfl) T.B.gC (v := .ref CB) rfl) pa_nil))) pa_nil)))))
    pss_never
    pss_nil)), ?_⟩
    rcases ha with ha | ha
    · refine ⟨_, rfl, (by show 2 ≤ sizeLine; decide), fun z nz => ⟨_, z, _, _, _, true, rfl, upd_same, .cons (.own _) (.cons (.own _) .nil), T.W.ty (same_upd nz _ _ ha), kitA T.W.self T.kWB rfl, true, rfl, iteF (k _ (same_upd nz))⟩⟩
    · refine ⟨_, rfl, (by show 2 ≤ sizeLine; decide), fun z nz => ⟨_, z, _, _, _, true, rfl, upd_same, .cons (.own _) (.cons (.own _) .nil), T.B.ty (same_upd nz _ _ ha), kitA T.kBW T.B.self rfl, true, rfl, iteF (k _ (same_upd nz))⟩⟩
end
end K1

set_option Elab.async false
set_option linter.all false
set_option maxRecDepth 100000
set_option maxHeartbeats 4000000
namespace K1
open PySem PySem.Spec PyProof.Rows L2
abbrev FnM (K : PySem.W.Frag) (m q : Str) (st : Stmt) (f : Addr) (fd : FuncData) : Prop := FunD K m q (defArgs st) (defBody st) (defScope st) [] [] f fd
/-- all but a keep what they hold -/
def Keep (a : Addr) (H H' : Hp) : Prop := ∀ b o, b ≠ a → H b = some o → H' b = some o
theorem Keep.of {a : Addr} {H H' : Hp} (s : Same H H') : Keep a H H' := fun b o _ e => s b o e
theorem Keep.trans {a : Addr} {H H1 H2 : Hp} (s : Keep a H H1) (t : Keep a H1 H2) : Keep a H H2 := fun b o n e => t b o n (s b o n e)
theorem Keep.upd {a : Addr} {H H1 : Hp} {o : HO} (s : Keep a H H1) : Keep a H (upd H1 a o) := fun b o' n e => by
  rw [upd_ne n]
  exact s b o' n e
theorem Keep.same {a : Addr} {H H0 H1 : Hp} (s : Keep a H H1) (n : H0 a = none) (z : Same H0 H) : Same H0 H1 := fun b o e => s b o (ne_of_none e n) (z b o e)
theorem NumAt.keep {a : Addr} {H H' : Hp} {v : V} {q : Rat} (h : NumAt H v q) (s : Keep a H H') (n : ∀ xs, H a ≠ some (.tup xs)) : NumAt H' v q := by
  rcases h with h | ⟨e, p, rfl, hp⟩
  · exact .inl h
  · refine .inr ⟨e, p, rfl, s p _ (fun z => ?_) hp⟩
    subst z
    exact n _ hp
def WordsAt (CW : Addr) (H : Hp) (a t : Addr) (xs : List V) (vb vl vg : V) (w : Nat → Rat) (b l g : Rat) : Prop :=
  (∃ dx, H a = some (.ins CW dx [("widths", .ref t), ("blank", vb), ("line", vl), ("base", vg)])) ∧ H t = some (.tup xs) ∧ Nums H xs w ∧ NumAt H vb b ∧ NumAt H vl l ∧ NumAt H vg g
theorem WordsAt.same {CW : Addr} {H H' : Hp} {a t : Addr} {xs : List V} {vb vl vg : V} {w : Nat → Rat} {b l g : Rat} (h : WordsAt CW H a t xs vb vl vg w b l g) (s : Same H H') : WordsAt CW H' a t xs vb vl vg w b l g := by
  obtain ⟨⟨dx, h1⟩, h2, h3, h4, h5, h6⟩ := h
  exact ⟨⟨dx, s _ _ h1⟩, s _ _ h2, h3.same s, h4.same s, h5.same s, h6.same s⟩
def BlockAt (CB : Addr) (H : Hp) (a : Addr) (vw vh : V) (q r : Rat) : Prop := (∃ dx, H a = some (.ins CB dx [("width", vw), ("height", vh)])) ∧ NumAt H vw q ∧ NumAt H vh r
theorem BlockAt.same {CB : Addr} {H H' : Hp} {a : Addr} {vw vh : V} {q r : Rat} (h : BlockAt CB H a vw vh q r) (s : Same H H') : BlockAt CB H' a vw vh q r := by
  obtain ⟨⟨dx, h1⟩, h2, h3⟩ := h
  exact ⟨⟨dx, s _ _ h1⟩, h2.same s, h3.same s⟩
section
variable {P : Program} {w : World} {K : PySem.W.Frag} {mg : Str → Option Value} {base : Heap} {CW CB fI fE gI gE : Addr}
def spWI (CW : Addr) : Sp := fun vs H Q _ => ∃ (a l dx : Addr) (xs : List V) (vb vl vg : V) (ws : Nat → Rat) (b li g : Rat), vs = [.ref a, .ref l, vb, vl, vg] ∧ H a = some (.ins CW dx []) ∧ (H l = some (.lst xs) ∨ H l = some (.tup xs)) ∧ xs.length ≤ 20 ∧ Nums H xs ws ∧ (∀ i, Len (ws i)) ∧
  NumAt H vb b ∧ NumAt H vl li ∧ NumAt H vg g ∧ Len b ∧ Len li ∧ Len g ∧ ∀ H' t, Keep a H H' → WordsAt CW H' a t xs vb vl vg ws b li g → Q .non H'
theorem scWI : FnScope ["self", "widths", "blank", "line", "base"] ["self", "widths", "blank", "line", "base"] (defScope (inClass (top 24) 0)) := ⟨rfl, rfl, rfl, by decide +kernel, rfl, by decide +kernel, by decide +kernel⟩
theorem ok_wi {f fW fL : Addr} {fd dW dL : FuncData} (F : FnM K "__init__" "Words.__init__" (inClass (top 24) 0) f fd) (N : Nm mg) (T : T2 K mg CW CB fI fE gI gE) (d_check_widths : D1 P w K mg base "check_widths" "widths" 4 spCkW fW dW) (d_check_length : D2 P w K mg base "check_length" "part" "value" 4 spCkL fL dL) :
    FnOk P w K mg base CX0 5 f fd ["self", "widths", "blank", "line", "base"] (spWI CW) := by
  refine F.ok scWI (fun vs H Q E h => ?_) (fun cdv A outer s H vs Q E hr h => ?_)
  · obtain ⟨a, l, dx, xs, vb, vl, vg, ws, b, li, g, rfl, _⟩ := h
    rfl
  · obtain ⟨a, l, dx, xs, vb, vl, vg, ws, b, li, g, rfl, ha, hl, hn, hx, hw, hb, hli, hg, Lb, Ll, Lg, k⟩ := h
    refine ⟨_, PSs.nox (pss_cons (ps_expr (pe_call d_check_widths.G (hr.mono (by decide)) (by rfl) d_check_widths.g d_check_widths.kp d_check_widths.b .nil pass0 (pa_cons (pv 1) pa_nil)))
  (pss_cons (ps_expr (pe_call d_check_length.G (hr.mono (by decide)) (by rfl) d_check_length.g d_check_length.kp d_check_length.b .nil pass0 (pa_cons pe_str (pa_cons (pv 2) pa_nil))))
  (pss_cons (ps_expr (pe_call d_check_length.G (hr.mono (by decide)) (by rfl) d_check_length.g d_check_length.kp d_check_length.b .nil pass0 (pa_cons pe_str (pa_cons (pv 3) pa_nil))))
  (pss_cons (ps_expr (pe_call d_check_length.G (hr.mono (by decide)) (by rfl) d_check_length.g d_check_length.kp d_check_length.b .nil pass0 (pa_cons pe_str (pa_cons (pv 4) pa_nil))))
  (pss_cons (ps_fld (pv 0) (pe_callTy call_tuple_of (by rfl) N.ttup (by decide +kernel) (pa_cons (pv 1) pa_nil)) rfl)
  (pss_cons (ps_fld (pv 0) (pv 2) rfl)
  (pss_cons (ps_fld (pv 0) (pv 3) rfl)
  (pss_one (ps_fld (pv 0) (pv 4) rfl))))))))), ?_⟩
    refine ⟨_, rfl, l, xs, ws, rfl, hl, hn, hx, hw, fun H1 s1 => ?_⟩
    refine ⟨_, rfl, _, vb, b, rfl, hb.same s1, Lb, fun H2 s2 => ?_⟩
    have s2 := s1.trans s2
    refine ⟨_, rfl, _, vl, li, rfl, hli.same s2, Ll, fun H3 s3 => ?_⟩
    have s3 := s2.trans s3
    refine ⟨_, rfl, _, vg, g, rfl, hg.same s3, Lg, fun H4 s4 => ?_⟩
    have s4 := s3.trans s4
    have fin : ∀ (t : Addr) (H5 : Hp), Same H H5 → H5 t = some (.tup xs) → Keep a H (upd (upd (upd (upd H5 a (.ins CW dx [("widths", .ref t)])) a (.ins CW dx [("widths", .ref t), ("blank", vb)])) a (.ins CW dx [("widths", .ref t), ("blank", vb), ("line", vl)])) a (.ins CW dx [("widths", .ref t), ("blank", vb), ("line", vl), ("base", vg)])) ∧
        WordsAt CW (upd (upd (upd (upd H5 a (.ins CW dx [("widths", .ref t)])) a (.ins CW dx [("widths", .ref t), ("blank", vb)])) a (.ins CW dx [("widths", .ref t), ("blank", vb), ("line", vl)])) a (.ins CW dx [("widths", .ref t), ("blank", vb), ("line", vl), ("base", vg)])) a t xs vb vl vg ws b li g := fun t H5 s5 ht => by
      have kk : Keep a H5 (upd (upd (upd (upd H5 a (.ins CW dx [("widths", .ref t)])) a (.ins CW dx [("widths", .ref t), ("blank", vb)])) a (.ins CW dx [("widths", .ref t), ("blank", vb), ("line", vl)])) a (.ins CW dx [("widths", .ref t), ("blank", vb), ("line", vl), ("base", vg)])) := (((Keep.of (Same.refl H5)).upd.upd).upd).upd
      have ha5 := s5 _ _ ha
      have na : ∀ xs, H5 a ≠ some (.tup xs) := fun xs e => by
        rw [ha5] at e
        cases e
      refine ⟨(Keep.of s5).trans kk, ⟨dx, upd_same⟩, kk _ _ (fun e => na _ (e ▸ ht)) ht, fun i v e => ((hx i v e).same s5).keep kk na, (hb.same s5).keep kk na, (hli.same s5).keep kk na, (hg.same s5).keep kk na⟩
    rcases hl with hl | hl
    · refine ⟨_, rfl, l, xs, rfl, .inl ⟨SqL.of (s4 _ _ hl), fun t nt => ?_⟩⟩
      have s5 := s4.trans (same_upd (o := .tup xs) nt)
      obtain ⟨f1, f2⟩ := fin t _ s5 upd_same
      refine ⟨_, rfl, a, CW, dx, [], rfl, s5 _ _ ha, T.W.cl, T.aw, by decide, _, rfl, _, rfl, a, CW, dx, _, rfl, upd_same, T.W.cl, T.ab, (by show 1 < 1000; decide), _, rfl, _, rfl, a, CW, dx, _, rfl, upd_same, T.W.cl, T.al, (by show 2 < 1000; decide), _, rfl, _, rfl, a, CW, dx, _, rfl, upd_same, T.W.cl, T.ag, (by show 3 < 1000; decide), ?_⟩
      exact k _ t f1 f2
    · refine ⟨_, rfl, l, xs, rfl, .inr ⟨SqT.of (s4 _ _ hl), ?_⟩⟩
      obtain ⟨f1, f2⟩ := fin l _ s4 (s4 _ _ hl)
      refine ⟨_, rfl, a, CW, dx, [], rfl, s4 _ _ ha, T.W.cl, T.aw, by decide, _, rfl, _, rfl, a, CW, dx, _, rfl, upd_same, T.W.cl, T.ab, (by show 1 < 1000; decide), _, rfl, _, rfl, a, CW, dx, _, rfl, upd_same, T.W.cl, T.al, (by show 2 < 1000; decide), _, rfl, _, rfl, a, CW, dx, _, rfl, upd_same, T.W.cl, T.ag, (by show 3 < 1000; decide), ?_⟩
      exact k _ l f1 f2
def spBI (CB : Addr) : Sp := fun vs H Q _ => ∃ (a dx : Addr) (vw vh : V) (q r : Rat), vs = [.ref a, vw, vh] ∧ H a = some (.ins CB dx []) ∧ NumAt H vw q ∧ NumAt H vh r ∧ Len q ∧ Len r ∧ ∀ H', Keep a H H' → BlockAt CB H' a vw vh q r → Q .non H'
theorem scBI : FnScope ["self", "width", "height"] ["self", "width", "height"] (defScope (inClass (top 25) 0)) := ⟨rfl, rfl, rfl, by decide +kernel, rfl, by decide +kernel, by decide +kernel⟩
theorem ok_bi {f fL : Addr} {fd dL : FuncData} (F : FnM K "__init__" "Block.__init__" (inClass (top 25) 0) f fd) (T : T2 K mg CW CB fI fE gI gE) (d_check_length : D2 P w K mg base "check_length" "part" "value" 4 spCkL fL dL) :
    FnOk P w K mg base CX0 5 f fd ["self", "width", "height"] (spBI CB) := by
  refine F.ok scBI (fun vs H Q E h => ?_) (fun cdv A outer s H vs Q E hr h => ?_)
  · obtain ⟨a, dx, vw, vh, q, r, rfl, _⟩ := h
    rfl
  · obtain ⟨a, dx, vw, vh, q, r, rfl, ha, hq, hr', Lq, Lr, k⟩ := h
    refine ⟨_, PSs.nox (pss_cons (ps_expr (pe_call d_check_length.G (hr.mono (by decide)) (by rfl) d_check_length.g d_check_length.kp d_check_length.b .nil pass0 (pa_cons pe_str (pa_cons (pv 1) pa_nil))))
  (pss_cons (ps_expr (pe_call d_check_length.G (hr.mono (by decide)) (by rfl) d_check_length.g d_check_length.kp d_check_length.b .nil pass0 (pa_cons pe_str (pa_cons (pv 2) pa_nil))))
  (pss_cons (ps_fld (pv 0) (pv 1) rfl)
  (pss_one (ps_fld (pv 0) (pv 2) rfl))))), ?_⟩
    refine ⟨_, rfl, _, vw, q, rfl, hq, Lq, fun H1 s1 => ?_⟩
    refine ⟨_, rfl, _, vh, r, rfl, hr'.same s1, Lr, fun H2 s2 => ?_⟩
    have s2 := s1.trans s2
    have ha2 := s2 _ _ ha
    have na : ∀ xs, H2 a ≠ some (.tup xs) := fun xs e => by
      rw [ha2] at e
      cases e
    have kk : Keep a H2 (upd (upd H2 a (.ins CB dx [("width", vw)])) a (.ins CB dx [("width", vw), ("height", vh)])) := ((Keep.of (Same.refl H2)).upd).upd
    refine ⟨_, rfl, _, rfl, a, CB, dx, [], rfl, ha2, T.B.cl, T.bw, by decide, _, rfl, _, rfl, a, CB, dx, _, rfl, upd_same, T.B.cl, T.bh, (by show 1 < 1000; decide), ?_⟩
    exact k _ ((Keep.of s2).trans kk) ⟨⟨dx, upd_same⟩, (hq.same s2).keep kk na, (hr'.same s2).keep kk na⟩
end
end K1

set_option Elab.async false
set_option linter.all false
set_option maxRecDepth 100000
set_option maxHeartbeats 4000000
namespace K1
open PySem PySem.Spec PyProof.Rows L2
/-! ### data that is compared -/
def Ok (m : Nat) (d : PyData) : Prop := d.canLay0 = true ∧ d.depth ≤ m
theorem Ok.mono {m n : Nat} {d : PyData} (h : Ok m d) (l : m ≤ n) : Ok n d := ⟨h.1, Nat.le_trans h.2 l⟩
theorem Ok.sh {m : Nat} {d : PyData} (h : Ok m d) (l : m ≤ 64) : SeqAt.shaped d = true := Bool.and_eq_true_iff.mpr ⟨h.1, decide_eq_true (Nat.le_trans h.2 l)⟩
theorem Ok.eq {m : Nat} {d : PyData} (h : Ok m d) : PyData.eqv d d = true := SeqAt.eqv_refl d h.1
theorem ok_all {m : Nat} : ∀ ds : List PyData, (∀ d ∈ ds, Ok m d) → PyData.canLayAll0 ds = true ∧ PyData.depthAll ds ≤ m
  | [], _ => ⟨rfl, Nat.zero_le _⟩
  | d :: ds, h => by
    obtain ⟨i1, i2⟩ := ok_all ds fun x hx => h x (List.mem_cons_of_mem _ hx)
    obtain ⟨j1, j2⟩ := h d (List.mem_cons_self ..)
    refine ⟨by rw [PyData.canLayAll0, j1, i1]; rfl, ?_⟩
    rw [PyData.depthAll]
    exact Nat.max_le.mpr ⟨j2, i2⟩
theorem ok_tup {m : Nat} {ds : List PyData} (h : ∀ d ∈ ds, Ok m d) : Ok (m + 1) (.tuple ds) := by
  obtain ⟨i1, i2⟩ := ok_all ds h
  exact ⟨by rw [PyData.canLay0]; exact i1, by rw [PyData.depth]; omega⟩
theorem ok_lst {m : Nat} {ds : List PyData} (h : ∀ d ∈ ds, Ok m d) : Ok (m + 1) (.list ds) := by
  obtain ⟨i1, i2⟩ := ok_all ds h
  exact ⟨by rw [PyData.canLay0]; exact i1, by rw [PyData.depth]; omega⟩
theorem ok_int' (m : Nat) (i : Int) : Ok m (.int i) := ⟨rfl, by rw [PyData.depth]; omega⟩
theorem ok_dat (q : Rat) : Ok 1 (dat q) := by
  unfold dat
  split
  · exact ok_int' _ _
  · refine ok_tup (m := 0) fun d hd => ?_
    rcases List.mem_cons.mp hd with rfl | hd
    · exact ok_int' _ _
    · rw [List.mem_singleton] at hd
      subst hd
      exact ok_int' _ _
def dats (w : Nat → Rat) : Nat → Nat → List PyData
  | _, 0 => []
  | k, n + 1 => dat (w k) :: dats w (k + 1) n
theorem dats_mem (w : Nat → Rat) : ∀ n k d, d ∈ dats w k n → Ok 1 d
  | 0, _, _, h => nomatch h
  | n + 1, k, d, h => by
    rcases List.mem_cons.mp h with rfl | h
    · exact ok_dat _
    · exact dats_mem w n _ d h
theorem dats_dp {K : PySem.W.Frag} {H : Hp} {w : Nat → Rat} : ∀ (xs : List V) (k : Nat), (∀ i v, xs[i]? = some v → NumAt H v (w (k + i))) → DpAll K H xs (dats w k xs.length)
  | [], _, _ => .nil
  | x :: xs, k, h => .cons (h 0 x rfl).dp (dats_dp xs (k + 1) fun i v e => by
      have := h (i + 1) v e
      rw [show k + (i + 1) = k + 1 + i by omega] at this
      exact this)
theorem Nums.dp {K : PySem.W.Frag} {H : Hp} {xs : List V} {w : Nat → Rat} (h : Nums H xs w) : DpAll K H xs (dats w 0 xs.length) := dats_dp xs 0 fun i v e => by
  rw [Nat.zero_add]
  exact h i v e
theorem ok_ws (w : Nat → Rat) (n : Nat) : Ok 2 (.tuple (dats w 0 n)) := ok_tup (dats_mem w n 0)
section
variable {P : Program} {w : World} {K : PySem.W.Frag} {mg : Str → Option Value} {base : Heap} {CW CB fI fE gI gE : Addr}
/-! ### == -/
def spWE (CW CB : Addr) : Sp := fun vs H Q _ => ∃ (a a' t : Addr) (xs : List V) (vb vl vg : V) (ws : Nat → Rat) (b li g : Rat), vs = [.ref a, .ref a'] ∧ WordsAt CW H a t xs vb vl vg ws b li g ∧
  ((∃ (t' : Addr) (xs' : List V) (vb' vl' vg' : V), xs'.length = xs.length ∧ WordsAt CW H a' t' xs' vb' vl' vg' ws b li g ∧ Q (.bl true) H) ∨ (∃ dx fs, H a' = some (.ins CB dx fs) ∧ Q (.bl false) H))
theorem scWE : FnScope ["self", "other"] ["self", "other"] (defScope (inClass (top 24) 1)) := ⟨rfl, rfl, rfl, by decide +kernel, rfl, by decide +kernel, by decide +kernel⟩
theorem ok_we {f : Addr} {fd : FuncData} (F : FnM K "__eq__" "Words.__eq__" (inClass (top 24) 1) f fd) (N : Nm mg) (T : T2 K mg CW CB fI fE gI gE) : FnOk P w K mg base CX0 1 f fd ["self", "other"] (spWE CW CB) := by
  refine F.ok scWE (fun vs H Q E h => ?_) (fun cdv A outer s H vs Q E hr h => ?_)
  · obtain ⟨a, a', t, xs, vb, vl, vg, ws, b, li, g, rfl, _⟩ := h
    rfl
  · obtain ⟨a, a', t, xs, vb, vl, vg, ws, b, li, g, rfl, ⟨⟨dx, h1⟩, h2, h3, h4, h5, h6⟩, h⟩ := h
    refine ⟨_, PSs.nox (pss_one (ps_ret (pe_and (pe_callB call_isi (by rfl) N.isi (by decide +kernel) (pa_cons (pv 1) (pa_cons (pe_glob (by rfl) T.W.gC (v := .ref CW) rfl) pa_nil))) (pe_and (pe_cmpR (op_eqD hr.units) (pe_fld (pv 0) rfl) (pe_fld (pv 1) rfl) (nomark _)) (pe_and (pe_cmpR (op_eqD hr.units) (pe_fld (pv 0) rfl) (pe_fld (pv 1) rfl) (nomark _)) (pe_and (pe_cmpR (op_eqD hr.units) (pe_fld (pv 0) rfl) (pe_fld (pv 1) rfl) (nomark _)) (pe_one (pe_cmpR (op_eqD hr.units) (pe_fld (pv 0) rfl) (pe_fld (pv 1) rfl) (nomark _))))))))), ?_⟩
    rcases h with ⟨t', xs', vb', vl', vg', hlen, ⟨⟨dx', g1⟩, g2, g3, g4, g5, g6⟩, k⟩ | ⟨dx', fs, g1, k⟩
    · have d3 := (g3.dp (K := K))
      rw [hlen] at d3
      refine ⟨_, rfl, _, _, _, _, true, rfl, .own _, T.W.ty g1, T.W.self, true, rfl, iteT ?_⟩
      refine ⟨_, rfl, a, CW, dx, _, _, rfl, h1, T.W.cl, T.aw, rfl, _, rfl, a', CW, dx', _, _, rfl, g1, T.W.cl, T.aw, rfl, _, _, .tup (SqT.of h2) h3.dp, .tup (SqT.of g2) d3, (ok_ws _ _).sh (by decide), (ok_ws _ _).sh (by decide), _, rfl, ite2 (fun _ => ?_) (fun c => absurd (ok_ws _ _).eq c)⟩
      refine ⟨_, rfl, a, CW, dx, _, _, rfl, h1, T.W.cl, T.ab, rfl, _, rfl, a', CW, dx', _, _, rfl, g1, T.W.cl, T.ab, rfl, _, _, h4.dp, g4.dp, (ok_dat _).sh (by decide), (ok_dat _).sh (by decide), _, rfl, ite2 (fun _ => ?_) (fun c => absurd (ok_dat _).eq c)⟩
      refine ⟨_, rfl, a, CW, dx, _, _, rfl, h1, T.W.cl, T.al, rfl, _, rfl, a', CW, dx', _, _, rfl, g1, T.W.cl, T.al, rfl, _, _, h5.dp, g5.dp, (ok_dat _).sh (by decide), (ok_dat _).sh (by decide), _, rfl, ite2 (fun _ => ?_) (fun c => absurd (ok_dat _).eq c)⟩
      refine ⟨_, rfl, a, CW, dx, _, _, rfl, h1, T.W.cl, T.ag, rfl, _, rfl, a', CW, dx', _, _, rfl, g1, T.W.cl, T.ag, rfl, _, _, h6.dp, g6.dp, (ok_dat _).sh (by decide), (ok_dat _).sh (by decide), ?_⟩
      show Q (.bl (PyData.eqv (dat g) (dat g))) H
      rw [(ok_dat g).eq]
      exact k
    · exact ⟨_, rfl, _, _, _, _, false, rfl, .own _, T.B.ty g1, T.kBW, false, rfl, iteF k⟩
def spBE (CB : Addr) : Sp := fun vs H Q _ => ∃ (a a' : Addr) (vw vh vw' vh' : V) (q r : Rat), vs = [.ref a, .ref a'] ∧ BlockAt CB H a vw vh q r ∧ BlockAt CB H a' vw' vh' q r ∧ Q (.bl true) H
theorem scBE : FnScope ["self", "other"] ["self", "other"] (defScope (inClass (top 25) 1)) := ⟨rfl, rfl, rfl, by decide +kernel, rfl, by decide +kernel, by decide +kernel⟩
theorem ok_be {f : Addr} {fd : FuncData} (F : FnM K "__eq__" "Block.__eq__" (inClass (top 25) 1) f fd) (N : Nm mg) (T : T2 K mg CW CB fI fE gI gE) : FnOk P w K mg base CX0 1 f fd ["self", "other"] (spBE CB) := by
  refine F.ok scBE (fun vs H Q E h => ?_) (fun cdv A outer s H vs Q E hr h => ?_)
  · obtain ⟨a, a', vw, vh, vw', vh', q, r, rfl, _⟩ := h
    rfl
  · obtain ⟨a, a', vw, vh, vw', vh', q, r, rfl, ⟨⟨dx, h1⟩, h2, h3⟩, ⟨⟨dx', g1⟩, g2, g3⟩, k⟩ := h
    refine ⟨_, PSs.nox (pss_one (ps_ret (pe_and (pe_callB call_isi (by rfl) N.isi (by decide +kernel) (pa_cons (pv 1) (pa_cons (pe_glob (by rfl) T.B.gC (v := .ref CB) rfl) pa_nil))) (pe_and (pe_cmpR (op_eqD hr.units) (pe_fld (pv 0) rfl) (pe_fld (pv 1) rfl) (nomark _)) (pe_one (pe_cmpR (op_eqD hr.units) (pe_fld (pv 0) rfl) (pe_fld (pv 1) rfl) (nomark _))))))), ?_⟩
    refine ⟨_, rfl, _, _, _, _, true, rfl, .own _, T.B.ty g1, T.B.self, true, rfl, iteT ?_⟩
    refine ⟨_, rfl, a, CB, dx, _, _, rfl, h1, T.B.cl, T.bw, rfl, _, rfl, a', CB, dx', _, _, rfl, g1, T.B.cl, T.bw, rfl, _, _, h2.dp, g2.dp, (ok_dat _).sh (by decide), (ok_dat _).sh (by decide), _, rfl, ite2 (fun _ => ?_) (fun c => absurd (ok_dat _).eq c)⟩
    refine ⟨_, rfl, a, CB, dx, _, _, rfl, h1, T.B.cl, T.bh, rfl, _, rfl, a', CB, dx', _, _, rfl, g1, T.B.cl, T.bh, rfl, _, _, h3.dp, g3.dp, (ok_dat _).sh (by decide), (ok_dat _).sh (by decide), ?_⟩
    show Q (.bl (PyData.eqv (dat r) (dat r))) H
    rw [(ok_dat r).eq]
    exact k
end
end K1

set_option Elab.async false
set_option linter.all false
set_option maxRecDepth 100000
set_option maxHeartbeats 4000000
namespace K1
open PySem PySem.Spec PyProof.Rows L2
/-! ### bounds -/
def D0 : Nat := 6000018
def B0 : Nat := 6000018000000000
theorem D0p : 0 < D0 := by decide
theorem frL {n : Nat} {q : Rat} (h : Fr D0 (n * (B0 + B0)) q) (hn : n ≤ 100) : Len q :=
  (h.mono (Nat.mul_le_mul_right _ hn)).len D0p (by decide) (by decide)
theorem fr1 {q : Rat} (h : Fr D0 B0 q) : Len q := h.len D0p (by decide) (by decide)
/-- widths and the blank -/
def FrW (ws : Nat → Rat) (b : Rat) : Prop := (∀ i, Fr D0 B0 (ws i)) ∧ Fr D0 B0 b
theorem FrW.lo {ws : Nat → Rat} {b : Rat} (h : FrW ws b) {n : Nat} (hn : n ≤ 99) (c : Nat) : Len (lo b (fun j => ws (c + j)) n) ∧ Len (lo b (fun j => ws (c + j)) n + b) ∧ Fr D0 (n * (B0 + B0)) (K1.lo b (fun j => ws (c + j)) n) := by
  have z := lo_fr D0p h.2 (fun j => h.1 (c + j)) n
  refine ⟨frL z (by omega), frL (n := n + 1) ((z.add D0p h.2).mono ?_) (by omega), z⟩
  rw [Nat.succ_mul]
  omega
theorem le_dec (q r : Rat) : decide (q.num * (r.den : Int) ≤ r.num * (q.den : Int)) = decide (q ≤ r) := decide_eq_decide.mpr (Rat.le_iff q r).symm
theorem lt_dec (q r : Rat) : decide (q.num * (r.den : Int) < r.num * (q.den : Int)) = decide (q < r) := decide_eq_decide.mpr (Rat.lt_iff q r).symm
theorem same_upd' {H0 H : Hp} {p : Addr} {o : HO} (n : H0 p = none) (s : Same H0 H) : Same H0 (upd H p o) := fun b x e => by
  rw [upd_ne (ne_of_none e n)]
  exact s b x e
theorem NumAt.updl {H : Hp} {p : Addr} {xs : List V} {o : HO} {v : V} {q : Rat} (h : NumAt H v q) (hp : H p = some (.lst xs)) : NumAt (upd H p o) v q := by
  rcases h with h | ⟨e, r, rfl, hr⟩
  · exact .inl h
  · refine .inr ⟨e, r, rfl, ?_⟩
    rw [upd_ne (fun z => by subst z; rw [hp] at hr; cases hr)]
    exact hr
section
variable {P : Program} {w : World} {K : PySem.W.Frag} {mg : Str → Option Value} {base : Heap} {CW CB fI fE gI gE : Addr}
/-- the two comparisons and the sum, told by Rat -/
theorem spLe_q {v v' : V} {q r : Rat} {H : Hp} {Q : VK} {E : XK} (h : NumAt H v q) (h' : NumAt H v' r) (l : Len q) (l' : Len r) (k : ∀ H', Same H H' → Q (.bl (decide (q ≤ r))) H') : spLe [v, v'] H Q E :=
  ⟨v, v', q.num, r.num, q.den, r.den, rfl, h.p, h'.p, l.2, l'.2, fun H' s => by
    rw [le_dec]
    exact k H' s⟩
theorem spLt_q {v v' : V} {q r : Rat} {H : Hp} {Q : VK} {E : XK} (h : NumAt H v q) (h' : NumAt H v' r) (l : Len q) (l' : Len r) (k : ∀ H', Same H H' → Q (.bl (decide (q < r))) H') : spLt [v, v'] H Q E :=
  ⟨v, v', q.num, r.num, q.den, r.den, rfl, h.p, h'.p, l.2, l'.2, fun H' s => by
    rw [lt_dec]
    exact k H' s⟩
theorem spPlus_q {v v' : V} {q r : Rat} {H : Hp} {Q : VK} {E : XK} (h : NumAt H v q) (h' : NumAt H v' r) (l : Len q) (l' : Len r) (k : ∀ H' u, Same H H' → NumAt H' u (q + r) → Q u H') : spPlus [v, v'] H Q E :=
  ⟨v, v', q.num, r.num, q.den, r.den, rfl, h.p, h'.p, l.2, l'.2, fun H' u s e => k H' u s (by rw [Rat.add_def']; exact e)⟩
/-! ### least_width, most_width -/
def spLW (CW CB : Addr) (f : (Nat → Rat) → Rat → Nat → Rat) : Sp := fun vs H Q _ => ∃ a, vs = [.ref a] ∧
  ((∃ (t : Addr) (xs : List V) (vb vl vg : V) (ws : Nat → Rat) (b li g : Rat), WordsAt CW H a t xs vb vl vg ws b li g ∧ xs.length ≤ 20 ∧ FrW ws b ∧ ∀ H' v, Same H H' → NumAt H' v (f ws b xs.length) → Q v H') ∨
   (∃ (vw vh : V) (q r : Rat), BlockAt CB H a vw vh q r ∧ ∀ H', Same H H' → Q vw H'))
theorem scLW : FnScope ["content", "widest", "width"] ["content"] (defScope (top 30)) := ⟨rfl, rfl, rfl, by decide +kernel, rfl, by decide +kernel, by decide +kernel⟩
theorem ok_lw {f fC fL : Addr} {fd dC dL : FuncData} (F : FnP K "least_width" (top 30) f fd) (N : Nm mg) (T : T2 K mg CW CB fI fE gI gE) (d_check_content : D1 P w K mg base "check_content" "content" 1 (spCkC CW CB) fC dC) (d_at_most : D2 P w K mg base "at_most" "one" "other" 2 spLe fL dL) :
    FnOk P w K mg base CX0 3 f fd ["content"] (spLW CW CB fun ws _ n => mx ws n) := by
  refine F.ok scLW (fun vs H Q E h => ?_) (fun cdv A outer s H vs Q E hr h => ?_)
  · obtain ⟨a, rfl, _⟩ := h
    rfl
  · obtain ⟨a, rfl, h⟩ := h
    refine ⟨_, PSs.nox (pss_cons (ps_expr (pe_call d_check_content.G (hr.mono (by decide)) (by rfl) d_check_content.g d_check_content.kp d_check_content.b .nil pass0 (pa_cons (pv 0) pa_nil)))
  (pss_cons (ps_if (pt_val (pe_callB call_isi (by rfl) N.isi (by decide +kernel) (pa_cons (pv 0) (pa_cons (pe_glob (by rfl) T.B.gC (v := .ref CB) rfl) pa_nil))))
    (pss_one (ps_ret (pe_fld (pv 0) rfl)))
    pss_nil)
  (pss_cons (ps_set (i := 1) scLW.nd rfl (Or.inl rfl) pe_int)
  (pss_cons (ps_for PassesOwn.never rfl (pi_tup (pe_fld (pv 0) rfl))
    (pg_name (i := 2) scLW.nd rfl (Or.inl rfl))
    (pss_one (ps_if (pt_val (pe_call d_at_most.G (hr.mono (by decide)) (by rfl) d_at_most.g d_at_most.kp d_at_most.b .nil pass0 (pa_cons (pv 1) (pa_cons (pv 2) pa_nil))))
    (pss_one (ps_set (i := 1) scLW.nd rfl (Or.inl rfl) (pv 2)))
    pss_nil)))
  (pss_one (ps_ret (pv 1))))))), ?_⟩
    rcases h with ⟨t, xs, vb, vl, vg, ws, b, li, g, hW, hn, hf, k⟩ | ⟨vw, vh, q, r, hB, k⟩
    · obtain ⟨dx, h1⟩ := hW.1
      refine ⟨_, rfl, a, dx, _, rfl, .inl h1, fun H1 s1 => ?_⟩
      refine ⟨_, rfl, _, _, _, _, false, rfl, .own _, T.W.ty (s1 _ _ h1), T.kWB, false, rfl, iteF ?_⟩
      refine ⟨_, rfl, a, CW, dx, _, _, rfl, s1 _ _ h1, T.W.cl, T.aw, rfl, t, rfl, ⟨xs, SqT.of (s1 _ _ hW.2.1)⟩, for_tup (K := K) (a := t) (xs := xs) (fun i σ H' => Same H H' ∧ ∃ u v, NumAt H' u (mx ws i) ∧ σ = [some (.ref a), some u, v]) ⟨s1, _, _, numInt 0, rfl⟩ (fun i σ H' _ h => SqT.of (h.1 _ _ hW.2.1)) ?_ ?_⟩
      · rintro i x σ H2 hi ⟨s2, u, v, hu, rfl⟩
        have hx := (hW.2.2.1 i x hi).same s2
        refine ⟨_, rfl, _, rfl, spLe_q hu hx (fr1 (mx_fr hf.1 i)) (fr1 (hf.1 i)) fun H3 s3 => ⟨_, rfl, ite2 (fun c => ?_) (fun c => ?_)⟩⟩
        · have c := of_decide_eq_true c
          refine ⟨_, rfl, s2.trans s3, _, _, ?_, rfl⟩
          show NumAt H3 x (if mx ws i ≤ ws i then ws i else mx ws i)
          rw [if_pos c]
          exact hx.same s3
        · refine ⟨s2.trans s3, _, _, ?_, rfl⟩
          show NumAt H3 u (if mx ws i ≤ ws i then ws i else mx ws i)
          rw [if_neg (fun z => c (decide_eq_true z))]
          exact hu.same s3
      · rintro σ H2 ⟨s2, u, v, hu, rfl⟩
        exact ⟨_, rfl, k _ _ s2 hu⟩
    · obtain ⟨dx, h1⟩ := hB.1
      refine ⟨_, rfl, a, dx, _, rfl, .inr h1, fun H1 s1 => ?_⟩
      refine ⟨_, rfl, _, _, _, _, true, rfl, .own _, T.B.ty (s1 _ _ h1), T.B.self, true, rfl, iteT ?_⟩
      exact ⟨_, rfl, a, CB, dx, _, _, rfl, s1 _ _ h1, T.B.cl, T.bw, rfl, k _ s1⟩
theorem scMW : FnScope ["content", "total", "index", "width"] ["content"] (defScope (top 31)) := ⟨rfl, rfl, rfl, by decide +kernel, rfl, by decide +kernel, by decide +kernel⟩
theorem ok_mw {f fC fL : Addr} {fd dC dL : FuncData} (F : FnP K "most_width" (top 31) f fd) (N : Nm mg) (T : T2 K mg CW CB fI fE gI gE) (d_check_content : D1 P w K mg base "check_content" "content" 1 (spCkC CW CB) fC dC) (d_plus : D2 P w K mg base "plus" "one" "other" 2 spPlus fL dL) :
    FnOk P w K mg base CX0 3 f fd ["content"] (spLW CW CB fun ws b n => lo b ws n) := by
  refine F.ok scMW (fun vs H Q E h => ?_) (fun cdv A outer s H vs Q E hr h => ?_)
  · obtain ⟨a, rfl, h⟩ := h
    rfl
  · obtain ⟨a, rfl, h⟩ := h
    refine ⟨_, PSs.nox (pss_cons (ps_expr (pe_call d_check_content.G (hr.mono (by decide)) (by rfl) d_check_content.g d_check_content.kp d_check_content.b .nil pass0 (pa_cons (pv 0) pa_nil)))
  (pss_cons (ps_if (pt_val (pe_callB call_isi (by rfl) N.isi (by decide +kernel) (pa_cons (pv 0) (pa_cons (pe_glob (by rfl) T.B.gC (v := .ref CB) rfl) pa_nil))))
    (pss_one (ps_ret (pe_fld (pv 0) rfl)))
    pss_nil)
  (pss_cons (ps_set (i := 1) scMW.nd rfl (Or.inl rfl) pe_int)
  (pss_cons (ps_for PassesOwn.never rfl (pi_enumT (by rfl) N.enu (pa_cons (pe_fld (pv 0) rfl) pa_nil))
    (pg_tup rfl (pgs_cons (pg_name (i := 2) scMW.nd rfl (Or.inl rfl)) (pgs_cons (pg_name (i := 3) scMW.nd rfl (Or.inl rfl)) pgs_nil)))
    (pss_cons (ps_if (pt_cmpR op_gt (pv 2) pe_int (nomark _))
    (pss_one (ps_set (i := 1) scMW.nd rfl (Or.inl rfl) (pe_call d_plus.G (hr.mono (by decide)) (by rfl) d_plus.g d_plus.kp d_plus.b .nil pass0 (pa_cons (pv 1) (pa_cons (pe_fld (pv 0) rfl) pa_nil)))))
    pss_nil)
  (pss_one (ps_set (i := 1) scMW.nd rfl (Or.inl rfl) (pe_call d_plus.G (hr.mono (by decide)) (by rfl) d_plus.g d_plus.kp d_plus.b .nil pass0 (pa_cons (pv 1) (pa_cons (pv 3) pa_nil)))))))
  (pss_one (ps_ret (pv 1))))))), ?_⟩
    rcases h with ⟨t, xs, vb, vl, vg, ws, b, li, g, hW, hn, hf, k⟩ | ⟨vw, vh, q, r, hB, k⟩
    · obtain ⟨dx, h1⟩ := hW.1
      have e0 : (fun j => ws (0 + j)) = ws := funext fun j => by rw [Nat.zero_add]
      refine ⟨_, rfl, a, dx, _, rfl, .inl h1, fun H1 s1 => ?_⟩
      refine ⟨_, rfl, _, _, _, _, false, rfl, .own _, T.W.ty (s1 _ _ h1), T.kWB, false, rfl, iteF ?_⟩
      refine ⟨_, rfl, a, CW, dx, _, _, rfl, s1 _ _ h1, T.W.cl, T.aw, rfl, t, _, rfl, SqT.of (s1 _ _ hW.2.1), for_enumT (K := K) (a := t) (xs := xs) (fun i σ H' => Same H H' ∧ ∃ u v v2, NumAt H' u (lo b ws i) ∧ σ = [some (.ref a), some u, v, v2]) ⟨s1, _, _, _, numInt 0, rfl⟩ (fun i σ H' _ h => SqT.of (h.1 _ _ hW.2.1)) ?_ ?_⟩
      · rintro i x T2 σ H2 hi ⟨s2, u, v, v2, hu, rfl⟩ nT
        have hi' := (List.getElem?_eq_some_iff.mp hi).1
        refine ⟨T2, _, rfl, SqT.of upd_same, rfl, _, _, rfl, _, _, rfl, rfl, ?_⟩
        have s3 := s2.trans (same_upd (o := .tup [.int (i : Nat), x]) nT)
        have hx := (hW.2.2.1 i x hi).same s3
        have hu := hu.same (same_upd (o := .tup [.int (i : Nat), x]) nT)
        obtain ⟨l1, l2, _⟩ := hf.lo (n := i) (by omega) 0
        rw [e0] at l1 l2
        refine ⟨_, rfl, _, _, rfl, rfl, _, rfl, ite2 (fun c => ?_) (fun c => ?_)⟩
        · have c' : i ≠ 0 := fun z => by
            subst z
            exact absurd (of_decide_eq_true c) (by decide)
          refine ⟨_, rfl, _, rfl, a, CW, dx, _, _, rfl, s3 _ _ h1, T.W.cl, T.ab, rfl, spPlus_q hu (hW.2.2.2.1.same s3) l1 (fr1 hf.2) fun H4 u4 s4 e4 => ?_⟩
          refine ⟨_, rfl, _, rfl, spPlus_q e4 (hx.same s4) l2 (fr1 (hf.1 i)) fun H5 u5 s5 e5 => ⟨(s3.trans s4).trans s5, _, _, _, ?_, rfl⟩⟩
          show NumAt H5 u5 (lo b ws i + (if i = 0 then ws 0 else b + ws i))
          rw [if_neg c', ← Rat.add_assoc]
          exact e5
        · have c' : i = 0 := by
            apply Classical.byContradiction
            intro z
            exact c (decide_eq_true (by omega))
          subst c'
          refine ⟨_, rfl, _, rfl, spPlus_q hu hx l1 (fr1 (hf.1 0)) fun H5 u5 s5 e5 => ⟨s3.trans s5, _, _, _, e5, rfl⟩⟩
      · rintro σ H2 ⟨s2, u, v, v2, hu, rfl⟩
        exact ⟨_, rfl, k _ _ s2 hu⟩
    · obtain ⟨dx, h1⟩ := hB.1
      refine ⟨_, rfl, a, dx, _, rfl, .inr h1, fun H1 s1 => ?_⟩
      refine ⟨_, rfl, _, _, _, _, true, rfl, .own _, T.B.ty (s1 _ _ h1), T.B.self, true, rfl, iteT ?_⟩
      exact ⟨_, rfl, a, CB, dx, _, _, rfl, s1 _ _ h1, T.B.cl, T.bw, rfl, k _ s1⟩
end
end K1

set_option Elab.async false
set_option linter.all false
set_option maxRecDepth 100000
set_option maxHeartbeats 4000000
namespace K1
open PySem PySem.Spec PyProof.Rows L2
def nats (l : List Nat) : List V := l.map fun n : Nat => V.int (n : Int)
/-- the reached width before word i -/
def rd (room b : Rat) (w : Nat → Rat) : Nat → Rat
  | 0 => 0
  | i + 1 => lo b (fun j => w ((lp room b w i).2 + j)) (i + 1 - (lp room b w i).2)
theorem cut_tail {l : List Nat} : cutV (nats l) (some 1) none = nats l.tail := by
  unfold cutV
  rw [HT.sIx_none, show HT.sIx (nats l).length 0 (some 1) = min 1 (nats l).length from HT.sIx_nat _ _ 1]
  cases l with
  | nil => rfl
  | cons x xs =>
    have e : min 1 (nats (x :: xs)).length = 1 := by
      show min 1 ((xs.map _).length + 1) = 1
      omega
    rw [e]
    show ((nats xs)).take ((nats xs).length + 1 - 1) = nats xs
    rw [Nat.add_sub_cancel, List.take_length]
def Tups (H : Hp) (ts : List Addr) (l : List (Nat × Nat)) : Prop := ts.length = l.length ∧ ∀ (i : Nat) (t : Addr), ts[i]? = some t → ∃ p, l[i]? = some p ∧ H t = some (.tup [.int (p.1 : Int), .int (p.2 : Int)])
theorem Tups.same {H H' : Hp} {ts : List Addr} {l : List (Nat × Nat)} (h : Tups H ts l) (s : Same H H') : Tups H' ts l := ⟨h.1, fun i t e => by
  obtain ⟨p, e1, e2⟩ := h.2 i t e
  exact ⟨p, e1, s _ _ e2⟩⟩
def datT (l : List (Nat × Nat)) : List PyData := l.map fun p => .tuple [.int (p.1 : Int), .int (p.2 : Int)]
theorem tups_dp {K : PySem.W.Frag} {H : Hp} : ∀ (ts : List Addr) (l : List (Nat × Nat)), Tups H ts l → DpAll K H (ts.map V.ref) (datT l)
  | [], [], _ => .nil
  | [], _ :: _, h => nomatch h.1
  | _ :: _, [], h => nomatch h.1
  | t :: ts, p :: l, h => by
    obtain ⟨q, e1, e2⟩ := h.2 0 t rfl
    cases e1
    exact .cons (.tup (SqT.of e2) (.cons (.int _) (.cons (.int _) .nil))) (tups_dp ts l ⟨Nat.succ.inj h.1, fun i t e => h.2 (i + 1) t e⟩)
theorem ok_datT (l : List (Nat × Nat)) : Ok 2 (.list (datT l)) := ok_lst fun d hd => by
  obtain ⟨p, _, rfl⟩ := List.mem_map.mp hd
  refine ok_tup (m := 0) fun d hd => ?_
  rcases List.mem_cons.mp hd with rfl | hd
  · exact ok_int' _ _
  · rw [List.mem_singleton] at hd
    subst hd
    exact ok_int' _ _
theorem tups_zip {H : Hp} {f : List Nat} {n : Nat} {ts : List Addr} (hl : ts.length = (nats f).length) (h : Prs2 H (nats f) (nats f.tail ++ [.int (n : Int)]) ts) : Tups H ts (prs f n) := by
  refine ⟨by rw [hl, prs_len]; exact List.length_map _, fun i t e => ?_⟩
  obtain ⟨x, y, ex, ey, ht⟩ := h i t e
  have ey' : (nats (f.tail ++ [n]))[i]? = some y := by
    have : nats (f.tail ++ [n]) = nats f.tail ++ [.int (n : Int)] := List.map_append
    rw [this]
    exact ey
  unfold nats at ex ey'
  rw [List.getElem?_map] at ex ey'
  obtain ⟨x', e1, rfl⟩ := Option.map_eq_some_iff.mp ex
  obtain ⟨y', e2, rfl⟩ := Option.map_eq_some_iff.mp ey'
  exact ⟨(x', y'), List.getElem?_zip_eq_some.mpr ⟨e1, e2⟩, ht⟩
section
variable {P : Program} {w : World} {K : PySem.W.Frag} {mg : Str → Option Value} {base : Heap} {CW CB fI fE gI gE : Addr}
def spLF (CW : Addr) (R : Rat → Rat → Rat → (Nat → Rat) → Nat → Hp → VK → Prop) : Sp := fun vs H Q _ => ∃ (a t : Addr) (v : V) (xs : List V) (vb vl vg : V) (ws : Nat → Rat) (room b li g : Rat), vs = [.ref a, v] ∧ WordsAt CW H a t xs vb vl vg ws b li g ∧ xs.length ≤ 20 ∧ FrW ws b ∧ Fr D0 B0 li ∧ NumAt H v room ∧ Len room ∧ R room b li ws xs.length H Q
theorem scLF : FnScope ["content", "width", "firsts", "reached", "index", "word", "longer"] ["content", "width"] (defScope (top 32)) := ⟨rfl, rfl, rfl, by decide +kernel, rfl, by decide +kernel, by decide +kernel⟩
def spFi (CW : Addr) : Sp := spLF CW fun room b _ ws n H Q => ∀ H' p, Same H H' → H' p = some (.lst (nats (fst room b ws n))) → Q (.ref p) H'
theorem ok_lf {f fP fL : Addr} {fd dP dL : FuncData} (F : FnP K "line_firsts" (top 32) f fd) (N : Nm mg) (T : T2 K mg CW CB fI fE gI gE) (d_plus : D2 P w K mg base "plus" "one" "other" 2 spPlus fP dP) (d_at_most : D2 P w K mg base "at_most" "one" "other" 2 spLe fL dL) :
    FnOk P w K mg base CX0 3 f fd ["content", "width"] (spFi CW) := by
  refine F.ok scLF (fun vs H Q E h => ?_) (fun cdv A outer s H vs Q E hr h => ?_)
  · obtain ⟨a, t, v, xs, vb, vl, vg, ws, room, b, li, g, rfl, _⟩ := h
    rfl
  · obtain ⟨a, t, v, xs, vb, vl, vg, ws, room, b, li, g, rfl, hW, hn, hf, _, hv, hl, k⟩ := h
    refine ⟨_, PSs.nox (pss_cons (ps_set (i := 2) scLF.nd rfl (Or.inl rfl) (pe_lst pa_nil))
  (pss_cons (ps_set (i := 3) scLF.nd rfl (Or.inl rfl) pe_int)
  (pss_cons (ps_for PassesOwn.never rfl (pi_enumT (by rfl) N.enu (pa_cons (pe_fld (pv 0) rfl) pa_nil))
    (pg_tup rfl (pgs_cons (pg_name (i := 4) scLF.nd rfl (Or.inl rfl)) (pgs_cons (pg_name (i := 5) scLF.nd rfl (Or.inl rfl)) pgs_nil)))
    (pss_cons (ps_set (i := 6) scLF.nd rfl (Or.inl rfl) (pe_call d_plus.G (hr.mono (by decide)) (by rfl) d_plus.g d_plus.kp d_plus.b .nil pass0 (pa_cons (pe_call d_plus.G (hr.mono (by decide)) (by rfl) d_plus.g d_plus.kp d_plus.b .nil pass0 (pa_cons (pv 3) (pa_cons (pe_fld (pv 0) rfl) pa_nil))) (pa_cons (pv 5) pa_nil))))
  (pss_one (ps_if (PW.pt (pw_and (pt_cmpR op_gt (pv 4) pe_int (nomark _)) (pw_and1 (pt_val (pe_call d_at_most.G (hr.mono (by decide)) (by rfl) d_at_most.g d_at_most.kp d_at_most.b .nil pass0 (pa_cons (pv 6) (pa_cons (pv 1) pa_nil)))))))
    (pss_one (ps_set (i := 3) scLF.nd rfl (Or.inl rfl) (pv 6)))
    (pss_cons (ps_expr (pe_bm PySem.F.plainAttrs_list PySem.F.slot_list_append PySem.F.type_list_append mt_append (pv 2) (pa_cons (pv 4) pa_nil)))
  (pss_one (ps_set (i := 3) scLF.nd rfl (Or.inl rfl) (pv 5))))))))
  (pss_one (ps_ret (pv 2)))))), ?_⟩
    obtain ⟨dx, h1⟩ := hW.1
    refine ⟨(by show 0 ≤ sizeLine; decide), fun p np => ?_⟩
    have s1 := same_upd (o := .lst []) np
    refine ⟨_, rfl, a, CW, dx, _, _, rfl, s1 _ _ h1, T.W.cl, T.aw, rfl, t, _, rfl, SqT.of (s1 _ _ hW.2.1), for_enumT (K := K) (a := t) (xs := xs) (fun i σ H' => Same H H' ∧ H' p = some (.lst (nats (fst room b ws i))) ∧ ∃ u v4 v5 v6, NumAt H' u (rd room b ws i) ∧ σ = [some (.ref a), some v, some (.ref p), some u, v4, v5, v6]) ⟨s1, upd_same, _, _, _, _, numInt 0, rfl⟩ (fun i σ H' _ h => SqT.of (h.1 _ _ hW.2.1)) ?_ ?_⟩
    · rintro i x T2 σ H2 hi ⟨s2, hp, u, v4, v5, v6, hu, rfl⟩ nT
      have hi' := (List.getElem?_eq_some_iff.mp hi).1
      refine ⟨T2, _, rfl, SqT.of upd_same, rfl, _, _, rfl, _, _, rfl, rfl, ?_⟩
      have sT := same_upd (o := .tup [.int (i : Nat), x]) nT
      have s3 := s2.trans sT
      have hx := (hW.2.2.1 i x hi).same s3
      have hu := hu.same sT
      have hp := sT _ _ hp
      have hlen : (nats (fst room b ws i)).length ≤ 20 := by
        have := fst_len room b ws i
        show ((fst room b ws i).map _).length ≤ 20
        rw [List.length_map]
        omega
      have l12 : Len (rd room b ws i) ∧ Len (rd room b ws i + b) ∧ Len (rd room b ws i + b + ws i) := by
        cases i with
        | zero =>
          refine ⟨frL (n := 0) Fr.zero (by decide), frL (n := 1) (Fr.add (B := 0) D0p Fr.zero hf.2 |>.mono (by decide)) (by decide), frL (n := 1) ((Fr.add (B := 0) D0p Fr.zero hf.2).add D0p (hf.1 0) |>.mono (by decide)) (by decide)⟩
        | succ m =>
          obtain ⟨z1, z2, z3⟩ := hf.lo (n := m + 1 - (lp room b ws m).2) (by omega) (lp room b ws m).2
          refine ⟨z1, z2, frL (n := m + 2) ((z3.add D0p hf.2).add D0p (hf.1 (m + 1)) |>.mono ?_) (by omega)⟩
          have : (m + 1 - (lp room b ws m).2) * (B0 + B0) ≤ (m + 1) * (B0 + B0) := Nat.mul_le_mul_right _ (Nat.sub_le _ _)
          have e : (m + 2) * (B0 + B0) = (m + 1) * (B0 + B0) + (B0 + B0) := Nat.succ_mul _ _
          omega
      refine ⟨_, rfl, _, rfl, a, CW, dx, _, _, rfl, s3 _ _ h1, T.W.cl, T.ab, rfl, spPlus_q hu (hW.2.2.2.1.same s3) l12.1 (fr1 hf.2) fun H4 u4 s4 e4 => ?_⟩
      refine ⟨_, rfl, spPlus_q e4 (hx.same s4) l12.2.1 (fr1 (hf.1 i)) fun H5 u5 s5 e5 => ?_⟩
      have s45 := s4.trans s5
      have hp5 := s45 _ _ hp
      have hx5 := hx.same s45
      refine ⟨_, rfl, _, _, rfl, rfl, _, rfl, ite2 (fun c => ?_) (fun c => ?_)⟩
      · have c' : i ≠ 0 := fun z => by
          subst z
          exact absurd (of_decide_eq_true c) (by decide)
        obtain ⟨m, rfl⟩ := Nat.exists_eq_succ_of_ne_zero c'
        have hc := (lp_le room b ws m).1
        have eL : rd room b ws (m + 1) + b + ws (m + 1) = lo b (fun j => ws ((lp room b ws m).2 + j)) (m + 2 - (lp room b ws m).2) := by
          have e : m + 2 - (lp room b ws m).2 = (m + 1 - (lp room b ws m).2) + 1 := by omega
          rw [e]
          show _ = lo b (fun j => ws ((lp room b ws m).2 + j)) (m + 1 - (lp room b ws m).2) + (if m + 1 - (lp room b ws m).2 = 0 then ws ((lp room b ws m).2 + 0) else b + ws ((lp room b ws m).2 + (m + 1 - (lp room b ws m).2)))
          rw [if_neg (by omega), Nat.add_sub_cancel' (by omega : (lp room b ws m).2 ≤ m + 1), ← Rat.add_assoc]
          rfl
        refine ⟨_, rfl, _, rfl, spLe_q e5 ((hv.same s3).same s45) l12.2.2 hl fun H6 s6 => ⟨_, rfl, ite2 (fun d => ?_) (fun d => ?_)⟩⟩
        · have d := of_decide_eq_true d
          rw [eL] at d
          have eq : lp room b ws (m + 1) = lp room b ws m := by
            show (if _ then _ else _) = _
            rw [if_neg (Rat.not_lt.mpr d)]
          refine ⟨_, rfl, (s3.trans s45).trans s6, ?_, _, _, _, _, ?_, rfl⟩
          · have : fst room b ws (m + 1 + 1) = fst room b ws (m + 1) := by
              show (lp room b ws (m + 1)).1 ++ [(lp room b ws (m + 1)).2] = _
              rw [eq]
              rfl
            rw [this]
            exact s6 _ _ hp5
          · have : rd room b ws (m + 1 + 1) = rd room b ws (m + 1) + b + ws (m + 1) := by
              rw [eL]
              show lo b (fun j => ws ((lp room b ws (m + 1)).2 + j)) (m + 1 + 1 - (lp room b ws (m + 1)).2) = _
              rw [eq]
            rw [this]
            exact e5.same s6
        · have d : room < lo b (fun j => ws ((lp room b ws m).2 + j)) (m + 2 - (lp room b ws m).2) := by
            rw [← eL]
            exact Rat.not_le.mp fun z => d (decide_eq_true z)
          have eq : lp room b ws (m + 1) = ((lp room b ws m).1 ++ [(lp room b ws m).2], m + 1) := by
            show (if _ then _ else _) = _
            rw [if_pos d]
          refine ⟨_, rfl, .inl ⟨rfl, _, SqL.of (s6 _ _ hp5)⟩, _, rfl, p, _, _, rfl, rfl, s6 _ _ hp5, Nat.lt_of_le_of_lt hlen (by decide), _, rfl, same_upd' np ((s3.trans s45).trans s6), ?_, _, _, _, _, ?_, rfl⟩
          · have : fst room b ws (m + 1 + 1) = fst room b ws (m + 1) ++ [m + 1] := by
              show (lp room b ws (m + 1)).1 ++ [(lp room b ws (m + 1)).2] = _
              rw [eq]
              rfl
            rw [this, upd_same]
            show _ = some (HO.lst (List.map _ (_ ++ _)))
            rw [List.map_append]
            rfl
          · have : rd room b ws (m + 1 + 1) = ws (m + 1) := by
              show lo b (fun j => ws ((lp room b ws (m + 1)).2 + j)) (m + 1 + 1 - (lp room b ws (m + 1)).2) = _
              rw [eq]
              show lo b (fun j => ws (m + 1 + j)) (m + 1 + 1 - (m + 1)) = _
              rw [Nat.add_sub_cancel_left, lo_one]
            rw [this]
            exact (hx5.same s6).updl (s6 _ _ hp5)
      · have c' : i = 0 := by
          apply Classical.byContradiction
          intro z
          exact c (decide_eq_true (by omega))
        subst c'
        refine iteF ?_
        refine ⟨_, rfl, .inl ⟨rfl, _, SqL.of hp5⟩, _, rfl, p, _, _, rfl, rfl, hp5, Nat.lt_of_le_of_lt hlen (by decide), _, rfl, same_upd' np (s3.trans s45), upd_same, _, _, _, _, ?_, rfl⟩
        have : rd room b ws (0 + 1) = ws 0 := by
          show lo b (fun j => ws (0 + j)) (0 + 1 - 0) = _
          rw [lo_one]
        rw [this]
        exact hx5.updl hp5
    · rintro σ H2 ⟨s2, hp, u, v4, v5, v6, hu, rfl⟩
      exact ⟨_, rfl, k _ _ s2 hp⟩
def spLs (CW : Addr) : Sp := spLF CW fun room b _ ws n H Q => ∀ H' q ts, Same H H' → H' q = some (.lst (ts.map V.ref)) → Tups H' ts (lns room b ws n) → Q (.ref q) H'
theorem scLs : FnScope ["content", "width", "firsts", "behinds"] ["content", "width"] (defScope (top 33)) := ⟨rfl, rfl, rfl, by decide +kernel, rfl, by decide +kernel, by decide +kernel⟩
theorem ok_ls {f fC fL : Addr} {fd dC dL : FuncData} (F : FnP K "lines_in" (top 33) f fd) (N : Nm mg) (T : T2 K mg CW CB fI fE gI gE) (d_check_width : D1 P w K mg base "check_width" "width" 4 spCkN fC dC) (d_line_firsts : D2 P w K mg base "line_firsts" "content" "width" 3 (spFi CW) fL dL) :
    FnOk P w K mg base CX0 5 f fd ["content", "width"] (spLs CW) := by
  refine F.ok scLs (fun vs H Q E h => ?_) (fun cdv A outer s H vs Q E hr h => ?_)
  · obtain ⟨a, t, v, xs, vb, vl, vg, ws, room, b, li, g, rfl, _⟩ := h
    rfl
  · obtain ⟨a, t, v, xs, vb, vl, vg, ws, room, b, li, g, rfl, hW, hn, hf, hli, hv, hl, k⟩ := h
    refine ⟨_, PSs.nox (pss_cons (ps_if (pt_not (pt_val (pe_callB call_isi (by rfl) N.isi (by decide +kernel) (pa_cons (pv 0) (pa_cons (pe_glob (by rfl) T.W.gC (v := .ref CW) rfl) pa_nil)))))
    pss_never
    pss_nil)
  (pss_cons (ps_expr (pe_call d_check_width.G (hr.mono (by decide)) (by rfl) d_check_width.g d_check_width.kp d_check_width.b .nil pass0 (pa_cons (pv 1) pa_nil)))
  (pss_cons (ps_set (i := 2) scLs.nd rfl (Or.inl rfl) (pe_call d_line_firsts.G (hr.mono (by decide)) (by rfl) d_line_firsts.g d_line_firsts.kp d_line_firsts.b .nil pass0 (pa_cons (pv 0) (pa_cons (pv 1) pa_nil))))
  (pss_cons (ps_set (i := 3) scLs.nd rfl (Or.inl rfl) (pe_op op_catS (pe_slice sl_list (pv 2) (po_some pe_int) po_none) (pe_lst (pa_cons (pe_callB call_len_seq (by rfl) N.len PySem.boot_len (pa_cons (pe_fld (pv 0) rfl) pa_nil)) pa_nil))))
  (pss_one (ps_ret (pe_listzip rfl (by rfl) N.tlst (by rfl) N.zip (pa_cons (pv 2) (pa_cons (pv 3) pa_nil))))))))), ?_⟩
    obtain ⟨dx, h1⟩ := hW.1
    refine ⟨_, rfl, _, _, _, _, true, rfl, .own _, T.W.ty h1, T.W.self, true, rfl, iteF ?_⟩
    refine ⟨_, rfl, v, room, rfl, hv, hl, fun H1 s1 => ?_⟩
    refine ⟨_, rfl, _, rfl, a, t, v, xs, vb, vl, vg, ws, room, b, li, g, rfl, hW.same s1, hn, hf, hli, hv.same s1, hl, fun H2 p s2 hp => ?_⟩
    have s2 := s1.trans s2
    have hlen : (nats (fst room b ws xs.length)).length ≤ 20 := by
      have := fst_len room b ws xs.length
      show ((fst room b ws xs.length).map _).length ≤ 20
      rw [List.length_map]
      omega
    refine ⟨_, rfl, 1, rfl, p, _, rfl, SqL.of hp, fun p1 n1 => ?_⟩
    rw [cut_tail]
    have s3 := s2.trans (same_upd (o := .lst (nats (fst room b ws xs.length).tail)) n1)
    have hp3 := same_upd (o := .lst (nats (fst room b ws xs.length).tail)) n1 _ _ hp
    refine ⟨_, rfl, a, CW, dx, _, _, rfl, s3 _ _ h1, T.W.cl, T.aw, rfl, t, _, rfl, .inr (SqT.of (s3 _ _ hW.2.1)), (by show 1 ≤ sizeLine; decide), fun p2 n2 => ?_⟩
    have hp13 := same_upd (o := .lst [.int (xs.length : Nat)]) n2 _ _ (upd_same (H := H2) (a := p1) (o := .lst (nats (fst room b ws xs.length).tail)))
    have hp4 := same_upd (o := .lst [.int (xs.length : Nat)]) n2 _ _ hp3
    have s4 := s3.trans (same_upd (o := .lst [.int (xs.length : Nat)]) n2)
    have ht : (nats (fst room b ws xs.length).tail).length ≤ (nats (fst room b ws xs.length)).length := by
      show ((fst room b ws xs.length).tail.map _).length ≤ ((fst room b ws xs.length).map _).length
      rw [List.length_map, List.length_map, List.length_tail]
      omega
    refine ⟨p1, p2, _, _, rfl, rfl, SqL.of hp13, SqL.of upd_same, Nat.le_trans (Nat.add_le_add_right (Nat.le_trans ht hlen) 1) (by decide), fun p3 n3 => ?_⟩
    have hp5 := same_upd (o := .lst (nats (fst room b ws xs.length).tail ++ [.int (xs.length : Nat)])) n3 _ _ hp4
    have s5 := s4.trans (same_upd (o := .lst (nats (fst room b ws xs.length).tail ++ [.int (xs.length : Nat)])) n3)
    refine ⟨_, rfl, _, rfl, p, p3, _, _, rfl, SqL.of hp5, SqL.of upd_same, ?_, Nat.lt_of_le_of_lt hlen (by decide), fun H6 q ts s6 l6 h6 pr => ?_⟩
    · show ((fst room b ws xs.length).map _).length ≤ ((fst room b ws xs.length).tail.map _ ++ _).length
      rw [List.length_append, List.length_map, List.length_map, List.length_tail]
      show _ ≤ _ + 1
      omega
    · exact k H6 q ts (s5.trans s6) h6 (tups_zip l6 pr)
def spHt (CW CB : Addr) : Sp := fun vs H Q E => spLF CW (fun room b li ws n H Q => ∀ H' v, Same H H' → NumAt H' v (((fst room b ws n).length : Int) * li) → Q v H') vs H Q E ∨
  ∃ (a : Addr) (v vw vh : V) (room q r : Rat), vs = [.ref a, v] ∧ BlockAt CB H a vw vh q r ∧ NumAt H v room ∧ Len room ∧ ∀ H', Same H H' → Q vh H'
theorem scHt : FnScope ["content", "width"] ["content", "width"] (defScope (top 35)) := ⟨rfl, rfl, rfl, by decide +kernel, rfl, by decide +kernel, by decide +kernel⟩
theorem times_q {v' : V} {m : Nat} {r : Rat} {H : Hp} {Q : VK} {E : XK} (hm : m ≤ 1000) (h' : NumAt H v' r) (l' : Len r) (k : ∀ H' u, Same H H' → NumAt H' u ((m : Int) * r) → Q u H') : spTimes [.int (m : Int), v'] H Q E :=
  ⟨_, v', (m : Int), r.num, 1, r.den, rfl, .inl ⟨rfl, rfl⟩, h'.p, ⟨by rw [Int.natAbs_natCast]; exact Nat.lt_of_le_of_lt hm (by decide), by decide, by decide⟩, l'.2, fun H' u s e => k H' u s (by rw [Rat.mul_def']; exact e)⟩
theorem scHo : FnScope ["content", "width"] ["content", "width"] (defScope (top 34)) := ⟨rfl, rfl, rfl, by decide +kernel, rfl, by decide +kernel, by decide +kernel⟩
theorem ok_hof {f fL fT : Addr} {fd dL dT : FuncData} (F : FnP K "height_of" (top 34) f fd) (N : Nm mg) (T : T2 K mg CW CB fI fE gI gE) (d_line_firsts : D2 P w K mg base "line_firsts" "content" "width" 3 (spFi CW) fL dL) (d_times : D2 P w K mg base "times" "one" "other" 2 spTimes fT dT) :
    FnOk P w K mg base CX0 4 f fd ["content", "width"] (spHt CW CB) := by
  refine F.ok scHo (fun vs H Q E h => ?_) (fun cdv A outer s H vs Q E hr h => ?_)
  · rcases h with ⟨a, t, v, xs, vb, vl, vg, ws, room, b, li, g, rfl, _⟩ | ⟨a, v, vw, vh, room, q, r, rfl, _⟩
    · rfl
    · rfl
  · rcases h with ⟨a, t, v, xs, vb, vl, vg, ws, room, b, li, g, rfl, hW, hn, hf, hli, hv, hl, k⟩ | ⟨a, v, vw, vh, room, q, r, rfl, hB, hv, hl, k⟩
    · skip
      refine ⟨_, PSs.nox (pss_cons (ps_if (pt_val (pe_callB call_isi (by rfl) N.isi (by decide +kernel) (pa_cons (pv 0) (pa_cons (pe_glob (by rfl) T.B.gC (v := .ref CB) rfl) pa_nil))))
    (pss_one (ps_ret (pe_fld (pv 0) rfl)))
    pss_nil)
  (pss_one (ps_ret (pe_call d_times.G (hr.mono (by decide)) (by rfl) d_times.g d_times.kp d_times.b .nil pass0 (pa_cons (pe_callB call_len_seq (by rfl) N.len PySem.boot_len (pa_cons (pe_call d_line_firsts.G (hr.mono (by decide)) (by rfl) d_line_firsts.g d_line_firsts.kp d_line_firsts.b .nil pass0 (pa_cons (pv 0) (pa_cons (pv 1) pa_nil))) pa_nil)) (pa_cons (pe_fld (pv 0) rfl) pa_nil)))))), ?_⟩
      obtain ⟨dx, h1⟩ := hW.1
      have s2 := Same.refl H
      refine ⟨_, rfl, _, _, _, _, false, rfl, .own _, T.W.ty (s2 _ _ h1), T.kWB, false, rfl, iteF ?_⟩
      refine ⟨_, rfl, _, rfl, a, t, v, xs, vb, vl, vg, ws, room, b, li, g, rfl, hW.same s2, hn, hf, hli, hv.same s2, hl, fun H3 p s3 hp => ?_⟩
      have s3 := s2.trans s3
      have e : (nats (fst room b ws xs.length)).length = (fst room b ws xs.length).length := List.length_map _
      refine ⟨p, _, rfl, .inl (SqL.of hp), _, rfl, a, CW, dx, _, _, rfl, s3 _ _ h1, T.W.cl, T.al, rfl, ?_⟩
      rw [e]
      exact times_q (Nat.le_trans (fst_len room b ws xs.length) (by omega)) (hW.2.2.2.2.1.same s3) (fr1 hli) fun H4 u s4 e4 => k _ _ (s3.trans s4) e4
    · skip
      refine ⟨_, PSs.nox (pss_cons (ps_if (pt_val (pe_callB call_isi (by rfl) N.isi (by decide +kernel) (pa_cons (pv 0) (pa_cons (pe_glob (by rfl) T.B.gC (v := .ref CB) rfl) pa_nil))))
    (pss_one (ps_ret (pe_fld (pv 0) rfl)))
    pss_nil)
  (pss_one (ps_ret (pe_call d_times.G (hr.mono (by decide)) (by rfl) d_times.g d_times.kp d_times.b .nil pass0 (pa_cons (pe_callB call_len_seq (by rfl) N.len PySem.boot_len (pa_cons (pe_call d_line_firsts.G (hr.mono (by decide)) (by rfl) d_line_firsts.g d_line_firsts.kp d_line_firsts.b .nil pass0 (pa_cons (pv 0) (pa_cons (pv 1) pa_nil))) pa_nil)) (pa_cons (pe_fld (pv 0) rfl) pa_nil)))))), ?_⟩
      obtain ⟨dx, h1⟩ := hB.1
      have s2 := Same.refl H
      refine ⟨_, rfl, _, _, _, _, true, rfl, .own _, T.B.ty (s2 _ _ h1), T.B.self, true, rfl, iteT ?_⟩
      exact ⟨_, rfl, a, CB, dx, _, _, rfl, s2 _ _ h1, T.B.cl, T.bh, rfl, k _ s2⟩
theorem ok_ht {f fC fN fL : Addr} {fd dC dN dL : FuncData} (F : FnP K "height_in" (top 35) f fd) (N : Nm mg) (T : T2 K mg CW CB fI fE gI gE) (d_check_content : D1 P w K mg base "check_content" "content" 1 (spCkC CW CB) fC dC) (d_check_width : D1 P w K mg base "check_width" "width" 4 spCkN fN dN) (d_height_of : D2 P w K mg base "height_of" "content" "width" 4 (spHt CW CB) fL dL) :
    FnOk P w K mg base CX0 5 f fd ["content", "width"] (spHt CW CB) := by
  refine F.ok scHt (fun vs H Q E h => ?_) (fun cdv A outer s H vs Q E hr h => ?_)
  · rcases h with ⟨a, t, v, xs, vb, vl, vg, ws, room, b, li, g, rfl, _⟩ | ⟨a, v, vw, vh, room, q, r, rfl, _⟩
    · rfl
    · rfl
  · rcases h with ⟨a, t, v, xs, vb, vl, vg, ws, room, b, li, g, rfl, hW, hn, hf, hli, hv, hl, k⟩ | ⟨a, v, vw, vh, room, q, r, rfl, hB, hv, hl, k⟩
    · skip
      refine ⟨_, PSs.nox (pss_cons (ps_expr (pe_call d_check_content.G (hr.mono (by decide)) (by rfl) d_check_content.g d_check_content.kp d_check_content.b .nil pass0 (pa_cons (pv 0) pa_nil)))
  (pss_cons (ps_expr (pe_call d_check_width.G (hr.mono (by decide)) (by rfl) d_check_width.g d_check_width.kp d_check_width.b .nil pass0 (pa_cons (pv 1) pa_nil)))
  (pss_one (ps_ret (pe_call d_height_of.G (hr.mono (by decide)) (by rfl) d_height_of.g d_height_of.kp d_height_of.b .nil pass0 (pa_cons (pv 0) (pa_cons (pv 1) pa_nil))))))), ?_⟩
      obtain ⟨dx, h1⟩ := hW.1
      refine ⟨_, rfl, a, dx, _, rfl, .inl h1, fun H1 s1 => ?_⟩
      refine ⟨_, rfl, v, room, rfl, hv.same s1, hl, fun H2 s2 => ?_⟩
      have s2 := s1.trans s2
      exact ⟨_, rfl, _, rfl, .inl ⟨a, t, v, xs, vb, vl, vg, ws, room, b, li, g, rfl, hW.same s2, hn, hf, hli, hv.same s2, hl, fun H3 u s3 e3 => k _ _ (s2.trans s3) e3⟩⟩
    · skip
      refine ⟨_, PSs.nox (pss_cons (ps_expr (pe_call d_check_content.G (hr.mono (by decide)) (by rfl) d_check_content.g d_check_content.kp d_check_content.b .nil pass0 (pa_cons (pv 0) pa_nil)))
  (pss_cons (ps_expr (pe_call d_check_width.G (hr.mono (by decide)) (by rfl) d_check_width.g d_check_width.kp d_check_width.b .nil pass0 (pa_cons (pv 1) pa_nil)))
  (pss_one (ps_ret (pe_call d_height_of.G (hr.mono (by decide)) (by rfl) d_height_of.g d_height_of.kp d_height_of.b .nil pass0 (pa_cons (pv 0) (pa_cons (pv 1) pa_nil))))))), ?_⟩
      obtain ⟨dx, h1⟩ := hB.1
      refine ⟨_, rfl, a, dx, _, rfl, .inr h1, fun H1 s1 => ?_⟩
      refine ⟨_, rfl, v, room, rfl, hv.same s1, hl, fun H2 s2 => ?_⟩
      have s2 := s1.trans s2
      exact ⟨_, rfl, _, rfl, .inr ⟨a, v, vw, vh, room, q, r, rfl, hB.same s2, hv.same s2, hl, fun H3 s3 => k _ (s2.trans s3)⟩⟩
end
end K1

set_option Elab.async false
set_option linter.all false
set_option maxRecDepth 100000
set_option maxHeartbeats 4000000
namespace K1
open PySem PySem.Spec PyProof.Rows L2
section
variable {P : Program} {w : World} {K : PySem.W.Frag} {mg : Str → Option Value} {base : Heap}
/-! ### draws -/
theorem scDraw : FnScope ["well", "many", "found", "number"] ["well", "many"] (defScope (top 37)) := ⟨rfl, rfl, rfl, by decide +kernel, rfl, by decide +kernel, by decide +kernel⟩
theorem draw_bound {w1 w2 : Int} (h1 : 0 ≤ w1) (h2 : w1 < 4294967296) (h3 : 0 ≤ w2) (h4 : w2 < 1000001) : -(2 ^ 64) < w1 + 104729 * w2 + 1 ∧ w1 + 104729 * w2 + 1 < 2 ^ 64 := by omega
theorem ok_draw {f : Addr} {fd : FuncData} (F : FnP K "_law_draw" (top 37) f fd) (hi : mg "int" = none) : FnOk P w K mg base CX0 1 f fd ["well", "many"] spDraw := by
  refine F.ok scDraw (fun vs H Q E h => ?_) (fun cdv A outer s H vs Q E hr h => ?_)
  · obtain ⟨a, m, n, rfl, _⟩ := h
    rfl
  · obtain ⟨a, m, n, rfl, ⟨w0, w1, w2, hw, h0, h1, h1', h2, h2'⟩, hn, hm, hm', k⟩ := h
    refine ⟨_, PSs.nox (pss_cons (ps_if (pt_cmpR op_gt (pe_ix ix_list (pv 0) pe_int (fun _ _ => rfl)) pe_int (nomark _))
        (pss_cons (ps_set (i := 2) scDraw.nd rfl (Or.inl rfl) (pe_op op_modN (pe_callTy call_int1 (by rfl) hi (by decide +kernel) (pa_cons (pe_ix ix_list (pv 0) pe_int (fun _ _ => rfl)) pa_nil)) (pv 1)))
        (pss_cons (ps_asg (pe_op op_fdivN (pe_ix ix_list (pv 0) pe_int (fun _ _ => rfl)) (pv 1)) (pg_sub (pv 0) pe_int set_list))
        (pss_one (ps_ret (pv 2))))) pss_nil)
      (pss_cons (ps_asg (pe_op op_add (pe_ix ix_list (pv 0) pe_int (fun _ _ => rfl)) pe_int) (pg_sub (pv 0) pe_int set_list))
      (pss_cons (ps_set (i := 3) scDraw.nd rfl (Or.inl rfl) (pe_op op_modN (pe_callTy call_int1 (by rfl) hi (by decide +kernel) (pa_cons (pe_op op_mul (pe_op op_add (pe_op op_add (pe_ix ix_list (pv 0) pe_int (fun _ _ => rfl)) (pe_op op_mul pe_int (pe_ix ix_list (pv 0) pe_int (fun _ _ => rfl)))) pe_int) pe_int) pa_nil)) pe_int))
      (pss_cons (ps_set (i := 3) scDraw.nd rfl (Or.inl rfl) (pe_op op_modN (pe_callTy call_int1 (by rfl) hi (by decide +kernel) (pa_cons (pe_op op_mul (pv 3) (pe_op op_add (pe_op op_fdivN (pv 3) pe_int) pe_int)) pa_nil)) pe_int))
      (pss_one (ps_ret (pe_op op_modN (pe_callTy call_int1 (by rfl) hi (by decide +kernel) (pa_cons (pe_op op_modN (pe_callTy call_int1 (by rfl) hi (by decide +kernel) (pa_cons (pe_op op_mul (pv 3) (pe_op op_add (pe_op op_fdivN (pv 3) pe_int) pe_int)) pa_nil)) pe_int) pa_nil)) (pv 1)))))))), ?_⟩
    -- well[0] > 0
    refine ⟨_, rfl, a, _, _, _, rfl, rfl, SqL.of hw, at0, _, _, rfl, rfl, _, rfl, ?_⟩
    refine ite2 (fun c => ?_) (fun c => ?_)
    · refine ⟨_, rfl, a, _, _, _, rfl, rfl, SqL.of hw, at0, .inl ⟨_, rfl, _, rfl, _, _, rfl, rfl, (by show m ≠ 0; omega), ?_⟩⟩
      refine ⟨_, rfl, a, _, _, _, rfl, rfl, SqL.of hw, at0, _, rfl, _, _, rfl, rfl, divN hm hm', ?_⟩
      refine ⟨_, rfl, a, _, _, 0, rfl, rfl, hw, rfl, ?_⟩
      refine ⟨_, rfl, ?_⟩
      obtain ⟨r0, r1⟩ := fmod_in (x := w0) hm
      exact k _ _ r0 r1 But.upd ⟨w0.fdiv m, w1, w2, upd_same, fdiv_in h0 hm, h1, h1', h2, by omega⟩
    · refine ⟨_, rfl, a, _, _, _, rfl, rfl, SqL.of hw, at2, _, _, rfl, rfl, ?_⟩
      refine ⟨_, rfl, a, _, _, 2, rfl, rfl, hw, rfl, ?_⟩
      have hw' : upd H a (.lst [.int w0, .int w1, .int (w2 + 1)]) a = some (.lst [.int w0, .int w1, .int (w2 + 1)]) := upd_same
      -- figure, the first
      refine ⟨_, rfl, a, _, _, _, rfl, rfl, SqL.of hw', at1, _, rfl, a, _, _, _, rfl, rfl, SqL.of hw', at2, _, _, rfl, rfl, .inl ⟨by decide, by decide⟩, _, _, rfl, rfl, _, _, rfl, rfl, _, _, rfl, rfl, .inr ⟨by decide, by decide⟩, .inl ⟨_, rfl, _, _, rfl, rfl, (by show (2147483647 : Int) ≠ 0; decide), ?_⟩⟩
      obtain ⟨a0, a1⟩ := fmod_in (x := (w1 + 104729 * (w2 + 1) + 1) * 48271) (m := 2147483647) (by decide)
      refine ⟨_, rfl, _, rfl, _, _, rfl, rfl, ⟨by decide, by decide⟩, _, _, rfl, rfl, _, _, rfl, rfl, .inl ⟨by omega, by omega⟩, .inl ⟨_, rfl, _, _, rfl, rfl, (by show (2147483647 : Int) ≠ 0; decide), ?_⟩⟩
      obtain ⟨b0, b1⟩ := fmod_in (x := ((w1 + 104729 * (w2 + 1) + 1) * 48271).fmod 2147483647 * ((((w1 + 104729 * (w2 + 1) + 1) * 48271).fmod 2147483647).fdiv 1009 + 69621)) (m := 2147483647) (by decide)
      refine ⟨_, rfl, _, rfl, _, _, rfl, rfl, ⟨by decide, by decide⟩, _, _, rfl, rfl, _, _, rfl, rfl, .inl ⟨by omega, by omega⟩, .inl ⟨_, rfl, _, _, rfl, rfl, (by show (2147483399 : Int) ≠ 0; decide), .inl ⟨_, rfl, _, rfl, _, _, rfl, rfl, (by show m ≠ 0; omega), ?_⟩⟩⟩
      obtain ⟨r0, r1⟩ := fmod_in (x := (((((w1 + 104729 * (w2 + 1) + 1) * 48271).fmod 2147483647 * ((((w1 + 104729 * (w2 + 1) + 1) * 48271).fmod 2147483647).fdiv 1009 + 69621)).fmod 2147483647 * (((((w1 + 104729 * (w2 + 1) + 1) * 48271).fmod 2147483647 * ((((w1 + 104729 * (w2 + 1) + 1) * 48271).fmod 2147483647).fdiv 1009 + 69621)).fmod 2147483647).fdiv 2003 + 40692)).fmod 2147483399)) hm
      exact k _ _ r0 r1 But.upd ⟨w0, w1, w2 + 1, upd_same, h0, h1, h1', by omega, by omega⟩

theorem _root_.L2.But.keep {a : Addr} {H H' : Hp} (h : But a H H') : Keep a H H' := fun b o n e => (h b n).trans e
def wL (r : Int) : Nat → Rat
  | 0 => ((0 : Int) : Rat)
  | 1 => ((1 : Int) : Rat)
  | 2 => ((10 : Int) : Rat)
  | 3 => ((30 : Int) : Rat)
  | 4 => ((7 : Int) : Rat)
  | 5 => mkRat 1 2
  | 6 => mkRat 7 3
  | 7 => mkRat 1 1000003
  | 8 => ((1000000000 : Int) : Rat)
  | _ => (r : Rat)
theorem fr_int {i : Int} (h0 : 0 ≤ i) (h1 : i ≤ 1000000000) : Fr D0 B0 (i : Rat) := by
  obtain ⟨k, rfl⟩ := Int.eq_ofNat_of_zero_le h0
  refine ⟨k * D0, ?_, ?_⟩
  · have : k ≤ 1000000000 := by omega
    exact Nat.mul_le_mul_right D0 this
  · rw [Int.natCast_mul]
    have e := Rat.mkRat_mul_right (n := (k : Int)) (d := 1) (a := D0) (by decide)
    rw [Nat.one_mul] at e
    rw [e]
    exact (Rat.mkRat_self ((k : Int) : Rat)).symm
theorem wL_fr {r : Int} (h0 : 0 ≤ r) (h1 : r < 60) : ∀ i, Fr D0 B0 (wL r i)
  | 0 => fr_int (by decide) (by decide)
  | 1 => fr_int (by decide) (by decide)
  | 2 => fr_int (by decide) (by decide)
  | 3 => fr_int (by decide) (by decide)
  | 4 => fr_int (by decide) (by decide)
  | 5 => ⟨3000009, by decide, show mkRat 1 2 = mkRat ((3000009 : Nat) : Int) D0 by decide +kernel⟩
  | 6 => ⟨14000042, by decide, show mkRat 7 3 = mkRat ((14000042 : Nat) : Int) D0 by decide +kernel⟩
  | 7 => ⟨6, by decide, show mkRat 1 1000003 = mkRat ((6 : Nat) : Int) D0 by decide +kernel⟩
  | 8 => fr_int (by decide) (by decide)
  | _ + 9 => fr_int (i := r) h0 (by omega)
theorem at_tup {H : Hp} {p : Addr} {t : Int} {b : Nat} {q : Rat} (hn : q.num = t) (hd : q.den = b) (h1 : b ≠ 1) (hp : H p = some (.tup [.int t, .int (b : Int)])) : NumAt H (.ref p) q := by
  subst hn hd
  exact .inr ⟨h1, p, rfl, hp⟩
def spLength : Sp := fun vs H Q _ => ∃ (a : Addr) (n : Int), vs = [.ref a] ∧ Well H a n ∧ n < 900000 ∧ ∀ v q H', Keep a H H' → Well H' a (n + 2) → NumAt H' v q → Fr D0 B0 q → Q v H'
theorem scLgt : FnScope ["well", "some"] ["well"] (defScope (top 39)) := ⟨rfl, rfl, rfl, by decide +kernel, rfl, by decide +kernel, by decide +kernel⟩
theorem _root_.L2.Well.same {H H' : Hp} {a : Addr} {n : Int} (h : Well H a n) (s : Same H H') : Well H' a n := by
  obtain ⟨w0, w1, w2, e, r⟩ := h
  exact ⟨w0, w1, w2, s _ _ e, r⟩
theorem ok_lgt {f fD : Addr} {fd dD : FuncData} (F : FnP K "_law_length" (top 39) f fd) (d__law_draw : D2 P w K mg base "_law_draw" "well" "many" 1 spDraw fD dD) : FnOk P w K mg base CX0 2 f fd ["well"] spLength := by
  refine F.ok scLgt (fun vs H Q E h => ?_) (fun cdv A outer s H vs Q E hr h => ?_)
  · obtain ⟨a, n, rfl, _⟩ := h
    rfl
  · obtain ⟨a, n, rfl, hw, hn, k⟩ := h
    refine ⟨_, PSs.nox (pss_cons (ps_set (i := 1) scLgt.nd rfl (Or.inl rfl) (pe_lst (pa_cons pe_int (pa_cons pe_int (pa_cons pe_int (pa_cons pe_int (pa_cons pe_int (pa_cons (pe_tup (pa_cons pe_int (pa_cons pe_int pa_nil))) (pa_cons (pe_tup (pa_cons pe_int (pa_cons pe_int pa_nil))) (pa_cons (pe_tup (pa_cons pe_int (pa_cons pe_int pa_nil))) (pa_cons (pe_op op_pow pe_int pe_int) (pa_cons (pe_call d__law_draw.G (hr.mono (by decide)) (by rfl) d__law_draw.g d__law_draw.kp d__law_draw.b .nil pass0 (pa_cons (pv 0) (pa_cons pe_int pa_nil))) pa_nil))))))))))))
  (pss_one (ps_ret (pe_ix ix_list (pv 1) (pe_call d__law_draw.G (hr.mono (by decide)) (by rfl) d__law_draw.g d__law_draw.kp d__law_draw.b .nil pass0 (pa_cons (pv 0) (pa_cons pe_int pa_nil))) (fun _ _ => rfl))))), ?_⟩
    refine ⟨(by show 2 ≤ sizeLine; decide), fun p1 n1 => ⟨(by show 2 ≤ sizeLine; decide), fun p2 n2 => ⟨(by show 2 ≤ sizeLine; decide), fun p3 n3 => ?_⟩⟩⟩
    have s1 := same_upd (o := .tup [.int 1, .int 2]) n1
    have s2 := same_upd (o := .tup [.int 7, .int 3]) n2
    have s3 := same_upd (o := .tup [.int 1, .int 1000003]) n3
    have hw3 := ((hw.same s1).same s2).same s3
    have e1 := s3 _ _ (s2 _ _ (upd_same (H := H) (a := p1) (o := .tup [.int 1, .int 2])))
    have e2 := s3 _ _ (upd_same (H := upd H p1 (.tup [.int 1, .int 2])) (a := p2) (o := .tup [.int 7, .int 3]))
    have e3 := upd_same (H := upd (upd H p1 (.tup [.int 1, .int 2])) p2 (.tup [.int 7, .int 3])) (a := p3) (o := .tup [.int 1, .int 1000003])
    have nw : ∀ {H' : Hp} {m : Int} {p : Addr} {xs : List V}, Well H' a m → H' p = some (.tup xs) → p ≠ a := fun hw hp z => by
      obtain ⟨w0, w1, w2, e, _⟩ := hw
      rw [z, e] at hp
      cases hp
    refine ⟨_, _, rfl, rfl, ⟨by decide, by decide, by decide⟩, ?_⟩
    refine ⟨_, rfl, a, 60, n, rfl, hw3, by omega, by decide, by decide, fun r H1 r0 r1 b1 hw1 => ?_⟩
    have g1 := (b1.keep _ _ (nw hw3 e1) e1)
    have g2 := (b1.keep _ _ (nw hw3 e2) e2)
    have g3 := (b1.keep _ _ (nw hw3 e3) e3)
    refine ⟨(by show 10 ≤ sizeLine; decide), fun z nz => ?_⟩
    have s4 := same_upd (o := .lst [.int 0, .int 1, .int 10, .int 30, .int 7, .ref p1, .ref p2, .ref p3, .int (10 ^ (9 : Int).toNat), .int r]) nz
    have hw4 := hw1.same s4
    have hz : z ≠ a := fun e => by
      obtain ⟨w0, w1, w2, e', _⟩ := hw1
      rw [e, e'] at nz
      cases nz
    refine ⟨_, rfl, _, rfl, a, 10, n + 1, rfl, hw4, by omega, by decide, by decide, fun r2 H2 r20 r21 b2 hw2 => ?_⟩
    obtain ⟨j, rfl⟩ := Int.eq_ofNat_of_zero_le r20
    have f1 := b2.keep _ _ (nw hw4 (s4 _ _ g1)) (s4 _ _ g1)
    have f2 := b2.keep _ _ (nw hw4 (s4 _ _ g2)) (s4 _ _ g2)
    have f3 := b2.keep _ _ (nw hw4 (s4 _ _ g3)) (s4 _ _ g3)
    have hl : H2 z = some (.lst [.int 0, .int 1, .int 10, .int 30, .int 7, .ref p1, .ref p2, .ref p3, .int (10 ^ (9 : Int).toNat), .int r]) := b2.keep _ _ hz upd_same
    have hj : j < [V.int 0, .int 1, .int 10, .int 30, .int 7, .ref p1, .ref p2, .ref p3, .int (10 ^ (9 : Int).toNat), .int r].length := by
      show j < 10
      omega
    have all : Nums H2 [V.int 0, .int 1, .int 10, .int 30, .int 7, .ref p1, .ref p2, .ref p3, .int (10 ^ (9 : Int).toNat), .int r] (wL r) := fun i v e => match i, e with
      | 0, rfl => numInt 0
      | 1, rfl => numInt 1
      | 2, rfl => numInt 10
      | 3, rfl => numInt 30
      | 4, rfl => numInt 7
      | 5, rfl => at_tup (q := mkRat 1 2) (t := 1) (b := 2) (by decide +kernel) (by decide +kernel) (by decide) f1
      | 6, rfl => at_tup (q := mkRat 7 3) (t := 7) (b := 3) (by decide +kernel) (by decide +kernel) (by decide) f2
      | 7, rfl => at_tup (q := mkRat 1 1000003) (t := 1) (b := 1000003) (by decide +kernel) (by decide +kernel) (by decide) f3
      | 8, rfl => numInt 1000000000
      | 9, rfl => numInt r
    have ej := List.getElem?_eq_getElem hj
    refine ⟨z, _, _, _, rfl, rfl, SqL.of hl, atI_nat ej, ?_⟩
    have kp : Keep a H H2 := ((((Keep.of ((s1.trans s2).trans s3)).trans b1.keep).trans (Keep.of s4)).trans b2.keep)
    have hw2' : Well H2 a (n + 2) := by
      rw [show n + 2 = n + 1 + 1 by omega]
      exact hw2
    exact k _ _ H2 kp hw2' (all j _ ej) (wL_fr r0 r1 j)
end
end K1

set_option Elab.async false
set_option linter.all false
set_option maxRecDepth 100000
set_option maxHeartbeats 4000000
namespace K1
open PySem PySem.Spec PyProof.Rows L2
theorem cut_mid {xs : List V} {f b : Nat} : cutV xs (some (f : Int)) (some (b : Int)) = (xs.drop (min f xs.length)).take (min b xs.length - min f xs.length) := by
  unfold cutV
  rw [HT.sIx_nat, HT.sIx_nat]
theorem cut_get {xs : List V} {f b i : Nat} {v : V} (h : (cutV xs (some (f : Int)) (some (b : Int)))[i]? = some v) : f ≤ xs.length ∧ xs[f + i]? = some v ∧ i < b - f := by
  rw [cut_mid] at h
  have hi := (List.getElem?_eq_some_iff.mp h).1
  rw [List.length_take, List.length_drop] at hi
  rw [List.getElem?_take_of_lt (by omega), List.getElem?_drop] at h
  have e : min f xs.length = f := by omega
  rw [e] at h
  exact ⟨by omega, h, by omega⟩
theorem cut_len {xs : List V} {f b : Nat} : (cutV xs (some (f : Int)) (some (b : Int))).length = min b xs.length - min f xs.length := by
  rw [cut_mid, List.length_take, List.length_drop]
  omega
section
variable {P : Program} {w : World} {K : PySem.W.Frag} {mg : Str → Option Value} {base : Heap}
/-! ### the law's sums and lines -/
def spLong : Sp := fun vs H Q _ => ∃ (l : Addr) (xs : List V) (vb : V) (ws : Nat → Rat) (b : Rat), vs = [.ref l, vb] ∧ H l = some (.lst xs) ∧ xs.length ≤ 20 ∧ Nums H xs ws ∧ FrW ws b ∧ NumAt H vb b ∧ ∀ H' v, Same H H' → NumAt H' v (lo b ws xs.length) → Q v H'
theorem scLong : FnScope ["widths", "blank", "found", "at", "width"] ["widths", "blank"] (defScope (top 45)) := ⟨rfl, rfl, rfl, by decide +kernel, rfl, by decide +kernel, by decide +kernel⟩
theorem ok_long {f fP : Addr} {fd dP : FuncData} (F : FnP K "_law_long" (top 45) f fd) (N : Nm mg) (d__law_plus : D2 P w K mg base "_law_plus" "one" "other" 2 spPlus fP dP) : FnOk P w K mg base CX0 3 f fd ["widths", "blank"] spLong := by
  refine F.ok scLong (fun vs H Q E h => ?_) (fun cdv A outer s H vs Q E hr h => ?_)
  · obtain ⟨l, xs, vb, ws, b, rfl, _⟩ := h
    rfl
  · obtain ⟨l, xs, vb, ws, b, rfl, hl, hn, hx, hf, hb, k⟩ := h
    refine ⟨_, PSs.nox (pss_cons (ps_set (i := 2) scLong.nd rfl (Or.inl rfl) pe_int)
  (pss_cons (ps_for PassesOwn.never rfl (pi_enum (by rfl) N.enu (pa_cons (pv 0) pa_nil))
    (pg_tup rfl (pgs_cons (pg_name (i := 3) scLong.nd rfl (Or.inl rfl)) (pgs_cons (pg_name (i := 4) scLong.nd rfl (Or.inl rfl)) pgs_nil)))
    (pss_one (ps_set (i := 2) scLong.nd rfl (Or.inl rfl) (pe_call d__law_plus.G (hr.mono (by decide)) (by rfl) d__law_plus.g d__law_plus.kp d__law_plus.b .nil pass0 (pa_cons (pv 2) (pa_cons (pe_ifExp (pt_cmpR op_eq (pv 3) pe_int (nomark _)) (pv 4) (pe_call d__law_plus.G (hr.mono (by decide)) (by rfl) d__law_plus.g d__law_plus.kp d__law_plus.b .nil pass0 (pa_cons (pv 1) (pa_cons (pv 4) pa_nil)))) pa_nil))))))
  (pss_one (ps_ret (pv 2))))), ?_⟩
    have e0 : (fun j => ws (0 + j)) = ws := funext fun j => by rw [Nat.zero_add]
    refine ⟨_, rfl, l, _, rfl, SqL.of hl, for_enum (K := K) (a := l) (xs := xs) (fun i σ H' => Same H H' ∧ ∃ u v v2, NumAt H' u (lo b ws i) ∧ σ = [some (.ref l), some vb, some u, v, v2]) ⟨Same.refl H, _, _, _, numInt 0, rfl⟩ (fun i σ H' _ h => SqL.of (h.1 _ _ hl)) ?_ ?_⟩
    · rintro i x T2 σ H2 hi ⟨s2, u, v, v2, hu, rfl⟩ nT
      have hi' := (List.getElem?_eq_some_iff.mp hi).1
      refine ⟨T2, _, rfl, SqT.of upd_same, rfl, _, _, rfl, _, _, rfl, rfl, ?_⟩
      have s3 := s2.trans (same_upd (o := .tup [.int (i : Nat), x]) nT)
      have hx := (hx i x hi).same s3
      have hu := hu.same (same_upd (o := .tup [.int (i : Nat), x]) nT)
      obtain ⟨l1, l2, _⟩ := hf.lo (n := i) (by omega) 0
      rw [e0] at l1 l2
      refine ⟨_, rfl, _, rfl, rfl, _, rfl, ite2 (fun c => ?_) (fun c => ?_)⟩
      · have c' : i = 0 := by
          have c : V.int (i : Nat) = V.int 0 := of_decide_eq_true c
          injection c with c
          omega
        subst c'
        exact ⟨_, rfl, spPlus_q hu hx l1 (fr1 (hf.1 0)) fun H5 u5 s5 e5 => ⟨s3.trans s5, _, _, _, e5, rfl⟩⟩
      · have c' : i ≠ 0 := fun z => by
          subst z
          exact c (decide_eq_true rfl)
        refine ⟨_, rfl, _, rfl, spPlus_q (hb.same s3) hx (fr1 hf.2) (fr1 (hf.1 i)) fun H4 u4 s4 e4 => ?_⟩
        refine spPlus_q (hu.same s4) e4 l1 (frL (n := 1) ((hf.2.add D0p (hf.1 i)).mono (by decide)) (by decide)) fun H5 u5 s5 e5 => ⟨(s3.trans s4).trans s5, _, _, _, ?_, rfl⟩
        show NumAt H5 u5 (lo b ws i + (if i = 0 then ws 0 else b + ws i))
        rw [if_neg c']
        exact e5
    · rintro σ H2 ⟨s2, u, v, v2, hu, rfl⟩
      exact ⟨_, rfl, k _ _ s2 hu⟩
def spLines : Sp := fun vs H Q _ => ∃ (l : Addr) (xs : List V) (vb vr : V) (ws : Nat → Rat) (b room : Rat), vs = [.ref l, vb, vr] ∧ H l = some (.lst xs) ∧ xs.length ≤ 20 ∧ Nums H xs ws ∧ FrW ws b ∧ NumAt H vb b ∧ NumAt H vr room ∧ Len room ∧
  ∀ H' q ts, Same H H' → H' q = some (.lst (ts.map V.ref)) → Tups H' ts (lns room b ws xs.length) → Q (.ref q) H'
theorem scLns : FnScope ["widths", "blank", "room", "found", "first", "behind"] ["widths", "blank", "room"] (defScope (top 46)) := ⟨rfl, rfl, rfl, by decide +kernel, rfl, by decide +kernel, by decide +kernel⟩
/-- the lines found after j turns -/
def fnd (room b : Rat) (ws : Nat → Rat) (n j : Nat) : List (Nat × Nat) := if j < n ∨ n = 0 then prs (lp room b ws j).1 (lp room b ws j).2 else lns room b ws n
theorem tups_snoc {H : Hp} {ts : List Addr} {l : List (Nat × Nat)} {T : Addr} {c e : Nat} (h : Tups H ts l) (hT : H T = some (.tup [.int (c : Int), .int (e : Int)])) : Tups H (ts ++ [T]) (l ++ [(c, e)]) := by
  refine ⟨by rw [List.length_append, List.length_append, h.1]; rfl, fun i t ei => ?_⟩
  by_cases hi : i < ts.length
  · rw [List.getElem?_append_left hi] at ei
    obtain ⟨p, e1, e2⟩ := h.2 i t ei
    exact ⟨p, by rw [List.getElem?_append_left (by rw [← h.1]; exact hi)]; exact e1, e2⟩
  · have hi2 := (List.getElem?_eq_some_iff.mp ei).1
    rw [List.length_append, List.length_singleton] at hi2
    have : i = ts.length := by omega
    subst this
    rw [List.getElem?_append_right (Nat.le_refl _), Nat.sub_self] at ei
    cases ei
    exact ⟨(c, e), by rw [h.1, List.getElem?_append_right (Nat.le_refl _), Nat.sub_self]; rfl, hT⟩
theorem Tups.updl {H : Hp} {p : Addr} {xs : List V} {o : HO} {ts : List Addr} {l : List (Nat × Nat)} (h : Tups H ts l) (hp : H p = some (.lst xs)) : Tups (upd H p o) ts l := ⟨h.1, fun i t e => by
  obtain ⟨q, e1, e2⟩ := h.2 i t e
  refine ⟨q, e1, ?_⟩
  rw [upd_ne (fun z => by subst z; rw [hp] at e2; cases e2)]
  exact e2⟩
theorem fnd_len (room b : Rat) (ws : Nat → Rat) {n j : Nat} (hj : j ≤ n) : (fnd room b ws n j).length ≤ n := by
  unfold fnd
  split
  · rw [prs_len]
    exact Nat.le_trans (lp_le room b ws j).2 hj
  · rw [lns_len]
    exact fst_len _ _ _ _
theorem ok_lns {f fL fG : Addr} {fd dL dG : FuncData} (F : FnP K "_law_lines" (top 46) f fd) (N : Nm mg) (d__law_less : D2 P w K mg base "_law_less" "one" "other" 2 spLt fL dL) (d__law_long : D2 P w K mg base "_law_long" "widths" "blank" 3 spLong fG dG) :
    FnOk P w K mg base CX0 4 f fd ["widths", "blank", "room"] spLines := by
  refine F.ok scLns (fun vs H Q E h => ?_) (fun cdv A outer s H vs Q E hr h => ?_)
  · obtain ⟨l, xs, vb, vr, ws, b, room, rfl, _⟩ := h
    rfl
  · obtain ⟨l, xs, vb, vr, ws, b, room, rfl, hl, hn, hx, hf, hb, hrm, hL, k⟩ := h
    refine ⟨_, PSs.nox (pss_cons (ps_par (i := 3) (j := 4) rfl scLns.nd rfl rfl (by decide) (by rfl) (by rfl) (pa_cons (pe_lst pa_nil) (pa_cons pe_int pa_nil)) (by rfl))
  (pss_cons (ps_for PassesOwn.never rfl (pi_range2 rfl N.rng (pa_cons pe_int (pa_cons (pe_op op_add (pe_callB call_len_seq (by rfl) N.len PySem.boot_len (pa_cons (pv 0) pa_nil)) pe_int) pa_nil)))
    (pg_name (i := 5) scLns.nd rfl (Or.inl rfl))
    (pss_one (ps_if (PW.pt (pw_or (pt_cmpR op_eq (pv 5) (pe_callB call_len_seq (by rfl) N.len PySem.boot_len (pa_cons (pv 0) pa_nil)) (nomark _)) (pw_or1 (pt_val (pe_call d__law_less.G (hr.mono (by decide)) (by rfl) d__law_less.g d__law_less.kp d__law_less.b .nil pass0 (pa_cons (pv 2) (pa_cons (pe_call d__law_long.G (hr.mono (by decide)) (by rfl) d__law_long.g d__law_long.kp d__law_long.b .nil pass0 (pa_cons (pe_slice sl_list (pv 0) (po_some (pv 4)) (po_some (pe_op op_add (pv 5) pe_int))) (pa_cons (pv 1) pa_nil))) pa_nil)))))))
    (pss_cons (ps_expr (pe_bm PySem.F.plainAttrs_list PySem.F.slot_list_append PySem.F.type_list_append mt_append (pv 3) (pa_cons (pe_tup (pa_cons (pv 4) (pa_cons (pv 5) pa_nil))) pa_nil)))
  (pss_one (ps_set (i := 4) scLns.nd rfl (Or.inl rfl) (pv 5))))
    pss_nil)))
  (pss_one (ps_ret (pv 3))))), ?_⟩
    refine ⟨(by show 0 ≤ sizeLine; decide), fun p np => ⟨_, _, rfl, ?_⟩⟩
    have s1 := same_upd (o := .lst []) np
    refine ⟨_, rfl, l, _, rfl, .inl (SqL.of (s1 _ _ hl)), _, _, rfl, rfl, 1, (xs.length : Int) + 1, rfl, ⟨by decide, by decide, by omega, by omega⟩, ?_⟩
    have en : ((xs.length : Int) + 1 - 1).toNat = xs.length := by omega
    rw [en]
    refine for_range (lo := 1) (n := xs.length) (fun j σ H' => Same H H' ∧ ∃ ts u v5, H' p = some (.lst (ts.map V.ref)) ∧ Tups H' ts (fnd room b ws xs.length j) ∧ (j < xs.length → u = V.int ((lp room b ws j).2 : Nat)) ∧ σ = [some (.ref l), some vb, some vr, some (.ref p), some u, v5])
      ⟨s1, [], _, _, upd_same, ?_, fun _ => rfl, rfl⟩ ?_ ?_
    · have e : fnd room b ws xs.length 0 = [] := by
        unfold fnd
        split
        · rfl
        · omega
      rw [e]
      exact ⟨rfl, fun i t e => nomatch e⟩
    · rintro j σ H2 hj ⟨s2, ts, u, v5, hp, hT, hu, rfl⟩
      have hu := hu hj
      subst hu
      have hc := (lp_le room b ws j).1
      have hl2 := s2 _ _ hl
      have e0 : fnd room b ws xs.length j = prs (lp room b ws j).1 (lp room b ws j).2 := if_pos (.inl hj)
      have hlen : (ts.map V.ref).length < sizeLine := by
        rw [List.length_map, hT.1]
        exact Nat.lt_of_le_of_lt (Nat.le_trans (fnd_len room b ws (Nat.le_of_lt hj)) hn) (by decide)
      -- what an append does
      have app : ∀ (H3 : Hp) (T : Addr), Same H H3 → Same H2 H3 → H3 T = none → (j + 1 < xs.length → lp room b ws (j + 1) = ((lp room b ws j).1 ++ [(lp room b ws j).2], j + 1)) → 
          (H3 p = some (.lst (ts.map V.ref))) ∧ Same H (upd (upd H3 T (.tup [.int ((lp room b ws j).2 : Nat), .int (1 + (j : Nat))])) p (.lst (ts.map V.ref ++ [.ref T]))) ∧ Tups (upd (upd H3 T (.tup [.int ((lp room b ws j).2 : Nat), .int (1 + (j : Nat))])) p (.lst (ts.map V.ref ++ [.ref T]))) (ts ++ [T]) (fnd room b ws xs.length (j + 1)) := by
        intro H3 T s3 s23 nT hlp
        have hp3 := s23 _ _ hp
        have sT := same_upd (o := .tup [.int ((lp room b ws j).2 : Nat), .int (1 + (j : Nat))]) nT
        refine ⟨hp3, same_upd' np (s3.trans sT), ?_⟩
        have e1 : fnd room b ws xs.length (j + 1) = prs (lp room b ws j).1 (lp room b ws j).2 ++ [((lp room b ws j).2, j + 1)] := by
          unfold fnd
          by_cases h2 : j + 1 < xs.length
          · rw [if_pos (.inl h2), hlp h2, prs_snoc]
          · have e2 : xs.length = j + 1 := by omega
            rw [if_neg (by omega), e2]
            show prs ((lp room b ws j).1 ++ [(lp room b ws j).2]) (j + 1) = _
            rw [prs_snoc]
        rw [e1]
        refine tups_snoc (((by rw [e0] at hT; exact hT : Tups H2 ts _).same (s23.trans sT)).updl (sT _ _ hp3)) ?_
        rw [upd_ne (fun z : T = p => by rw [z, hp3] at nT; cases nT), upd_same]
        rw [show (1 : Int) + (j : Nat) = ((j + 1 : Nat) : Int) by omega]
      have go : ∀ (H3 : Hp) (T : Addr) (v5 : Option V), Same H H3 → Same H2 H3 → H3 T = none → (j + 1 < xs.length → lp room b ws (j + 1) = ((lp room b ws j).1 ++ [(lp room b ws j).2], j + 1)) →
          Same H (upd (upd H3 T (.tup [.int ((lp room b ws j).2 : Nat), .int (1 + (j : Nat))])) p (.lst (ts.map V.ref ++ [.ref T]))) ∧ ∃ ts' u v5', upd (upd H3 T (.tup [.int ((lp room b ws j).2 : Nat), .int (1 + (j : Nat))])) p (.lst (ts.map V.ref ++ [.ref T])) p = some (.lst (ts'.map V.ref)) ∧ Tups (upd (upd H3 T (.tup [.int ((lp room b ws j).2 : Nat), .int (1 + (j : Nat))])) p (.lst (ts.map V.ref ++ [.ref T]))) ts' (fnd room b ws xs.length (j + 1)) ∧ (j + 1 < xs.length → u = V.int ((lp room b ws (j + 1)).2 : Nat)) ∧
            [some (.ref l), some vb, some vr, some (.ref p), some (V.int (1 + (j : Nat))), some (V.int (1 + (j : Nat)))] = [some (.ref l), some vb, some vr, some (.ref p), some u, v5'] := by
        intro H3 T v5 s3 s23 nT hlp
        obtain ⟨a1, a2, a3⟩ := app H3 T s3 s23 nT hlp
        refine ⟨a2, ts ++ [T], _, _, by rw [upd_same, List.map_append]; rfl, a3, fun h2 => ?_, rfl⟩
        rw [hlp h2]
        show V.int (1 + (j : Nat)) = V.int ((j + 1 : Nat) : Int)
        rw [show (1 : Int) + (j : Nat) = ((j + 1 : Nat) : Int) by omega]
      refine ⟨_, rfl, _, rfl, l, _, rfl, .inl (SqL.of hl2), rfl, _, rfl, ite2 (fun c => ?_) (fun c => ?_)⟩
      · have c : V.int (1 + (j : Nat)) = V.int (xs.length : Nat) := of_decide_eq_true c
        injection c with c
        refine iteT ?_
        refine ⟨_, rfl, .inl ⟨rfl, _, SqL.of hp⟩, _, rfl, _, rfl, (by show 2 ≤ sizeLine; decide), fun T nT => ?_⟩
        obtain ⟨a1, _, _⟩ := app H2 T s2 (Same.refl _) nT (fun h => by omega)
        have hp' := same_upd (o := .tup [.int ((lp room b ws j).2 : Nat), .int (1 + (j : Nat))]) nT _ _ hp
        exact ⟨p, _, _, rfl, rfl, hp', hlen, _, rfl, go H2 T v5 s2 (Same.refl _) nT (fun h => by omega)⟩
      · have c' : j + 1 < xs.length := by
          have : j + 1 ≠ xs.length := fun z => c (decide_eq_true (show V.int (1 + (j : Nat)) = V.int (xs.length : Nat) by rw [← z, show (1 : Int) + (j : Nat) = ((j + 1 : Nat) : Int) by omega]))
          omega
        have eb : (1 : Int) + (j : Nat) + 1 = ((j + 2 : Nat) : Int) := by omega
        have ecut : cutV xs (some ((lp room b ws j).2 : Nat)) (some (1 + (j : Nat) + 1)) = cutV xs (some ((lp room b ws j).2 : Nat)) (some ((j + 2 : Nat) : Int)) := by rw [eb]
        have ell : (cutV xs (some ((lp room b ws j).2 : Nat)) (some (1 + (j : Nat) + 1))).length = j + 2 - (lp room b ws j).2 := by
          rw [ecut, cut_len]
          omega
        refine ⟨_, rfl, _, rfl, _, rfl, _, rfl, _, rfl, _, _, rfl, rfl, _, rfl, l, _, rfl, SqL.of hl2, fun z nz => ?_⟩
        have sz := same_upd (o := .lst (cutV xs (some ((lp room b ws j).2 : Nat)) (some (1 + (j : Nat) + 1)))) nz
        refine ⟨_, rfl, z, _, vb, fun i => ws ((lp room b ws j).2 + i), b, rfl, upd_same, by rw [ell]; omega, fun i v e => ?_, ⟨fun i => hf.1 _, hf.2⟩, (hb.same s2).same sz, fun H4 u4 s4 e4 => ?_⟩
        · rw [ecut] at e
          exact ((hx _ v (cut_get e).2.1).same s2).same sz
        · rw [ell] at e4
          have s14 := (s2.trans sz).trans s4
          have s24 := sz.trans s4
          have hp4 := s24 _ _ hp
          refine spLt_q (hrm.same s14) e4 hL (hf.lo (n := j + 2 - (lp room b ws j).2) (by omega) (lp room b ws j).2).1 fun H5 s5 => ⟨_, rfl, ite2 (fun d => ?_) (fun d => ?_)⟩
          · have d := of_decide_eq_true d
            have hlp : lp room b ws (j + 1) = ((lp room b ws j).1 ++ [(lp room b ws j).2], j + 1) := by
              show (if _ then _ else _) = _
              rw [if_pos d]
            refine ⟨_, rfl, .inl ⟨rfl, _, SqL.of (s5 _ _ hp4)⟩, _, rfl, _, rfl, (by show 2 ≤ sizeLine; decide), fun T nT => ?_⟩
            have hp' := same_upd (o := .tup [.int ((lp room b ws j).2 : Nat), .int (1 + (j : Nat))]) nT _ _ (s5 _ _ hp4)
            exact ⟨p, _, _, rfl, rfl, hp', hlen, _, rfl, go H5 T v5 (s14.trans s5) (s24.trans s5) nT (fun _ => hlp)⟩
          · have hlp : lp room b ws (j + 1) = lp room b ws j := by
              show (if _ then _ else _) = _
              rw [if_neg (fun z => d (decide_eq_true z))]
            refine ⟨s14.trans s5, ts, _, _, s5 _ _ hp4, ?_, fun _ => by rw [hlp], rfl⟩
            have e1 : fnd room b ws xs.length (j + 1) = fnd room b ws xs.length j := by
              rw [e0]
              unfold fnd
              rw [if_pos (.inl c'), hlp]
            rw [e1]
            exact hT.same (s24.trans s5)
    · rintro σ H2 ⟨s2, ts, u, v5, hp, hT, hu, rfl⟩
      refine ⟨_, rfl, k _ _ ts s2 hp ?_⟩
      have e : fnd room b ws xs.length xs.length = lns room b ws xs.length := by
        unfold fnd
        by_cases h0 : xs.length = 0
        · rw [h0, if_pos (.inr rfl)]
          rfl
        · rw [if_neg (by omega)]
      rw [e] at hT
      exact hT
end
end K1

set_option Elab.async false
set_option linter.all false
set_option maxRecDepth 100000
set_option maxHeartbeats 4000000
namespace K1
open PySem PySem.Spec PyProof.Rows L2
/-! ### what stays when a list changes -/
theorem NumAt.kl {p : Addr} {xs : List V} {H H' : Hp} {v : V} {q : Rat} (h : NumAt H v q) (k : Keep p H H') (hp : H p = some (.lst xs)) : NumAt H' v q := h.keep k fun ys e => by
  rw [hp] at e
  cases e
theorem Nums.kl {p : Addr} {ys : List V} {H H' : Hp} {xs : List V} {w : Nat → Rat} (h : Nums H xs w) (k : Keep p H H') (hp : H p = some (.lst ys)) : Nums H' xs w := fun i v e => (h i v e).kl k hp
theorem WordsAt.kl {p : Addr} {ys : List V} {CW : Addr} {H H' : Hp} {a t : Addr} {xs : List V} {vb vl vg : V} {w : Nat → Rat} {b l g : Rat} (h : WordsAt CW H a t xs vb vl vg w b l g) (k : Keep p H H') (hp : H p = some (.lst ys)) : WordsAt CW H' a t xs vb vl vg w b l g := by
  obtain ⟨⟨dx, h1⟩, h2, h3, h4, h5, h6⟩ := h
  exact ⟨⟨dx, k _ _ (fun z => by rw [z, hp] at h1; cases h1) h1⟩, k _ _ (fun z => by rw [z, hp] at h2; cases h2) h2, h3.kl k hp, h4.kl k hp, h5.kl k hp, h6.kl k hp⟩
theorem same2 {H : Hp} {x dx : Addr} {o1 o2 : HO} (nx : H x = none) (nd : H dx = none) (ne : dx ≠ x) : Same H (upd (upd H dx o1) x o2) := (same_upd nd).trans (same_upd (by rw [upd_ne (Ne.symm ne)]; exact nx))
/-- what the law holds: the well, the list of widths, the words -/
structure Bu (CW a D W t : Addr) (xs : List V) (vb vl vg : V) (ws : Nat → Rat) (b li g : Rat) (m : Int) (H : Hp) : Prop where
  well : Well H a m
  nD : D ≠ a
  D : H D = some (.lst xs)
  nums : Nums H xs ws
  nb : NumAt H vb b
  nl : NumAt H vl li
  ng : NumAt H vg g
  W : WordsAt CW H W t xs vb vl vg ws b li g
section
variable {CW a D W t : Addr} {xs : List V} {vb vl vg : V} {ws : Nat → Rat} {b li g : Rat} {m m' : Int} {H H' : Hp}
theorem Bu.same (B : Bu CW a D W t xs vb vl vg ws b li g m H) (s : Same H H') : Bu CW a D W t xs vb vl vg ws b li g m H' := ⟨B.well.same s, B.nD, s _ _ B.D, B.nums.same s, B.nb.same s, B.nl.same s, B.ng.same s, B.W.same s⟩
theorem Bu.draw (B : Bu CW a D W t xs vb vl vg ws b li g m H) (k : Keep a H H') (w : Well H' a m') : Bu CW a D W t xs vb vl vg ws b li g m' H' := by
  obtain ⟨w0, w1, w2, e, _⟩ := id B.well
  exact ⟨w, B.nD, k _ _ B.nD B.D, B.nums.kl k e, B.nb.kl k e, B.nl.kl k e, B.ng.kl k e, B.W.kl k e⟩
theorem Bu.list (B : Bu CW a D W t xs vb vl vg ws b li g m H) {p : Addr} {ys : List V} (k : Keep p H H') (hp : H p = some (.lst ys)) (na : a ≠ p) (nD : D ≠ p) : Bu CW a D W t xs vb vl vg ws b li g m H' := by
  obtain ⟨w0, w1, w2, e, r⟩ := id B.well
  exact ⟨⟨w0, w1, w2, k _ _ na e, r⟩, B.nD, k _ _ nD B.D, B.nums.kl k hp, B.nb.kl k hp, B.nl.kl k hp, B.ng.kl k hp, B.W.kl k hp⟩
end
/-- the rooms -/
def Rms (H : Hp) (R : Addr) (rs : List V) : Prop := H R = some (.lst rs) ∧ ∀ v ∈ rs, ∃ q, NumAt H v q ∧ Len q
theorem Rms.same {H H' : Hp} {R : Addr} {rs : List V} (h : Rms H R rs) (s : Same H H') : Rms H' R rs := ⟨s _ _ h.1, fun v hv => by
  obtain ⟨q, n, l⟩ := h.2 v hv
  exact ⟨q, n.same s, l⟩⟩
theorem Rms.kl {H H' : Hp} {R p : Addr} {rs ys : List V} (h : Rms H R rs) (k : Keep p H H') (hp : H p = some (.lst ys)) (n : R ≠ p) : Rms H' R rs := ⟨k _ _ n h.1, fun v hv => by
  obtain ⟨q, z, l⟩ := h.2 v hv
  exact ⟨q, z.kl k hp, l⟩⟩
theorem Rms.add {H : Hp} {R : Addr} {rs zs : List V} (h : Rms H R rs) (hz : ∀ v ∈ zs, ∃ q, NumAt H v q ∧ Len q) : Rms (upd H R (.lst (rs ++ zs))) R (rs ++ zs) := ⟨upd_same, fun v hv => by
  have : ∃ q, NumAt H v q ∧ Len q := by
    rcases List.mem_append.mp hv with hv | hv
    · exact h.2 v hv
    · exact hz v hv
  obtain ⟨q, n, l⟩ := this
  exact ⟨q, n.updl h.1, l⟩⟩
/-! ### the rooms' numbers -/
def c8 : Nat := 100000007
theorem len_c8 : Len (mkRat 1 c8) := by
  refine ⟨by decide +kernel, by decide +kernel, by decide +kernel, by decide +kernel⟩
theorem len_more {q : Rat} {n : Nat} (h : Fr D0 (n * (B0 + B0)) q) (hn : n ≤ 20) : Len (q + mkRat 1 c8) := by
  have h1 := (h.mono (Nat.mul_le_mul_right _ hn)).scale (c := c8) (by decide)
  have h2 : Fr (D0 * c8) D0 (mkRat 1 c8) := ⟨D0, Nat.le_refl _, by decide +kernel⟩
  exact (Fr.add (by decide) h1 h2).len (by decide) (by decide) (by decide)
def c9 : Nat := 1000000000
theorem tiny {q : Rat} {B : Nat} (h : Fr D0 B q) : Fr (D0 * c9) B (mkRat q.num (q.den * c9)) := by
  obtain ⟨k, hk, e⟩ := h
  refine ⟨k, hk, ?_⟩
  have e1 : mkRat q.num q.den = mkRat (k : Int) D0 := by
    rw [Rat.mkRat_self]
    exact e
  have hd := q.den_pos
  have e2 := (Rat.mkRat_eq_iff (by omega) (by decide)).mp e1
  refine (Rat.mkRat_eq_iff (Nat.mul_ne_zero (by omega) (by decide)) (by decide)).mpr ?_
  rw [Int.natCast_mul, Int.natCast_mul, ← Int.mul_assoc, ← Int.mul_assoc, e2]
theorem sub_def' (q u : Rat) : mkRat (q.num * (u.den : Int) + -u.num * (q.den : Int)) (q.den * u.den) = q + -u := by
  rw [Rat.add_def']
  rfl
theorem less {q : Rat} {n : Nat} (h : Fr D0 (n * (B0 + B0)) q) (hn : n ≤ 20) : Len (mkRat q.num (q.den * c9)) ∧ Len (mkRat (q.num * ((mkRat q.num (q.den * c9)).den : Int) + -(mkRat q.num (q.den * c9)).num * (q.den : Int)) (q.den * (mkRat q.num (q.den * c9)).den)) := by
  have h := h.mono (Nat.mul_le_mul_right _ hn)
  have ht := tiny h
  refine ⟨ht.len (by decide) (by decide) (by decide), ?_⟩
  rw [sub_def']
  obtain ⟨k, hk, ek⟩ := h
  have eu : mkRat q.num (q.den * c9) = mkRat (k : Int) (D0 * c9) := by
    have e1 : mkRat q.num q.den = mkRat (k : Int) D0 := by
      rw [Rat.mkRat_self]
      exact ek
    have hd := q.den_pos
    have e2 := (Rat.mkRat_eq_iff (by omega) (by decide)).mp e1
    refine (Rat.mkRat_eq_iff (Nat.mul_ne_zero (by omega) (by decide)) (by decide)).mpr ?_
    rw [Int.natCast_mul, Int.natCast_mul, ← Int.mul_assoc, ← Int.mul_assoc, e2]
  have eq : q = mkRat ((k * c9 : Nat) : Int) (D0 * c9) := by
    rw [Int.natCast_mul, Rat.mkRat_mul_right (by decide)]
    exact ek
  have : Fr (D0 * c9) (20 * (B0 + B0) * c9) (q + -(mkRat q.num (q.den * c9))) := by
    refine ⟨k * c9 - k, Nat.le_trans (Nat.sub_le _ _) (Nat.mul_le_mul_right _ hk), ?_⟩
    rw [eu, Rat.neg_mkRat]
    conv => lhs; rw [eq]
    rw [Rat.mkRat_add_mkRat _ _ (by decide) (by decide), ← Int.add_mul, Rat.mkRat_mul_right (by decide)]
    have : k ≤ k * c9 := Nat.le_mul_of_pos_right _ (by decide)
    congr 1
    omega
  exact this.len (by decide) (by decide) (by decide)
/-! ### four values compared -/
def d4 (ws : Nat → Rat) (n : Nat) (b li g : Rat) : PyData := .tuple [.tuple (dats ws 0 n), dat b, dat li, dat g]
theorem ok_d4 (ws : Nat → Rat) (n : Nat) (b li g : Rat) : Ok 3 (d4 ws n b li g) := by
  refine ok_tup (m := 2) fun d hd => ?_
  simp only [List.mem_cons, List.not_mem_nil, or_false] at hd
  rcases hd with rfl | rfl | rfl | rfl
  · exact ok_ws _ _
  · exact (ok_dat _).mono (by decide)
  · exact (ok_dat _).mono (by decide)
  · exact (ok_dat _).mono (by decide)
theorem dp_d4 {K : PySem.W.Frag} {H : Hp} {p t : Addr} {xs : List V} {vb vl vg : V} {ws : Nat → Rat} {b li g : Rat} (hp : H p = some (.tup [.ref t, vb, vl, vg])) (ht : H t = some (.tup xs)) (hx : Nums H xs ws) (hb : NumAt H vb b) (hl : NumAt H vl li) (hg : NumAt H vg g) : Dp K H (.ref p) (d4 ws xs.length b li g) :=
  .tup (SqT.of hp) (.cons (.tup (SqT.of ht) hx.dp) (.cons hb.dp (.cons hl.dp (.cons hg.dp .nil))))
def d3 (b li g : Rat) : PyData := .tuple [dat b, dat li, dat g]
theorem ok_d3 (b li g : Rat) : Ok 2 (d3 b li g) := by
  refine ok_tup (m := 1) fun d hd => ?_
  simp only [List.mem_cons, List.not_mem_nil, or_false] at hd
  rcases hd with rfl | rfl | rfl
  · exact ok_dat _
  · exact ok_dat _
  · exact ok_dat _
theorem dp_d3 {K : PySem.W.Frag} {H : Hp} {p : Addr} {vb vl vg : V} {b li g : Rat} (hp : H p = some (.tup [vb, vl, vg])) (hb : NumAt H vb b) (hl : NumAt H vl li) (hg : NumAt H vg g) : Dp K H (.ref p) (d3 b li g) :=
  .tup (SqT.of hp) (.cons hb.dp (.cons hl.dp (.cons hg.dp .nil)))
theorem Ok.no {m : Nat} {d : PyData} {A : Prop} (h : Ok m d) (c : (!PyData.eqv d d) = true) : A := by
  rw [h.eq] at c
  cases c
theorem at_last {xs : List V} (h : xs ≠ []) : ∃ v ∈ xs, atI xs (-1) = some v := by
  have hl : 0 < xs.length := List.length_pos_iff.mpr h
  refine ⟨xs[xs.length - 1], List.getElem_mem _, ?_⟩
  unfold atI ixN
  rw [if_neg (by omega), if_pos (by omega)]
  show xs[((-1 : Int) + (xs.length : Int)).toNat]? = _
  rw [show ((-1 : Int) + (xs.length : Int)).toNat = xs.length - 1 by omega]
  exact List.getElem?_eq_getElem _
end K1

set_option Elab.async false
set_option linter.all false
set_option maxRecDepth 100000
set_option maxHeartbeats 8000000
namespace K1
open PySem PySem.Spec PyProof.Rows L2
section
variable {P : Program} {w : World} {K : PySem.W.Frag} {mg : Str → Option Value} {base : Heap}
structure DM (P : Program) (w : World) (K : PySem.W.Frag) (mg : Str → Option Value) (base : Heap) (x : Str) (ps : List Str) (k : Nat) (sp : Sp) (C f : Addr) (fd : FuncData) : Prop where
  M : Mk K C f
  G : FnOk P w K mg base CX0 k f fd ps sp
  gC : mg x = some (.ref C)
  b : Binds K fd ps []
structure DE (P : Program) (w : World) (K : PySem.W.Frag) (mg : Str → Option Value) (base : Heap) (sp : Sp) (f : Addr) (fd : FuncData) : Prop where
  G : FnOk P w K mg base CX0 1 f fd ["self", "other"] sp
  b : Binds K fd ["self", "other"] []
/-- widths drawn so far, in the list at D -/
def PvW (a D : Addr) (H0 : Hp) (i : Nat) (H : Hp) : Prop := Keep a H0 H ∧ Well H a (1 + 2 * (i : Int)) ∧ ∃ (xs : List V) (ws : Nat → Rat), xs.length = i ∧ H D = some (.lst xs) ∧ Nums H xs ws ∧ ∀ j, Fr D0 B0 (ws j)
theorem PvW.next {a D : Addr} {H0 H H' : Hp} {i : Nat} {xs : List V} {ws : Nat → Rat} {v : V} {q : Rat} (nD : D ≠ a) (nD0 : H0 D = none) (k0 : Keep a H0 H) (hl : xs.length = i) (hD : H D = some (.lst xs)) (hx : Nums H xs ws) (hf : ∀ j, Fr D0 B0 (ws j)) (hw : Well H a (1 + 2 * (i : Int)))
    (k : Keep a H H') (hw' : Well H' a (1 + 2 * (i : Int) + 2)) (nv : NumAt H' v q) (fv : Fr D0 B0 q) : PvW a D H0 (i + 1) (upd H' D (.lst (xs ++ [v]))) := by
  obtain ⟨w0, w1, w2, e, _⟩ := hw
  have hD' := k _ _ nD hD
  refine ⟨fun b o n eb => ?_, ?_, xs ++ [v], fun j => if j < i then ws j else q, by rw [List.length_append, hl]; rfl, upd_same, fun j u ej => ?_, fun j => ?_⟩
  · rw [upd_ne (ne_of_none eb nD0)]
    exact k _ _ n (k0 _ _ n eb)
  · obtain ⟨u0, u1, u2, e', r⟩ := hw'
    refine ⟨u0, u1, u2, by rw [upd_ne (Ne.symm nD)]; exact e', ?_⟩
    rw [show (1 : Int) + 2 * ((i + 1 : Nat) : Int) = 1 + 2 * (i : Int) + 2 by omega]
    exact r
  · by_cases hj : j < i
    · rw [List.getElem?_append_left (by omega)] at ej
      show NumAt _ u (if j < i then ws j else q)
      rw [if_pos hj]
      exact ((hx j u ej).kl k e).updl hD'
    · have hj2 := (List.getElem?_eq_some_iff.mp ej).1
      rw [List.length_append, List.length_singleton] at hj2
      have : j = xs.length := by omega
      subst this
      rw [List.getElem?_append_right (Nat.le_refl _), Nat.sub_self] at ej
      cases ej
      show NumAt _ v (if xs.length < i then _ else q)
      rw [if_neg hj]
      exact nv.updl hD'
  · show Fr D0 B0 (if j < i then ws j else q)
    split
    · exact hf j
    · exact fv
def spRight : Sp := fun vs H Q _ => ∃ a : Addr, vs = [.ref a] ∧ Well H a 0 ∧ ∀ H', Keep a H H' → Q (.bl true) H'
theorem scR : FnScope ["well", "widths", "turn", "blank", "line", "base", "handed", "words", "widest", "width", "rooms", "first", "just", "room", "due", "block"] ["well"] (defScope (top 48)) := ⟨rfl, rfl, rfl, by decide +kernel, rfl, by decide +kernel, by decide +kernel⟩
theorem ok_right {CW CB fI fE gI gE f f1 f2 f3 f4 f5 f6 f7 f8 f9 g1 g2 g3 g4 g5 : Addr} {fd dI dE eI eE h1 h2 h3 h4 h5 h6 h7 h8 h9 i1 i2 i3 i4 i5 : FuncData} (F : FnP K "_law_right" (top 48) f fd) (N : Nm mg) (T : T2 K mg CW CB fI fE gI gE)
    (d__law_draw : D2 P w K mg base "_law_draw" "well" "many" 1 spDraw f1 h1) (d__law_length : D1 P w K mg base "_law_length" "well" 2 spLength f2 h2) (d__law_long : D2 P w K mg base "_law_long" "widths" "blank" 3 spLong f3 h3) (d__law_lines : D3 P w K mg base "_law_lines" "widths" "blank" "room" 4 spLines f4 h4)
    (d__law_less : D2 P w K mg base "_law_less" "one" "other" 2 spLt f5 h5) (d__law_plus : D2 P w K mg base "_law_plus" "one" "other" 2 spPlus f6 h6) (d__law_minus : D2 P w K mg base "_law_minus" "one" "other" 3 spMinus f7 h7) (d__law_number : D2 P w K mg base "_law_number" "top" "bottom" 1 spMkN f8 h8)
    (d__law_pair : D1 P w K mg base "_law_pair" "number" 1 spPair f9 h9) (d__law_times : D2 P w K mg base "_law_times" "number" "many" 2 spLTimes g1 i1)
    (d_least_width : D1 P w K mg base "least_width" "content" 3 (spLW CW CB fun ws _ n => mx ws n) g2 i2) (d_most_width : D1 P w K mg base "most_width" "content" 3 (spLW CW CB fun ws b n => lo b ws n) g3 i3) (d_lines_in : D2 P w K mg base "lines_in" "content" "width" 5 (spLs CW) g4 i4) (d_height_in : D2 P w K mg base "height_in" "content" "width" 5 (spHt CW CB) g5 i5)
    (d_Words : DM P w K mg base "Words" ["self", "widths", "blank", "line", "base"] 5 (spWI CW) CW fI dI) (d_Block : DM P w K mg base "Block" ["self", "width", "height"] 5 (spBI CB) CB gI eI) (eW : DE P w K mg base (spWE CW CB) fE dE) (eB : DE P w K mg base (spBE CB) gE eE) :
    FnOk P w K mg base CX0 7 f fd ["well"] spRight := by
  refine F.ok scR (fun vs H Q E h => ?_) (fun cdv A outer s H vs Q E hr h => ?_)
  · obtain ⟨a, rfl, _⟩ := h
    rfl
  · obtain ⟨a, rfl, hw, k⟩ := h
    refine ⟨_, PSs.nox (pss_cons (ps_setLc (i := 1) (own := [("turn", 2)]) (g := gName 2) (tt := tYes) rfl scR.nd rfl rfl (sw_true rfl rfl rfl (by decide +kernel)) (pi_range1 rfl N.rng (pa_cons (pe_call d__law_draw.G (hr.mono (by decide)) (by rfl) d__law_draw.g d__law_draw.kp d__law_draw.b .nil pass0 (pa_cons (pv 0) (pa_cons pe_int pa_nil))) pa_nil)) (blkOk_by (own := [("turn", 2)]) (N := ["well", "widths", "turn", "blank", "line", "base", "handed", "words", "widest", "width", "rooms", "first", "just", "room", "due", "block"]) (sc := defScope (top 48)) (by decide +kernel)) (fun _ _ _ _ _ => (pg_name (i := 2) scR.nd rfl (Or.inl rfl))) (fun _ _ _ _ _ => pts_nil) (fun _ _ _ _ _ => (pe_call d__law_length.G (hr.mono (by decide)) (by rfl) d__law_length.g d__law_length.kp d__law_length.b .nil pass0 (pa_cons (pv 0) pa_nil))))
  (pss_cons (ps_par3 (i := 3) (j := 4) (l := 5) rfl scR.nd rfl rfl rfl (by decide) (by decide) (by decide) (by rfl) (by rfl) (by rfl) (pa_cons (pe_call d__law_length.G (hr.mono (by decide)) (by rfl) d__law_length.g d__law_length.kp d__law_length.b .nil pass0 (pa_cons (pv 0) pa_nil)) (pa_cons (pe_call d__law_length.G (hr.mono (by decide)) (by rfl) d__law_length.g d__law_length.kp d__law_length.b .nil pass0 (pa_cons (pv 0) pa_nil)) (pa_cons (pe_call d__law_length.G (hr.mono (by decide)) (by rfl) d__law_length.g d__law_length.kp d__law_length.b .nil pass0 (pa_cons (pv 0) pa_nil)) pa_nil))) (by rfl))
  (pss_cons (ps_set (i := 6) scR.nd rfl (Or.inl rfl) (pe_callTy call_list_of (by rfl) N.tlst (by decide +kernel) (pa_cons (pv 1) pa_nil)))
  (pss_cons (ps_set (i := 7) scR.nd rfl (Or.inl rfl) (pe_make d_Words.M d_Words.G (hr.mono (by decide)) (by rfl) d_Words.gC d_Words.b .nil pass0 (pa_cons (pv 6) (pa_cons (pv 3) (pa_cons (pv 4) (pa_cons (pv 5) pa_nil))))))
  (pss_cons (ps_expr (pe_bm PySem.F.plainAttrs_list PySem.F.slot_list_append PySem.F.type_list_append mt_append (pv 6) (pa_cons pe_int pa_nil)))
  (pss_cons (ps_if (pt_cmpR (op_neD hr.units) (pe_tup (pa_cons (pe_fld (pv 7) rfl) (pa_cons (pe_fld (pv 7) rfl) (pa_cons (pe_fld (pv 7) rfl) (pa_cons (pe_fld (pv 7) rfl) pa_nil))))) (pe_tup (pa_cons (pe_callTy call_tuple_of (by rfl) N.ttup (by decide +kernel) (pa_cons (pv 1) pa_nil)) (pa_cons (pv 3) (pa_cons (pv 4) (pa_cons (pv 5) pa_nil))))) (nomark _))
    (pss_one (ps_ret pe_bl))
    pss_nil)
  (pss_cons (ps_set (i := 8) scR.nd rfl (Or.inl rfl) pe_int)
  (pss_cons (ps_for PassesOwn.never rfl (pi_list (pv 1))
    (pg_name (i := 9) scR.nd rfl (Or.inl rfl))
    (pss_one (ps_set (i := 8) scR.nd rfl (Or.inl rfl) (pe_ifExp (pt_val (pe_call d__law_less.G (hr.mono (by decide)) (by rfl) d__law_less.g d__law_less.kp d__law_less.b .nil pass0 (pa_cons (pv 8) (pa_cons (pv 9) pa_nil)))) (pv 9) (pv 8)))))
  (pss_cons (ps_if (PW.pt (pw_or (pt_cmpR (op_neD hr.units) (pe_call d_least_width.G (hr.mono (by decide)) (by rfl) d_least_width.g d_least_width.kp d_least_width.b .nil pass0 (pa_cons (pv 7) pa_nil)) (pv 8) (nomark _)) (pw_or1 (pt_cmpR (op_neD hr.units) (pe_call d_most_width.G (hr.mono (by decide)) (by rfl) d_most_width.g d_most_width.kp d_most_width.b .nil pass0 (pa_cons (pv 7) pa_nil)) (pe_call d__law_long.G (hr.mono (by decide)) (by rfl) d__law_long.g d__law_long.kp d__law_long.b .nil pass0 (pa_cons (pv 1) (pa_cons (pv 3) pa_nil))) (nomark _)))))
    (pss_one (ps_ret pe_bl))
    pss_nil)
  (pss_cons (ps_set (i := 10) scR.nd rfl (Or.inl rfl) (pe_lst (pa_cons pe_int (pa_cons pe_int (pa_cons (pe_op op_pow pe_int pe_int) (pa_cons (pe_call d__law_length.G (hr.mono (by decide)) (by rfl) d__law_length.g d__law_length.kp d__law_length.b .nil pass0 (pa_cons (pv 0) pa_nil)) pa_nil))))))
  (pss_cons (ps_for PassesOwn.never rfl (pi_range1 rfl N.rng (pa_cons pe_int pa_nil))
    (pg_name (i := 2) scR.nd rfl (Or.inl rfl))
    (pss_cons (ps_set (i := 11) scR.nd rfl (Or.inl rfl) (pe_call d__law_draw.G (hr.mono (by decide)) (by rfl) d__law_draw.g d__law_draw.kp d__law_draw.b .nil pass0 (pa_cons (pv 0) (pa_cons (pe_op op_add (pe_callB call_len_seq (by rfl) N.len PySem.boot_len (pa_cons (pv 1) pa_nil)) pe_int) pa_nil))))
  (pss_cons (ps_set (i := 12) scR.nd rfl (Or.inl rfl) (pe_call d__law_long.G (hr.mono (by decide)) (by rfl) d__law_long.g d__law_long.kp d__law_long.b .nil pass0 (pa_cons (pe_slice sl_list (pv 1) (po_some (pv 11)) (po_some (pe_op op_add (pe_op op_add (pv 11) pe_int) (pe_call d__law_draw.G (hr.mono (by decide)) (by rfl) d__law_draw.g d__law_draw.kp d__law_draw.b .nil pass0 (pa_cons (pv 0) (pa_cons pe_int pa_nil)))))) (pa_cons (pv 3) pa_nil))))
  (pss_cons (ps_expr (pe_bm PySem.F.plainAttrs_list PySem.F.slot_list_extend PySem.F.type_list_extend mt_extend (pv 10) (pa_cons (pe_lst (pa_cons (pv 12) (pa_cons (pe_call d__law_plus.G (hr.mono (by decide)) (by rfl) d__law_plus.g d__law_plus.kp d__law_plus.b .nil pass0 (pa_cons (pv 12) (pa_cons (pe_tup (pa_cons pe_int (pa_cons (pe_op op_add (pe_op op_pow pe_int pe_int) pe_int) pa_nil))) pa_nil))) pa_nil))) pa_nil)))
  (pss_one (ps_if (pt_val (pe_call d__law_less.G (hr.mono (by decide)) (by rfl) d__law_less.g d__law_less.kp d__law_less.b .nil pass0 (pa_cons pe_int (pa_cons (pv 12) pa_nil))))
    (pss_one (ps_expr (pe_bm PySem.F.plainAttrs_list PySem.F.slot_list_append PySem.F.type_list_append mt_append (pv 10) (pa_cons (pe_call d__law_minus.G (hr.mono (by decide)) (by rfl) d__law_minus.g d__law_minus.kp d__law_minus.b .nil pass0 (pa_cons (pv 12) (pa_cons (pe_call d__law_number.G (hr.mono (by decide)) (by rfl) d__law_number.g d__law_number.kp d__law_number.b .nil pass0 (pa_cons (pe_ix ix_tup (pe_call d__law_pair.G (hr.mono (by decide)) (by rfl) d__law_pair.g d__law_pair.kp d__law_pair.b .nil pass0 (pa_cons (pv 12) pa_nil)) pe_int (fun _ _ => rfl)) (pa_cons (pe_op op_mulW (pe_ix ix_tup (pe_call d__law_pair.G (hr.mono (by decide)) (by rfl) d__law_pair.g d__law_pair.kp d__law_pair.b .nil pass0 (pa_cons (pv 12) pa_nil)) pe_int (fun _ _ => rfl)) (pe_op op_pow pe_int pe_int)) pa_nil))) pa_nil))) pa_nil))))
    pss_nil))))))
  (pss_cons (ps_for PassesOwn.never rfl (pi_list (pv 10))
    (pg_name (i := 13) scR.nd rfl (Or.inl rfl))
    (pss_cons (ps_set (i := 14) scR.nd rfl (Or.inl rfl) (pe_call d__law_lines.G (hr.mono (by decide)) (by rfl) d__law_lines.g d__law_lines.kp d__law_lines.b .nil pass0 (pa_cons (pv 1) (pa_cons (pv 3) (pa_cons (pv 13) pa_nil)))))
  (pss_one (ps_if (PW.pt (pw_or (pt_cmpR (op_neD hr.units) (pe_call d_lines_in.G (hr.mono (by decide)) (by rfl) d_lines_in.g d_lines_in.kp d_lines_in.b .nil pass0 (pa_cons (pv 7) (pa_cons (pv 13) pa_nil))) (pv 14) (nomark _)) (pw_or1 (pt_cmpR (op_neD hr.units) (pe_call d_height_in.G (hr.mono (by decide)) (by rfl) d_height_in.g d_height_in.kp d_height_in.b .nil pass0 (pa_cons (pv 7) (pa_cons (pv 13) pa_nil))) (pe_call d__law_times.G (hr.mono (by decide)) (by rfl) d__law_times.g d__law_times.kp d__law_times.b .nil pass0 (pa_cons (pv 4) (pa_cons (pe_callB call_len_seq (by rfl) N.len PySem.boot_len (pa_cons (pv 14) pa_nil)) pa_nil))) (nomark _)))))
    (pss_one (ps_ret pe_bl))
    pss_nil))))
  (pss_cons (ps_set (i := 15) scR.nd rfl (Or.inl rfl) (pe_make d_Block.M d_Block.G (hr.mono (by decide)) (by rfl) d_Block.gC d_Block.b .nil pass0 (pa_cons (pv 8) (pa_cons (pv 4) pa_nil))))
  (pss_cons (ps_if (pt_cmpR (op_neD hr.units) (pe_tup (pa_cons (pe_call d_least_width.G (hr.mono (by decide)) (by rfl) d_least_width.g d_least_width.kp d_least_width.b .nil pass0 (pa_cons (pv 15) pa_nil)) (pa_cons (pe_call d_most_width.G (hr.mono (by decide)) (by rfl) d_most_width.g d_most_width.kp d_most_width.b .nil pass0 (pa_cons (pv 15) pa_nil)) (pa_cons (pe_call d_height_in.G (hr.mono (by decide)) (by rfl) d_height_in.g d_height_in.kp d_height_in.b .nil pass0 (pa_cons (pv 15) (pa_cons (pe_ix ix_list (pv 10) (pe_un un_neg pe_int) (fun _ _ => rfl)) pa_nil))) pa_nil)))) (pe_tup (pa_cons (pv 8) (pa_cons (pv 8) (pa_cons (pv 4) pa_nil)))) (nomark _))
    (pss_one (ps_ret pe_bl))
    pss_nil)
  (pss_one (ps_ret (pe_and (pe_cmpR (op_eqOwn eW.G T.W.eqf T.W.eqi eW.b pass0 (hr.mono (by decide))) (pv 7) (pe_make d_Words.M d_Words.G (hr.mono (by decide)) (by rfl) d_Words.gC d_Words.b .nil pass0 (pa_cons (pe_callTy call_tuple_of (by rfl) N.ttup (by decide +kernel) (pa_cons (pv 1) pa_nil)) (pa_cons (pv 3) (pa_cons (pv 4) (pa_cons (pv 5) pa_nil))))) (nomark _)) (pe_and (pe_cmpR (op_eqOwn eB.G T.B.eqf T.B.eqi eB.b pass0 (hr.mono (by decide))) (pv 15) (pe_make d_Block.M d_Block.G (hr.mono (by decide)) (by rfl) d_Block.gC d_Block.b .nil pass0 (pa_cons (pv 8) (pa_cons (pv 4) pa_nil))) (nomark _)) (pe_one (pe_cmpR (op_neOwn eW.G T.W.eqf T.W.eqi T.W.nef T.W.mro eW.b pass0 (hr.mono (by decide))) (pv 7) (pv 15) (nomark _))))))))))))))))))))), ?_⟩
    have nw : ∀ {H' : Hp} {m : Int} {p : Addr}, Well H' a m → H' p = none → p ≠ a := fun hw hp z => by
      obtain ⟨w0, w1, w2, e, _⟩ := hw
      rw [z, e] at hp
      cases hp
    -- widths
    refine ⟨_, rfl, a, 21, 0, rfl, hw, by decide, by decide, by decide, fun r H1 r0 r1 b1 w1 => ⟨r, rfl, by omega, by omega, fun D nD => ?_⟩⟩
    have nDa : D ≠ a := nw w1 nD
    refine lc_range (lo := 0) (n := r.toNat) (PvW a D H1) ⟨Keep.of (same_upd nD), w1.same (same_upd nD), [], fun _ => 0, rfl, upd_same, fun i v e => (nomatch e), fun _ => Fr.zero⟩ ?_ ?_
    · rintro i H2 hi ⟨k2, w2, xs, ws, hl, hD, hx, hf⟩
      refine ⟨rfl, iteT (B := PvW a D H1 (i + 1) H2) ?_⟩
      refine ⟨_, rfl, a, _, rfl, w2, by omega, fun v q H3 k3 w3 nv fv => ⟨xs, k3 _ _ nDa hD, Nat.lt_of_le_of_lt (show xs.length ≤ 20 by omega) (by decide), ?_⟩⟩
      exact PvW.next nDa nD k2 hl hD hx hf w2 k3 w3 nv fv
    rintro H2 ⟨k2, w2, xs, ws, hl, hD2, hx2, hf⟩
    have hn : xs.length ≤ 20 := by omega
    have kk2 : Keep a H H2 := b1.keep.trans k2
    obtain ⟨_, _, _, ew2, _⟩ := id w2
    -- blank, line, base
    refine ⟨_, rfl, a, _, rfl, w2, by omega, fun vb b H3 k3 w3 nb fb => ?_⟩
    obtain ⟨_, _, _, ew3, _⟩ := id w3
    refine ⟨_, rfl, a, _, rfl, w3, by omega, fun vl li H4 k4 w4 nl fl => ?_⟩
    obtain ⟨_, _, _, ew4, _⟩ := id w4
    refine ⟨_, rfl, a, _, rfl, w4, by omega, fun vg g H5 k5 w5 ng fg => ⟨_, _, _, rfl, ?_⟩⟩
    have hD5 := k5 _ _ nDa (k4 _ _ nDa (k3 _ _ nDa hD2))
    have hx5 := ((hx2.kl k3 ew2).kl k4 ew3).kl k5 ew4
    have nb5 := (nb.kl k4 ew3).kl k5 ew4
    have nl5 := nl.kl k5 ew4
    have kk5 : Keep a H H5 := ((kk2.trans k3).trans k4).trans k5
    -- handed, words
    refine ⟨_, rfl, D, xs, rfl, .inl (SqL.of hD5), fun z nz => ?_⟩
    have s6 := same_upd (o := .lst xs) nz
    refine ⟨_, rfl, _, rfl, _, rfl, _, rfl, fun x dx nx ndx ne => ?_⟩
    have s7 := same2 (o1 := .own x) (o2 := .ins CW dx []) nx ndx ne
    have s57 := s6.trans s7
    refine ⟨x, z, dx, xs, vb, vl, vg, ws, b, li, g, rfl, upd_same, .inl (s7 _ _ upd_same), hn, hx5.same s57, fun i => fr1 (hf i), nb5.same s57, nl5.same s57, ng.same s57, fr1 fb, fr1 fl, fr1 fg, fun H7 t k7 hW7 => ⟨rfl, ?_⟩⟩
    have s67 : Same (upd H5 z (.lst xs)) H7 := k7.same nx s7
    have hz7 := s67 _ _ (upd_same (H := H5) (a := z) (o := .lst xs))
    have s8 : Same H5 (upd H7 z (.lst (xs ++ [.int 5]))) := same_upd' nz (s6.trans s67)
    have hW8 := hW7.kl (Keep.of (Same.refl H7) : Keep z H7 H7).upd hz7 (H' := upd H7 z (.lst (xs ++ [.int 5])))
    refine ⟨_, rfl, .inl ⟨rfl, _, SqL.of hz7⟩, z, _, _, rfl, rfl, hz7, Nat.lt_of_le_of_lt hn (by decide), ?_⟩
    have B8 : Bu CW a D x t xs vb vl vg ws b li g (1 + 2 * (r.toNat : Int) + 2 + 2 + 2) (upd H7 z (.lst (xs ++ [.int 5]))) := ⟨w5.same s8, nDa, s8 _ _ hD5, hx5.same s8, nb5.same s8, nl5.same s8, ng.same s8, hW8⟩
    have kk8 : Keep a H (upd H7 z (.lst (xs ++ [.int 5]))) := kk5.trans (Keep.of s8)
    clear hD5 hx5 nb5 nl5 hW7 hW8 s6 s57 s7
    generalize hH8 : upd H7 z (.lst (xs ++ [.int 5])) = H8 at B8 kk8 ⊢
    clear hH8 hz7 s67 s8
    -- the fields
    obtain ⟨dw, hx8⟩ := B8.W.1
    refine ⟨_, rfl, x, CW, dw, _, _, rfl, hx8, T.W.cl, T.aw, rfl, _, rfl, x, CW, dw, _, _, rfl, hx8, T.W.cl, T.ab, rfl, _, rfl, x, CW, dw, _, _, rfl, hx8, T.W.cl, T.al, rfl, _, rfl, x, CW, dw, _, _, rfl, hx8, T.W.cl, T.ag, rfl, (by show 4 ≤ sizeLine; decide), fun p1 n1 => ?_⟩
    have s9 := same_upd (o := .tup [.ref t, vb, vl, vg]) n1
    have B9 := B8.same s9
    refine ⟨_, rfl, D, xs, rfl, .inl ⟨SqL.of B9.D, fun t2 nt2 => ?_⟩⟩
    have s10 := same_upd (o := .tup xs) nt2
    have B10 := B9.same s10
    refine ⟨_, rfl, _, rfl, _, rfl, (by show 4 ≤ sizeLine; decide), fun p2 n2 => ?_⟩
    have s11 := same_upd (o := .tup [.ref t2, vb, vl, vg]) n2
    have B11 := B10.same s11
    refine ⟨_, _, dp_d4 (s11 _ _ (s10 _ _ upd_same)) B11.W.2.1 B11.nums B11.nb B11.nl B11.ng, dp_d4 upd_same (s11 _ _ upd_same) B11.nums B11.nb B11.nl B11.ng, (ok_d4 _ _ _ _ _).sh (by decide), (ok_d4 _ _ _ _ _).sh (by decide), _, rfl, ite2 (fun c => (ok_d4 _ _ _ _ _).no c) (fun _ => ?_)⟩
    have kk11 := kk8.trans (Keep.of ((s9.trans s10).trans s11))
    generalize hH11 : upd (upd (upd H8 p1 (.tup [.ref t, vb, vl, vg])) t2 (.tup xs)) p2 (.tup [.ref t2, vb, vl, vg]) = H11 at B11 kk11 ⊢
    clear hH11 s9 s10 s11 B9 B10 B8 kk8 hx8 n1 n2 nt2
    -- widest
    refine ⟨_, rfl, D, rfl, ⟨xs, SqL.of B11.D⟩, for_list (K := K) (a := D) (xs := xs) (fun i σ H' => Same H11 H' ∧ ∃ u v9, NumAt H' u (mx ws i) ∧ σ = [some (.ref a), some (.ref D), none, some vb, some vl, some vg, some (.ref z), some (.ref x), some u, v9, none, none, none, none, none, none])
      ⟨Same.refl _, _, _, numInt 0, rfl⟩ (fun i σ H' _ h => SqL.of (h.1 _ _ B11.D)) ?_ ?_⟩
    · rintro i y σ H' hi ⟨s', u, v9, hu, rfl⟩
      have hy := (B11.nums i y hi).same s'
      refine ⟨_, rfl, _, rfl, spLt_q hu hy (fr1 (mx_fr hf i)) (fr1 (hf i)) fun H2 s2 => ⟨_, rfl, ite2 (fun c => ?_) (fun c => ?_)⟩⟩
      · refine ⟨_, rfl, s'.trans s2, _, _, ?_, rfl⟩
        rw [mx_lt, if_pos (of_decide_eq_true c)]
        exact hy.same s2
      · refine ⟨_, rfl, s'.trans s2, _, _, ?_, rfl⟩
        rw [mx_lt, if_neg (fun z => c (decide_eq_true z))]
        exact hu.same s2
    rintro σ H12 ⟨s12, u, v9, hu, rfl⟩
    have B12 := B11.same s12
    have kk12 := kk11.trans (Keep.of s12)
    have fmx : Fr D0 B0 (mx ws xs.length) := mx_fr hf _
    -- least_width, most_width
    refine ⟨_, rfl, x, rfl, .inl ⟨t, xs, vb, vl, vg, ws, b, li, g, B12.W, hn, ⟨hf, fb⟩, fun H13 v13 s13 e13 => ?_⟩⟩
    refine ⟨_, rfl, _, _, e13.dp, (hu.same s13).dp, (ok_dat _).sh (by decide), (ok_dat _).sh (by decide), _, rfl, ite2 (fun c => (ok_dat _).no c) (fun _ => ?_)⟩
    have B13 := B12.same s13
    refine ⟨_, rfl, x, rfl, .inl ⟨t, xs, vb, vl, vg, ws, b, li, g, B13.W, hn, ⟨hf, fb⟩, fun H14 v14 s14 e14 => ?_⟩⟩
    have B14 := B13.same s14
    refine ⟨_, rfl, _, rfl, D, xs, vb, ws, b, rfl, B14.D, hn, B14.nums, ⟨hf, fb⟩, B14.nb, fun H15 v15 s15 e15 => ?_⟩
    refine ⟨_, _, (e14.same s15).dp, e15.dp, (ok_dat _).sh (by decide), (ok_dat _).sh (by decide), _, rfl, ite2 (fun c => (ok_dat _).no c) (fun _ => ?_)⟩
    have s1215 := (s13.trans s14).trans s15
    have B15 := B12.same s1215
    have hu15 := hu.same s1215
    have kk15 := kk12.trans (Keep.of s1215)
    clear B11 B12 B13 B14 s12 s13 s14 s15 kk11 kk12 hu s1215 e13 e14 e15
    -- rooms
    refine ⟨_, _, rfl, rfl, ⟨by decide, by decide, by decide⟩, _, rfl, a, _, rfl, B15.well, by omega, fun v16 q16 H16 k16 w16 n16 f16 => ⟨(by show 4 ≤ sizeLine; decide), fun R nR => ?_⟩⟩
    have B16 := B15.draw k16 w16
    obtain ⟨_, _, _, ew15, _⟩ := id B15.well
    have hu16 := hu15.kl k16 ew15
    have nRa : R ≠ a := nw w16 nR
    have nRD : D ≠ R := ne_of_none B16.D nR
    have s17 := same_upd (o := .lst [.int 0, .int 30, .int (10 ^ (9 : Int).toNat), v16]) nR
    have B17 := B16.same s17
    have hu17 := hu16.same s17
    have kk17 := (kk15.trans k16).trans (Keep.of s17)
    have nRH : ∀ b o, b ≠ a → H b = some o → b ≠ R := fun b o n e => ne_of_none ((kk15.trans k16) b o n e) nR
    have R17 : Rms (upd H16 R (.lst [.int 0, .int 30, .int (10 ^ (9 : Int).toNat), v16])) R [.int 0, .int 30, .int (10 ^ (9 : Int).toNat), v16] := by
      refine ⟨upd_same, fun v hv => ?_⟩
      simp only [List.mem_cons, List.not_mem_nil, or_false] at hv
      rcases hv with rfl | rfl | rfl | rfl
      · exact ⟨_, numInt 0, fr1 (fr_int (by decide) (by decide))⟩
      · exact ⟨_, numInt 30, fr1 (fr_int (by decide) (by decide))⟩
      · exact ⟨_, numInt 1000000000, fr1 (fr_int (by decide) (by decide))⟩
      · exact ⟨q16, n16.same s17, fr1 f16⟩
    generalize upd H16 R (.lst [.int 0, .int 30, .int (10 ^ (9 : Int).toNat), v16]) = H17 at s17 B17 hu17 kk17 R17 ⊢
    refine ⟨4, rfl, by decide, by decide, for_range (n := 4) (fun i σ H' => Keep a H H' ∧ Bu CW a D x t xs vb vl vg ws b li g (1 + 2 * (r.toNat : Int) + 2 + 2 + 2 + 2 + 2 * (i : Int)) H' ∧ NumAt H' u (mx ws xs.length) ∧ ∃ rs v2 v11 v12, Rms H' R rs ∧ rs ≠ [] ∧ rs.length ≤ 4 + 3 * i ∧
        σ = [some (.ref a), some (.ref D), v2, some vb, some vl, some vg, some (.ref z), some (.ref x), some u, v9, some (.ref R), v11, v12, none, none, none])
      ⟨kk17, by rw [show 1 + 2 * (r.toNat : Int) + 2 + 2 + 2 + 2 + 2 * ((0 : Nat) : Int) = 1 + 2 * (r.toNat : Int) + 2 + 2 + 2 + 2 by omega]; exact B17, hu17, _, _, _, _, R17, List.cons_ne_nil _ _, (by show 4 ≤ 4; decide), rfl⟩ ?_ ?_⟩
    · rintro i σ H1 hi ⟨kk1, B1, hu1, rs, v2, v11, v12, R1, rne, rlen, rfl⟩
      obtain ⟨_, _, _, ew1, _⟩ := id B1.well
      refine ⟨_, rfl, _, rfl, D, _, rfl, .inl (SqL.of B1.D), _, _, rfl, rfl, a, _, _, rfl, B1.well, by omega, by omega, by omega, fun rf H2 rf0 rf1 b2 w2 => ?_⟩
      have B2 := B1.draw b2.keep w2
      obtain ⟨_, _, _, ew2', _⟩ := id w2
      obtain ⟨fo, rfl⟩ := Int.eq_ofNat_of_zero_le rf0
      refine ⟨_, rfl, _, rfl, _, rfl, _, rfl, _, _, rfl, rfl, _, rfl, a, 4, _, rfl, w2, by omega, by decide, by decide, fun rg H3 rg0 rg1 b3 w3 => ?_⟩
      have B3 := B2.draw b3.keep w3
      obtain ⟨gi, rfl⟩ := Int.eq_ofNat_of_zero_le rg0
      have hu3 := (hu1.kl b2.keep ew1).kl b3.keep ew2'
      have R3 := (R1.kl b2.keep ew1 nRa).kl b3.keep ew2' nRa
      have kk3 := (kk1.trans b2.keep).trans b3.keep
      have B3 : Bu CW a D x t xs vb vl vg ws b li g (1 + 2 * (r.toNat : Int) + 2 + 2 + 2 + 2 + 2 * ((i + 1 : Nat) : Int)) H3 := by
        rw [show (1 + 2 * (r.toNat : Int) + 2 + 2 + 2 + 2 + 2 * ((i + 1 : Nat) : Int)) = 1 + 2 * (r.toNat : Int) + 2 + 2 + 2 + 2 + 2 * (i : Int) + 1 + 1 by omega]
        exact B3
      have ecut : cutV xs (some (fo : Nat)) (some ((fo : Nat) + 1 + (gi : Nat))) = cutV xs (some (fo : Nat)) (some ((fo + 1 + gi : Nat) : Int)) := by
        rw [Int.natCast_add, Int.natCast_add]
        rfl
      have lcut : (cutV xs (some (fo : Nat)) (some ((fo : Nat) + 1 + (gi : Nat)))).length ≤ 20 := by
        rw [ecut, cut_len]
        omega
      refine ⟨_, _, rfl, rfl, _, rfl, D, xs, rfl, SqL.of B3.D, fun p np => ?_⟩
      have s4 := same_upd (o := .lst (cutV xs (some (fo : Nat)) (some ((fo : Nat) + 1 + (gi : Nat))))) np
      have B4 := B3.same s4
      refine ⟨_, rfl, p, _, vb, fun i => ws (fo + i), b, rfl, upd_same, lcut, fun j v e => ?_, ⟨fun i => hf _, fb⟩, B4.nb, fun H5 vj s5 e5 => ?_⟩
      · rw [ecut] at e
        exact B4.nums _ v (cut_get e).2.1
      have fq := lo_fr D0p fb (fun j => hf (fo + j)) (cutV xs (some (fo : Nat)) (some ((fo : Nat) + 1 + (gi : Nat)))).length
      generalize lo b (fun j => ws (fo + j)) (cutV xs (some (fo : Nat)) (some ((fo : Nat) + 1 + (gi : Nat)))).length = q at fq e5
      generalize (cutV xs (some (fo : Nat)) (some ((fo : Nat) + 1 + (gi : Nat)))).length = nq at fq lcut
      have s35 := s4.trans s5
      have B5 := B3.same s35
      have hu5 := hu3.same s35
      have R5 := R3.same s35
      have kk5 := kk3.trans (Keep.of s35)
      have Lq : Len q := frL fq (by omega)
      clear B1 B2 B3 B4 hu1 hu3 R1 R3 kk1 kk3 s35 s4 s5
      have e8 : (10 : Int) ^ (8 : Int).toNat + 7 = ((c8 : Nat) : Int) := by decide
      refine ⟨_, rfl, .inl ⟨rfl, _, SqL.of R5.1⟩, _, rfl, _, rfl, _, _, rfl, rfl, ⟨by decide, by decide, by decide⟩, _, _, rfl, rfl, (by show 2 ≤ sizeLine; decide), fun p2 n2 => ?_⟩
      have s6 := same_upd (o := .tup [.int 1, .int ((10 : Int) ^ (8 : Int).toNat + 7)]) n2
      refine spPlus_q (e5.same s6) (at_tup (q := mkRat 1 c8) (t := 1) (b := c8) (by decide +kernel) (by decide +kernel) (by decide) (by rw [← e8]; exact upd_same)) Lq len_c8 fun H7 u7 s7 e7 => ?_
      have Lu := len_more fq lcut
      refine ⟨(by show 2 ≤ sizeLine; decide), fun p3 n3 => ?_⟩
      have s8 := same_upd (o := .lst [vj, u7]) n3
      have s58 := (s6.trans s7).trans s8
      have B8 := B5.same s58
      have hu8 := hu5.same s58
      have R8 := R5.same s58
      have kk8 := kk5.trans (Keep.of s58)
      have e58 := e5.same s58
      have hlen : (rs ++ [vj, u7]).length ≤ 4 + 3 * i + 2 := by
        rw [List.length_append]
        show rs.length + 2 ≤ _
        omega
      refine ⟨R, p3, rs, [vj, u7], rfl, rfl, R8.1, upd_same, Nat.le_trans (show rs.length + 2 ≤ 20 by omega) (by decide), ?_⟩
      have R9 := R8.add (zs := [vj, u7]) fun v hv => by
        simp only [List.mem_cons, List.not_mem_nil, or_false] at hv
        rcases hv with rfl | rfl
        · exact ⟨q, e58, Lq⟩
        · exact ⟨_, e7.same s8, Lu⟩
      have k9 : Keep R (upd H7 p3 (.lst [vj, u7])) (upd (upd H7 p3 (.lst [vj, u7])) R (.lst (rs ++ [vj, u7]))) := (Keep.of (Same.refl _)).upd
      have B9 := B8.list k9 R8.1 (Ne.symm nRa) nRD
      have hu9 := hu8.kl k9 R8.1
      have e9 := e58.kl k9 R8.1
      have kk9 : Keep a H (upd (upd H7 p3 (.lst [vj, u7])) R (.lst (rs ++ [vj, u7]))) := fun b o n e => by
        rw [upd_ne (nRH b o n e)]
        exact kk8 b o n e
      generalize upd (upd H7 p3 (.lst [vj, u7])) R (.lst (rs ++ [vj, u7])) = H9 at k9 B9 hu9 e9 R9 kk9 ⊢
      clear k9 B8 hu8 R8 e58 s58 s8 s7 s6 e7 B5 hu5 R5 e5 kk8 kk5
      refine ⟨_, rfl, spLt_q (numInt 0) e9 (fr1 Fr.zero) Lq fun H10 s10 => ⟨_, rfl, ite2 (fun c => ?_) (fun c => ?_)⟩⟩
      · have B10 := B9.same s10
        have e10 := e9.same s10
        have R10 := R9.same s10
        have hu10 := hu9.same s10
        have kk10 := kk9.trans (Keep.of s10)
        obtain ⟨Lt, Lm⟩ := less fq (by omega)
        refine ⟨_, rfl, .inl ⟨rfl, _, SqL.of R10.1⟩, _, rfl, _, rfl, _, q.num, q.den, rfl, e10.p, fun H11 p11 s11 e11 => ⟨p11, _, _, _, rfl, rfl, SqT.of e11, rfl, ?_⟩⟩
        refine ⟨_, rfl, _, q.num, q.den, rfl, (e10.same s11).p, fun H12 p12 s12 e12 => ⟨p12, _, _, _, rfl, rfl, SqT.of e12, rfl, ?_⟩⟩
        refine ⟨_, _, rfl, rfl, ⟨by decide, by decide, by decide⟩, _, _, rfl, rfl, wm (i := (q.den : Int)) (j := (10 : Int) ^ (9 : Int).toNat) Lq.2.2.2 (by decide), ?_⟩
        have e9' : (q.den : Int) * (10 : Int) ^ (9 : Int).toNat = ((q.den * c9 : Nat) : Int) := by
          rw [Int.natCast_mul]
          rfl
        have hb : q.den * c9 < 2 ^ 98 * 2 ^ 98 := Nat.mul_lt_mul'' Lq.2.2.2 (by decide)
        refine ⟨q.num, q.den * c9, congrArg (fun i => [V.int q.num, V.int i]) e9', Nat.mul_pos q.den_pos (by decide), Nat.lt_trans hb (by decide), fun H13 u13 s13 e13 => ?_⟩
        have s1013 := (s11.trans s12).trans s13
        refine ⟨vj, u13, q.num, _, q.den, _, rfl, (e10.same s1013).p, e13.p, Lq.2, Lt.2, fun H14 u14 s14 e14 => ?_⟩
        have s1014 := s1013.trans s14
        have B14 := B10.same s1014
        have R14 := R10.same s1014
        have hu14 := hu10.same s1014
        have kk14 := kk10.trans (Keep.of s1014)
        refine ⟨R, _, u14, rfl, rfl, R14.1, Nat.lt_of_le_of_lt (show (rs ++ [vj, u7]).length ≤ 20 by omega) (by decide), ?_⟩
        have k15 : Keep R H14 (upd H14 R (.lst ((rs ++ [vj, u7]) ++ [u14]))) := (Keep.of (Same.refl _)).upd
        refine ⟨fun b o n e => ?_, B14.list k15 R14.1 (Ne.symm nRa) nRD, hu14.kl k15 R14.1, _, _, _, _, R14.add (zs := [u14]) (fun v hv => ?_), by simp, ?_, rfl⟩
        · rw [upd_ne (nRH b o n e)]
          exact kk14 b o n e
        · rw [List.mem_singleton] at hv
          subst hv
          exact ⟨_, e14, Lm⟩
        · rw [List.length_append]
          show _ + 1 ≤ _
          omega
      · exact ⟨kk9.trans (Keep.of s10), B9.same s10, hu9.same s10, _, _, _, _, R9.same s10, by simp, by omega, rfl⟩
    · rintro σ H1 ⟨kk1, B1, hu1, rs, v2, v11, v12, R1, rne, rlen, rfl⟩
      refine ⟨_, rfl, R, rfl, ⟨rs, SqL.of R1.1⟩, for_list (K := K) (a := R) (xs := rs) (fun i σ H' => Same H1 H' ∧ ∃ v13 v14, σ = [some (.ref a), some (.ref D), v2, some vb, some vl, some vg, some (.ref z), some (.ref x), some u, v9, some (.ref R), v11, v12, v13, v14, none])
        ⟨Same.refl _, _, _, rfl⟩ (fun i σ H' _ h => SqL.of (h.1 _ _ R1.1)) ?_ ?_⟩
      · rintro i vr σ H2 hi ⟨s2, v13, v14, rfl⟩
        obtain ⟨q, nq, Lq⟩ := R1.2 vr (List.mem_of_getElem? hi)
        have nq := nq.same s2
        have B2 := B1.same s2
        refine ⟨_, rfl, _, rfl, _, rfl, D, xs, vb, vr, ws, b, q, rfl, B2.D, hn, B2.nums, ⟨hf, fb⟩, B2.nb, nq, Lq, fun H3 qd ts s3 h3' t3 => ?_⟩
        have B3 := B2.same s3
        have nq3 := nq.same s3
        refine ⟨_, rfl, _, rfl, x, t, vr, xs, vb, vl, vg, ws, q, b, li, g, rfl, B3.W, hn, ⟨hf, fb⟩, fl, nq3, Lq, fun H4 q4 ts4 s4 h4' t4 => ?_⟩
        refine ⟨_, rfl, _, _, .lst (SqL.of h4') (tups_dp _ _ t4), .lst (SqL.of (s4 _ _ h3')) (tups_dp _ _ (t3.same s4)), (ok_datT _).sh (by decide), (ok_datT _).sh (by decide), _, rfl, ite2 (fun c => (ok_datT _).no c) (fun _ => ?_)⟩
        have B4 := B3.same s4
        refine ⟨_, rfl, _, rfl, .inl ⟨x, t, vr, xs, vb, vl, vg, ws, q, b, li, g, rfl, B4.W, hn, ⟨hf, fb⟩, fl, nq3.same s4, Lq, fun H5 v5 s5 e5 => ?_⟩⟩
        have h5' := s5 _ _ (s4 _ _ h3')
        have el : ((ts.map V.ref).length : Int) = (((fst q b ws xs.length).length : Nat) : Int) := by
          rw [List.length_map, t3.1, lns_len]
        have ef : (fst q b ws xs.length).length ≤ 20 := Nat.le_trans (fst_len _ _ _ _) hn
        refine ⟨_, rfl, _, rfl, qd, _, rfl, .inl (SqL.of h5'), vl, li.num, ((ts.map V.ref).length : Int), li.den, rfl, (B4.nl.same s5).p, (fr1 fl).2, by rw [el]; exact Nat.lt_of_le_of_lt ef (by decide), fun H6 v6 s6 e6 => ?_⟩
        have e6' : NumAt H6 v6 (((fst q b ws xs.length).length : Int) * li) := by
          rw [Rat.mul_def']
          show NumAt H6 v6 (mkRat (((fst q b ws xs.length).length : Int) * li.num) (1 * li.den))
          rw [Nat.one_mul, Int.mul_comm, ← el]
          exact e6
        exact ⟨_, _, (e5.same s6).dp, e6'.dp, (ok_dat _).sh (by decide), (ok_dat _).sh (by decide), _, rfl, ite2 (fun c => (ok_dat _).no c) (fun _ => ⟨(((s2.trans s3).trans s4).trans s5).trans s6, _, _, rfl⟩)⟩
      · rintro σ H2 ⟨s2, v13, v14, rfl⟩
        have B2 := B1.same s2
        have hu2 := hu1.same s2
        have R2 := R1.same s2
        have kk2 := kk1.trans (Keep.of s2)
        -- block
        refine ⟨_, rfl, _, rfl, fun y dy ny ndy ney => ?_⟩
        have s3 := same2 (o1 := .own y) (o2 := .ins CB dy []) ny ndy ney
        refine ⟨y, dy, u, vl, _, li, rfl, upd_same, hu2.same s3, B2.nl.same s3, fr1 fmx, fr1 fl, fun H4 k4 hB => ⟨rfl, ?_⟩⟩
        have s4 : Same H2 H4 := k4.same ny s3
        have B4 := B2.same s4
        have hu4 := hu2.same s4
        have R4 := R2.same s4
        have kk4 := kk2.trans (Keep.of s4)
        refine ⟨_, rfl, y, rfl, .inr ⟨u, vl, _, li, hB, fun H5 s5 => ?_⟩⟩
        refine ⟨_, rfl, y, rfl, .inr ⟨u, vl, _, li, hB.same s5, fun H6 s6 => ?_⟩⟩
        have s46 := s5.trans s6
        obtain ⟨vr, hvr, eat⟩ := at_last rne
        obtain ⟨q, nq, Lq⟩ := R4.2 vr hvr
        refine ⟨_, rfl, _, rfl, 1, rfl, R, _, _, vr, rfl, rfl, SqL.of (s46 _ _ R4.1), eat, .inr ⟨y, vr, u, vl, q, _, li, rfl, hB.same s46, nq.same s46, Lq, fun H7 s7 => ?_⟩⟩
        have s47 := s46.trans s7
        refine ⟨(by show 3 ≤ sizeLine; decide), fun p3 n3 => ?_⟩
        have s8 := same_upd (o := .tup [u, u, vl]) n3
        refine ⟨_, rfl, _, rfl, _, rfl, (by show 3 ≤ sizeLine; decide), fun p4 n4 => ?_⟩
        have s9 := same_upd (o := .tup [u, u, vl]) n4
        have s49 := (s47.trans s8).trans s9
        have hu9 := hu4.same s49
        have B9 := B4.same s49
        have hB9 := hB.same s49
        have kk9 := kk4.trans (Keep.of s49)
        refine ⟨_, _, dp_d3 (s9 _ _ upd_same) hu9 hu9 B9.nl, dp_d3 upd_same hu9 hu9 B9.nl, (ok_d3 _ _ _).sh (by decide), (ok_d3 _ _ _).sh (by decide), _, rfl, ite2 (fun c => (ok_d3 _ _ _).no c) (fun _ => ?_)⟩
        generalize upd (upd H7 p3 (.tup [u, u, vl])) p4 (.tup [u, u, vl]) = H9 at hu9 B9 hB9 kk9 ⊢
        -- words once more
        refine ⟨_, rfl, _, rfl, D, xs, rfl, .inl ⟨SqL.of B9.D, fun t9 nt9 => ?_⟩⟩
        have s10 := same_upd (o := .tup xs) nt9
        have B10 := B9.same s10
        refine ⟨_, rfl, _, rfl, _, rfl, fun x2 dx2 nx2 ndx2 ne2 => ?_⟩
        have s11 := same2 (o1 := .own x2) (o2 := .ins CW dx2 []) nx2 ndx2 ne2
        have B11 := B10.same s11
        refine ⟨x2, t9, dx2, xs, vb, vl, vg, ws, b, li, g, rfl, upd_same, .inr (s11 _ _ upd_same), hn, B11.nums, fun i => fr1 (hf i), B11.nb, B11.nl, B11.ng, fr1 fb, fr1 fl, fr1 fg, fun H12 t12 k12 hW12 => ⟨rfl, ?_⟩⟩
        have s12 : Same (upd H9 t9 (.tup xs)) H12 := k12.same nx2 s11
        have B12 := B10.same s12
        have s912 := s10.trans s12
        obtain ⟨dw, hx12⟩ := B12.W.1
        obtain ⟨dw2, hx22⟩ := hW12.1
        refine ⟨x, dw, _, _, rfl, hx12, T.W.ty hx22, T.W.nf, x, x2, t, xs, vb, vl, vg, ws, b, li, g, rfl, B12.W, .inl ⟨t12, xs, vb, vl, vg, rfl, hW12, true, rfl, true, rfl, iteT ?_⟩⟩
        -- block once more
        have hB12 := hB9.same s912
        have hu12 := hu9.same s912
        have kk12 := kk9.trans (Keep.of s912)
        refine ⟨_, rfl, _, rfl, _, rfl, fun y2 dy2 ny2 ndy2 ney2 => ?_⟩
        have s13 := same2 (o1 := .own y2) (o2 := .ins CB dy2 []) ny2 ndy2 ney2
        refine ⟨y2, dy2, u, vl, _, li, rfl, upd_same, hu12.same s13, B12.nl.same s13, fr1 fmx, fr1 fl, fun H14 k14 hB14 => ⟨rfl, ?_⟩⟩
        have s14 : Same H12 H14 := k14.same ny2 s13
        have hBy := hB12.same s14
        obtain ⟨dyy, hy⟩ := hBy.1
        obtain ⟨dyy2, hy2⟩ := hB14.1
        refine ⟨y, dyy, _, _, rfl, hy, T.B.ty hy2, T.B.nf, y, y2, u, vl, u, vl, _, li, rfl, hBy, hB14, true, rfl, true, rfl, iteT ?_⟩
        have B14 := B12.same s14
        obtain ⟨dw3, hx3⟩ := B14.W.1
        exact ⟨_, rfl, _, rfl, x, dw3, _, _, rfl, hx3, T.B.ty hy, T.nWB, x, y, t, xs, vb, vl, vg, ws, b, li, g, rfl, B14.W, .inr ⟨dyy, _, hy, false, rfl, k _ (kk12.trans (Keep.of s14))⟩⟩
end
end K1

set_option Elab.async false
set_option linter.all false
set_option maxRecDepth 100000
set_option maxHeartbeats 4000000
namespace K1
open PySem PySem.Spec PyProof.Rows L2
/-! ### the law -/
def spLaw (K : PySem.W.Frag) : Sp := fun vs H Q _ => ∃ (a : Addr) (ns : List Int), vs = [.ref a] ∧ SqL K H a (ns.map V.int) ∧ ns.length ≤ 63 ∧ ∀ H', Q (.bl true) H'
theorem cut5 {ns : List Int} {i : Nat} {y : V} (h : (cutV (ns.map V.int ++ [.int 0]) none (some 5))[i]? = some y) : i < 5 ∧ ∃ z, y = .int z := by
  unfold cutV at h
  rw [HT.sIx_none, show HT.sIx (ns.map V.int ++ [V.int 0]).length (ns.map V.int ++ [V.int 0]).length (some 5) = min 5 (ns.map V.int ++ [V.int 0]).length from HT.sIx_nat _ _ 5] at h
  have hi := (List.getElem?_eq_some_iff.mp h).1
  rw [List.length_take] at hi
  refine ⟨by omega, ?_⟩
  have hm := List.mem_of_getElem? h
  have hm2 := List.mem_of_mem_drop (List.mem_of_mem_take hm)
  rcases List.mem_append.mp hm2 with q | q
  · obtain ⟨z, _, rfl⟩ := List.mem_map.mp q
    exact ⟨z, rfl⟩
  · rw [List.mem_singleton] at q
    exact ⟨0, q⟩
section
variable {P : Program} {w : World} {K : PySem.W.Frag} {mg : Str → Option Value} {base : Heap}
theorem scLaw : FnScope ["script", "k", "cell", "well"] ["script"] (defScope (top 49)) := ⟨rfl, rfl, rfl, by decide +kernel, rfl, by decide +kernel, by decide +kernel⟩
theorem ok_law {f fR : Addr} {fd dR : FuncData} (F : FnP K "law" (top 49) f fd) (FR : FnP K "_law_right" (top 48) fR dR) (GR : FnOk P w K mg base CX0 7 fR dR ["well"] spRight) (gR : mg "_law_right" = some (.ref fR)) (hi : mg "int" = none) (he : mg "enumerate" = none) : FnOk P w K mg base CX0 8 f fd ["script"] (spLaw K) := by
  have bR : Binds K dR ["well"] [] := FR.bindsN fun _ _ _ _ _ _ us hl => match us, hl with | [_], _ => rfl
  refine F.ok scLaw (fun vs H Q E h => ?_) (fun cdv A outer s H vs Q E hr h => ?_)
  · obtain ⟨a, ns, rfl, _⟩ := h
    rfl
  · obtain ⟨a, ns, rfl, hS, hlen, k⟩ := h
    refine ⟨_, PSs.nox (pss_cons (ps_for PassesOwn.never rfl (pi_enum (by rfl) he (pa_cons (pe_slice sl_list (pe_op op_catS (pv 0) (pe_lst (pa_cons pe_int pa_nil))) po_none (po_some pe_int)) pa_nil))
        (pg_tup rfl (pgs_cons (pg_name (i := 1) scLaw.nd rfl (Or.inl rfl)) (pgs_cons (pg_name (i := 2) scLaw.nd rfl (Or.inl rfl)) pgs_nil)))
        (pss_cons (ps_set (i := 3) scLaw.nd rfl (Or.inl rfl) (pe_lst (pa_cons (pe_op op_mul (pv 2) (pe_callTy call_int1 (by rfl) hi (by decide +kernel) (pa_cons (pe_cmpR op_ge (pv 2) (pe_op op_pow pe_int pe_int) (nomark _)) pa_nil)))
            (pa_cons (pe_op op_add (pe_op op_modN (pe_callTy call_int1 (by rfl) hi (by decide +kernel) (pa_cons (pv 2) pa_nil)) pe_int) (pe_op op_mul pe_int (pv 1))) (pa_cons pe_int pa_nil)))))
        (pss_one (ps_if (pt_not (pt_val (pe_call GR hr rfl gR FR.kp bR .nil pass0 (pa_cons (pv 3) pa_nil)))) (pss_one (ps_ret pe_bl)) pss_nil))))
      (pss_one (ps_ret pe_bl))), ?_⟩
    refine ⟨_, rfl, (by show 1 ≤ sizeLine; decide), fun z nz => ?_⟩
    have s1 := same_upd (o := .lst [.int 0]) nz
    refine ⟨a, z, _, _, rfl, rfl, s1.seq hS, SqL.of upd_same, ?_, fun p np => ?_⟩
    · rw [List.length_map]
      exact Nat.le_trans (Nat.add_le_add_right hlen 1) (by decide)
    refine ⟨5, rfl, p, _, rfl, SqL.of upd_same, fun q nq => ?_⟩
    refine ⟨q, _, rfl, SqL.of upd_same, for_enum (K := K) (a := q) (xs := cutV (ns.map V.int ++ [.int 0]) none (some 5)) (fun i σ H' => H' q = some (.lst (cutV (ns.map V.int ++ [.int 0]) none (some 5))) ∧ ∃ v1 v2 v3, σ = [some (.ref a), v1, v2, v3])
      ⟨upd_same, _, _, _, rfl⟩ (fun i σ H' _ h => SqL.of h.1) ?_ ?_⟩
    · rintro i y T σ H1 hy ⟨hq, v1, v2, v3, rfl⟩ nT
      obtain ⟨i5, c, rfl⟩ := cut5 hy
      refine ⟨T, _, rfl, SqT.of upd_same, rfl, _, _, rfl, _, _, rfl, rfl, ?_⟩
      -- well
      have hb : ∀ b : Bool, -(2 ^ 64) < (if b = true then (1 : Int) else 0) ∧ (if b = true then (1 : Int) else 0) < 2 ^ 64 := by decide
      refine ⟨_, rfl, _, rfl, _, _, rfl, rfl, ⟨by decide, by decide, by decide⟩, _, _, rfl, rfl, .inr ⟨_, rfl, _, _, rfl, rfl, .inr (hb _), ?_⟩⟩
      refine ⟨_, rfl, .inl ⟨_, rfl, _, _, rfl, rfl, (by show (2147483647 : Int) ≠ 0; decide), ?_⟩⟩
      refine ⟨_, rfl, _, _, rfl, rfl, .inl ⟨by decide, by decide⟩, _, _, rfl, rfl, ?_⟩
      refine ⟨(by show 3 ≤ sizeLine; decide), fun p3 np3 => ?_⟩
      have hq2 : upd H1 T (.tup [.int (i : Nat), .int c]) q = some (.lst (cutV (ns.map V.int ++ [.int 0]) none (some 5))) := same_upd nT _ _ hq
      obtain ⟨m0, m1⟩ := fmod_in (x := c) (m := 2147483647) (by decide)
      refine ⟨_, rfl, p3, rfl, ⟨_, _, _, upd_same, ?_, by omega, by omega, by omega, by omega⟩, fun H' sx => ⟨true, rfl, iteF ⟨?_, _, _, _, rfl⟩⟩⟩
      · by_cases hc : (10 : Int) ^ (18 : Int).toNat ≤ c
        · rw [decide_eq_true hc]
          have : (0 : Int) ≤ (10 : Int) ^ (18 : Int).toNat := by decide
          show 0 ≤ c * 1
          omega
        · rw [decide_eq_false hc]
          show 0 ≤ c * 0
          omega
      · refine sx _ _ (ne_of_none hq2 np3) ?_
        rw [upd_ne (ne_of_none hq2 np3)]
        exact hq2
    · rintro σ H1 ⟨hq, v1, v2, v3, rfl⟩
      exact k _
end
end K1

set_option Elab.async false
set_option linter.all false
set_option maxRecDepth 100000
set_option maxHeartbeats 4000000
namespace K1
open PySem PySem.Spec PyProof.Rows L2
abbrev ga := He.ga
abbrev ma := He.ma
/-! ### what the top has written -/
def clsB (K : PySem.W.Frag) (x : Str) : Bool := decide (PySem.W.findIn K (.ref (ga K x)) "__ne__" = some (some (.builtin "object.__ne__"))) && (decide (PySem.W.findIn K (.ref (ga K x)) "__class__" = some (some (.builtin "object.__class__"))) && (decide (PySem.W.mroIn K (ga K x) (.type "object") = some true) &&
  (decide (PySem.W.kitOne K (.ref (ga K x)) (.ref (ga K x)) = some true) && PySem.W.notFirst K (ga K x) (.ref (ga K x)))))
def exB (K : PySem.W.Frag) : Bool := clsB K "Words" && (clsB K "Block" && (decide (PySem.W.specialIn K (.builtin "object.__class__") "__get__" = some (some (.builtin "getset_descriptor.__get__"))) && (decide (PySem.W.takesIn K (.builtin "object.__class__") = some true) &&
  (decide (PySem.W.kitOne K (.ref (ga K "Words")) (.ref (ga K "Block")) = some false) && (decide (PySem.W.kitOne K (.ref (ga K "Block")) (.ref (ga K "Words")) = some false) && (PySem.W.notFirst K (ga K "Words") (.ref (ga K "Block")) && He.eqO (PySem.W.nsIn K mainGlobals "gcd") (some (some (.builtin "math.gcd")))))))))

abbrev AlP : Type := He.AlD × Bool
def obsPG (n : Nat) (fa : List He.Fa) (fn : List He.DefD) (ex : PySem.W.Frag → Bool) (g : Addr → Option Obj) : AlP := (He.obsD fa fn (He.frG g (He.asD g n)), ex (He.frG g (He.asD g n)))
def hookP (n : Nat) (fa : List He.Fa) (fn : List He.DefD) (ex : PySem.W.Frag → Bool) : PySem.W.Hook where
  α := AlP
  obs := fun s => obsPG n fa fn ex s.heap.get?
  val := fun _ => (He.valD fn, true)
  says := fun _ h => ∃ K : PySem.W.Frag, K.In h ∧ He.SaysD fa fn K ∧ ex K = true
  of := fun _ _ e => ⟨_, He.frG_in, congrArg (fun z : AlP => z.1) e, congrArg (fun z : AlP => z.2) e⟩
  keeps := fun _ _ _ ⟨K, hK, c⟩ k => ⟨K, PySem.W.Frag.In.keeps hK k, c⟩
theorem obsPG_eq {n : Nat} {fa : List He.Fa} {fn : List He.DefD} {ex : PySem.W.Frag → Bool} {g : Addr → Option Obj} {s : Shared} (h : ∀ a, g a = s.heap.get? a) : obsPG n fa fn ex g = (hookP n fa fn ex).obs s := by
  have e : g = s.heap.get? := funext h
  rw [e] <;> rfl


def D_is_integer : He.DefD := ⟨("is_integer", none), "is_integer", "is_integer", defArgs (top 7), defBody (top 7), defScope (top 7), [], []⟩
def D_is_number : He.DefD := ⟨("is_number", none), "is_number", "is_number", defArgs (top 8), defBody (top 8), defScope (top 8), [], []⟩
def D_fraction_of : He.DefD := ⟨("fraction_of", none), "fraction_of", "fraction_of", defArgs (top 10), defBody (top 10), defScope (top 10), [], []⟩
def D_number_of : He.DefD := ⟨("number_of", none), "number_of", "number_of", defArgs (top 11), defBody (top 11), defScope (top 11), [], []⟩
def D_is_moving : He.DefD := ⟨("is_moving", none), "is_moving", "is_moving", defArgs (top 12), defBody (top 12), defScope (top 12), [], []⟩
def D_at_most : He.DefD := ⟨("at_most", none), "at_most", "at_most", defArgs (top 19), defBody (top 19), defScope (top 19), [], []⟩
def D_plus : He.DefD := ⟨("plus", none), "plus", "plus", defArgs (top 20), defBody (top 20), defScope (top 20), [], []⟩
def D_times : He.DefD := ⟨("times", none), "times", "times", defArgs (top 21), defBody (top 21), defScope (top 21), [], []⟩
def D_is_length : He.DefD := ⟨("is_length", none), "is_length", "is_length", defArgs (top 9), defBody (top 9), defScope (top 9), [], []⟩
def D_check_widths : He.DefD := ⟨("check_widths", none), "check_widths", "check_widths", defArgs (top 26), defBody (top 26), defScope (top 26), [], []⟩
def D_check_length : He.DefD := ⟨("check_length", none), "check_length", "check_length", defArgs (top 27), defBody (top 27), defScope (top 27), [], []⟩
def D_check_width : He.DefD := ⟨("check_width", none), "check_width", "check_width", defArgs (top 29), defBody (top 29), defScope (top 29), [], []⟩
def D_check_content : He.DefD := ⟨("check_content", none), "check_content", "check_content", defArgs (top 28), defBody (top 28), defScope (top 28), [], []⟩
def D_least_width : He.DefD := ⟨("least_width", none), "least_width", "least_width", defArgs (top 30), defBody (top 30), defScope (top 30), [], []⟩
def D_most_width : He.DefD := ⟨("most_width", none), "most_width", "most_width", defArgs (top 31), defBody (top 31), defScope (top 31), [], []⟩
def D_line_firsts : He.DefD := ⟨("line_firsts", none), "line_firsts", "line_firsts", defArgs (top 32), defBody (top 32), defScope (top 32), [], []⟩
def D_lines_in : He.DefD := ⟨("lines_in", none), "lines_in", "lines_in", defArgs (top 33), defBody (top 33), defScope (top 33), [], []⟩
def D_height_of : He.DefD := ⟨("height_of", none), "height_of", "height_of", defArgs (top 34), defBody (top 34), defScope (top 34), [], []⟩
def D_height_in : He.DefD := ⟨("height_in", none), "height_in", "height_in", defArgs (top 35), defBody (top 35), defScope (top 35), [], []⟩
def D__law_draw : He.DefD := ⟨("_law_draw", none), "_law_draw", "_law_draw", defArgs (top 37), defBody (top 37), defScope (top 37), [], []⟩
def D__law_length : He.DefD := ⟨("_law_length", none), "_law_length", "_law_length", defArgs (top 39), defBody (top 39), defScope (top 39), [], []⟩
def D__law_pair : He.DefD := ⟨("_law_pair", none), "_law_pair", "_law_pair", defArgs (top 40), defBody (top 40), defScope (top 40), [], []⟩
def D__law_number : He.DefD := ⟨("_law_number", none), "_law_number", "_law_number", defArgs (top 41), defBody (top 41), defScope (top 41), [], []⟩
def D__law_plus : He.DefD := ⟨("_law_plus", none), "_law_plus", "_law_plus", defArgs (top 42), defBody (top 42), defScope (top 42), [], []⟩
def D__law_minus : He.DefD := ⟨("_law_minus", none), "_law_minus", "_law_minus", defArgs (top 43), defBody (top 43), defScope (top 43), [], []⟩
def D__law_less : He.DefD := ⟨("_law_less", none), "_law_less", "_law_less", defArgs (top 44), defBody (top 44), defScope (top 44), [], []⟩
def D__law_long : He.DefD := ⟨("_law_long", none), "_law_long", "_law_long", defArgs (top 45), defBody (top 45), defScope (top 45), [], []⟩
def D__law_lines : He.DefD := ⟨("_law_lines", none), "_law_lines", "_law_lines", defArgs (top 46), defBody (top 46), defScope (top 46), [], []⟩
def D__law_times : He.DefD := ⟨("_law_times", none), "_law_times", "_law_times", defArgs (top 47), defBody (top 47), defScope (top 47), [], []⟩
def D__law_right : He.DefD := ⟨("_law_right", none), "_law_right", "_law_right", defArgs (top 48), defBody (top 48), defScope (top 48), [], []⟩
def D_law : He.DefD := ⟨("law", none), "law", "law", defArgs (top 49), defBody (top 49), defScope (top 49), [], []⟩
def D_Words__init__ : He.DefD := ⟨("Words", some "__init__"), "__init__", "Words.__init__", defArgs (inClass (top 24) 0), defBody (inClass (top 24) 0), defScope (inClass (top 24) 0), [], []⟩
def D_Words__eq__ : He.DefD := ⟨("Words", some "__eq__"), "__eq__", "Words.__eq__", defArgs (inClass (top 24) 1), defBody (inClass (top 24) 1), defScope (inClass (top 24) 1), [], []⟩
def D_Block__init__ : He.DefD := ⟨("Block", some "__init__"), "__init__", "Block.__init__", defArgs (inClass (top 25) 0), defBody (inClass (top 25) 0), defScope (inClass (top 25) 0), [], []⟩
def D_Block__eq__ : He.DefD := ⟨("Block", some "__eq__"), "__eq__", "Block.__eq__", defArgs (inClass (top 25) 1), defBody (inClass (top 25) 1), defScope (inClass (top 25) 1), [], []⟩
def fn : List He.DefD := [D_is_integer, D_is_number, D_fraction_of, D_number_of, D_is_moving, D_at_most, D_plus, D_times, D_is_length, D_check_widths, D_check_length, D_check_width, D_check_content, D_least_width, D_most_width, D_line_firsts, D_lines_in, D_height_of, D_height_in, D__law_draw, D__law_length, D__law_pair, D__law_number, D__law_plus, D__law_minus, D__law_less, D__law_long, D__law_lines, D__law_times, D__law_right, D_law, D_Words__init__, D_Words__eq__, D_Block__init__, D_Block__eq__]
def fa : List He.Fa := [.glo "is_integer", .glo "is_number", .glo "fraction_of", .glo "number_of", .glo "is_moving", .glo "at_most", .glo "plus", .glo "times", .glo "is_length", .glo "check_widths", .glo "check_length", .glo "check_width", .glo "check_content", .glo "least_width", .glo "most_width", .glo "line_firsts", .glo "lines_in", .glo "height_of", .glo "height_in", .glo "_law_draw", .glo "_law_length", .glo "_law_pair", .glo "_law_number", .glo "_law_plus", .glo "_law_minus", .glo "_law_less", .glo "_law_long", .glo "_law_lines", .glo "_law_times", .glo "law", .free "isinstance", .free "int", .free "bool", .free "tuple", .free "list", .free "len", .free "abs", .free "range", .free "enumerate", .free "zip", .int "MOST_WORDS" 20, .glo "Moment", .mkr "Words", .meth "Words" "__eq__", .glo "Words", .cls "Words", .mkr "Block", .meth "Block" "__eq__", .glo "Block", .cls "Block", .noat "Words" "widths", .noat "Words" "blank", .noat "Words" "line", .noat "Words" "base", .noat "Block" "width", .noat "Block" "height", .glo "_law_right"]
theorem facts {P : Program} {w : World} {K : PySem.W.Frag} {h : Heap} {mg : Str → Option Value} {f : Addr} (X : K.In h) (G : h.Ns mainGlobals mg) (hfa : mg ("law" : Str) = some (.ref f)) (c : He.SaysD fa fn K) (x : exB K = true) :
    ∃ fd : FuncData, (∀ (s : Shared) (v : Value), BindsTo s fd ⟨[v], []⟩ [("script", v)]) ∧ ∀ base : Heap, K.In base → base.Ns mainGlobals mg → FnOk P w K mg base CX0 8 f fd ["script"] (spLaw K) := by
  obtain ⟨xW, x⟩ := ba x
  obtain ⟨xB, x⟩ := ba x
  obtain ⟨x1, x⟩ := ba x
  obtain ⟨x2, x⟩ := ba x
  obtain ⟨x3, x⟩ := ba x
  obtain ⟨x4, x⟩ := ba x
  obtain ⟨x5, x6⟩ := ba x
  obtain ⟨w1, xW⟩ := ba xW
  obtain ⟨w2, xW⟩ := ba xW
  obtain ⟨w3, xW⟩ := ba xW
  obtain ⟨w4, w5⟩ := ba xW
  obtain ⟨b1, xB⟩ := ba xB
  obtain ⟨b2, xB⟩ := ba xB
  obtain ⟨b3, xB⟩ := ba xB
  obtain ⟨b4, b5⟩ := ba xB
  obtain ⟨f_is_integer, F_is_integer⟩ := c.def_ 0 (d := D_is_integer) rfl
  obtain ⟨f_is_number, F_is_number⟩ := c.def_ 1 (d := D_is_number) rfl
  obtain ⟨f_fraction_of, F_fraction_of⟩ := c.def_ 2 (d := D_fraction_of) rfl
  obtain ⟨f_number_of, F_number_of⟩ := c.def_ 3 (d := D_number_of) rfl
  obtain ⟨f_is_moving, F_is_moving⟩ := c.def_ 4 (d := D_is_moving) rfl
  obtain ⟨f_at_most, F_at_most⟩ := c.def_ 5 (d := D_at_most) rfl
  obtain ⟨f_plus, F_plus⟩ := c.def_ 6 (d := D_plus) rfl
  obtain ⟨f_times, F_times⟩ := c.def_ 7 (d := D_times) rfl
  obtain ⟨f_is_length, F_is_length⟩ := c.def_ 8 (d := D_is_length) rfl
  obtain ⟨f_check_widths, F_check_widths⟩ := c.def_ 9 (d := D_check_widths) rfl
  obtain ⟨f_check_length, F_check_length⟩ := c.def_ 10 (d := D_check_length) rfl
  obtain ⟨f_check_width, F_check_width⟩ := c.def_ 11 (d := D_check_width) rfl
  obtain ⟨f_check_content, F_check_content⟩ := c.def_ 12 (d := D_check_content) rfl
  obtain ⟨f_least_width, F_least_width⟩ := c.def_ 13 (d := D_least_width) rfl
  obtain ⟨f_most_width, F_most_width⟩ := c.def_ 14 (d := D_most_width) rfl
  obtain ⟨f_line_firsts, F_line_firsts⟩ := c.def_ 15 (d := D_line_firsts) rfl
  obtain ⟨f_lines_in, F_lines_in⟩ := c.def_ 16 (d := D_lines_in) rfl
  obtain ⟨f_height_of, F_height_of⟩ := c.def_ 17 (d := D_height_of) rfl
  obtain ⟨f_height_in, F_height_in⟩ := c.def_ 18 (d := D_height_in) rfl
  obtain ⟨f__law_draw, F__law_draw⟩ := c.def_ 19 (d := D__law_draw) rfl
  obtain ⟨f__law_length, F__law_length⟩ := c.def_ 20 (d := D__law_length) rfl
  obtain ⟨f__law_pair, F__law_pair⟩ := c.def_ 21 (d := D__law_pair) rfl
  obtain ⟨f__law_number, F__law_number⟩ := c.def_ 22 (d := D__law_number) rfl
  obtain ⟨f__law_plus, F__law_plus⟩ := c.def_ 23 (d := D__law_plus) rfl
  obtain ⟨f__law_minus, F__law_minus⟩ := c.def_ 24 (d := D__law_minus) rfl
  obtain ⟨f__law_less, F__law_less⟩ := c.def_ 25 (d := D__law_less) rfl
  obtain ⟨f__law_long, F__law_long⟩ := c.def_ 26 (d := D__law_long) rfl
  obtain ⟨f__law_lines, F__law_lines⟩ := c.def_ 27 (d := D__law_lines) rfl
  obtain ⟨f__law_times, F__law_times⟩ := c.def_ 28 (d := D__law_times) rfl
  obtain ⟨f__law_right, F__law_right⟩ := c.def_ 29 (d := D__law_right) rfl
  obtain ⟨f_law, F_law⟩ := c.def_ 30 (d := D_law) rfl
  obtain ⟨f_Words__init__, F_Words__init__⟩ := c.def_ 31 (d := D_Words__init__) rfl
  obtain ⟨f_Words__eq__, F_Words__eq__⟩ := c.def_ 32 (d := D_Words__eq__) rfl
  obtain ⟨f_Block__init__, F_Block__init__⟩ := c.def_ 33 (d := D_Block__init__) rfl
  obtain ⟨f_Block__eq__, F_Block__eq__⟩ := c.def_ 34 (d := D_Block__eq__) rfl
  have e := hfa.symm.trans (He.glo_ok X G (c.fact 29 (f := .glo "law") rfl))
  cases e
  have bL := FunD.bindsA (ps := ["script"]) F_law fun _ _ _ _ _ _ us hl => match us, hl with | [_], _ => rfl
  refine ⟨f_law, fun s v => bL s [v] rfl, fun base _ _ => ?_⟩
  have N : Nm mg := { isi := He.free_ok X G (c.fact 30 (f := .free "isinstance") rfl), tint := He.free_ok X G (c.fact 31 (f := .free "int") rfl), tbool := He.free_ok X G (c.fact 32 (f := .free "bool") rfl), ttup := He.free_ok X G (c.fact 33 (f := .free "tuple") rfl), tlst := He.free_ok X G (c.fact 34 (f := .free "list") rfl), len := He.free_ok X G (c.fact 35 (f := .free "len") rfl), abs := He.free_ok X G (c.fact 36 (f := .free "abs") rfl), rng := He.free_ok X G (c.fact 37 (f := .free "range") rfl), enu := He.free_ok X G (c.fact 38 (f := .free "enumerate") rfl), zip := He.free_ok X G (c.fact 39 (f := .free "zip") rfl), gcd := PySem.W.mg_of X G (He.eqO_ok x6) }
  obtain ⟨tk, gM⟩ := He.int_ok X G (c.fact 40 (f := .int "MOST_WORDS" 20) rfl)
  have gMo := He.glo_ok X G (c.fact 41 (f := .glo "Moment") rfl)
  have MWords := He.mkr_ok (c.fact 42 (f := .mkr "Words") rfl)
  have EWords := He.meth_ok (c.fact 43 (f := .meth "Words" "__eq__") rfl)
  have TWords : TC K mg "Words" (ga K "Words") (ma K (ga K "Words") "__init__") (ma K (ga K "Words") "__eq__") := ⟨He.glo_ok X G (c.fact 44 (f := .glo "Words") rfl), He.cls_ok (c.fact 45 (f := .cls "Words") rfl), MWords, EWords.at_, EWords.fn, of_decide_eq_true w1, of_decide_eq_true w2, of_decide_eq_true w3, of_decide_eq_true x1, of_decide_eq_true x2, of_decide_eq_true w4, w5⟩
  have MBlock := He.mkr_ok (c.fact 46 (f := .mkr "Block") rfl)
  have EBlock := He.meth_ok (c.fact 47 (f := .meth "Block" "__eq__") rfl)
  have TBlock : TC K mg "Block" (ga K "Block") (ma K (ga K "Block") "__init__") (ma K (ga K "Block") "__eq__") := ⟨He.glo_ok X G (c.fact 48 (f := .glo "Block") rfl), He.cls_ok (c.fact 49 (f := .cls "Block") rfl), MBlock, EBlock.at_, EBlock.fn, of_decide_eq_true b1, of_decide_eq_true b2, of_decide_eq_true b3, of_decide_eq_true x1, of_decide_eq_true x2, of_decide_eq_true b4, b5⟩
  have T : T2 K mg (ga K "Words") (ga K "Block") _ _ _ _ := ⟨TWords, TBlock, of_decide_eq_true x3, of_decide_eq_true x4, x5, He.noat_ok (c.fact 50 (f := .noat "Words" "widths") rfl), He.noat_ok (c.fact 51 (f := .noat "Words" "blank") rfl), He.noat_ok (c.fact 52 (f := .noat "Words" "line") rfl), He.noat_ok (c.fact 53 (f := .noat "Words" "base") rfl), He.noat_ok (c.fact 54 (f := .noat "Block" "width") rfl), He.noat_ok (c.fact 55 (f := .noat "Block" "height") rfl)⟩
  have d_is_integer : D1 P w K mg base "is_integer" "value" 1 spInt _ _ := ⟨ok_int F_is_integer N, He.glo_ok X G (c.fact 0 (f := .glo "is_integer") rfl), F_is_integer.kp, bi1 (x := "is_integer") (i := 7) F_is_integer⟩
  have d_is_number : D1 P w K mg base "is_number" "value" 2 spNum _ _ := ⟨ok_num F_is_number N gMo d_is_integer, He.glo_ok X G (c.fact 1 (f := .glo "is_number") rfl), F_is_number.kp, bi1 (x := "is_number") (i := 8) F_is_number⟩
  have d_fraction_of : D1 P w K mg base "fraction_of" "number" 1 spPair _ _ := ⟨ok_frac F_fraction_of N, He.glo_ok X G (c.fact 2 (f := .glo "fraction_of") rfl), F_fraction_of.kp, bi1 (x := "fraction_of") (i := 10) F_fraction_of⟩
  have d_number_of : D2 P w K mg base "number_of" "top" "bottom" 1 spMkN _ _ := ⟨ok_nof F_number_of N, He.glo_ok X G (c.fact 3 (f := .glo "number_of") rfl), F_number_of.kp, bi2 (x := "number_of") (i := 11) F_number_of⟩
  have d_is_moving : D1 P w K mg base "is_moving" "number" 1 spMov _ _ := ⟨ok_mov F_is_moving N, He.glo_ok X G (c.fact 4 (f := .glo "is_moving") rfl), F_is_moving.kp, bi1 (x := "is_moving") (i := 12) F_is_moving⟩
  have d_at_most : D2 P w K mg base "at_most" "one" "other" 2 spLe _ _ := ⟨ok_le F_at_most N d_is_moving d_fraction_of, He.glo_ok X G (c.fact 5 (f := .glo "at_most") rfl), F_at_most.kp, bi2 (x := "at_most") (i := 19) F_at_most⟩
  have d_plus : D2 P w K mg base "plus" "one" "other" 2 spPlus _ _ := ⟨ok_plus F_plus N d_is_moving d_fraction_of d_number_of, He.glo_ok X G (c.fact 6 (f := .glo "plus") rfl), F_plus.kp, bi2 (x := "plus") (i := 20) F_plus⟩
  have d_times : D2 P w K mg base "times" "one" "other" 2 spTimes _ _ := ⟨ok_times F_times N d_is_moving d_fraction_of d_number_of, He.glo_ok X G (c.fact 7 (f := .glo "times") rfl), F_times.kp, bi2 (x := "times") (i := 21) F_times⟩
  have d_is_length : D1 P w K mg base "is_length" "value" 3 spLen _ _ := ⟨ok_len F_is_length d_is_number d_at_most, He.glo_ok X G (c.fact 8 (f := .glo "is_length") rfl), F_is_length.kp, bi1 (x := "is_length") (i := 9) F_is_length⟩
  have d_check_widths : D1 P w K mg base "check_widths" "widths" 4 spCkW _ _ := ⟨ok_ckw F_check_widths N gM d_is_length, He.glo_ok X G (c.fact 9 (f := .glo "check_widths") rfl), F_check_widths.kp, bi1 (x := "check_widths") (i := 26) F_check_widths⟩
  have d_check_length : D2 P w K mg base "check_length" "part" "value" 4 spCkL _ _ := ⟨ok_ckl F_check_length d_is_length, He.glo_ok X G (c.fact 10 (f := .glo "check_length") rfl), F_check_length.kp, bi2 (x := "check_length") (i := 27) F_check_length⟩
  have d_check_width : D1 P w K mg base "check_width" "width" 4 spCkN _ _ := ⟨ok_ckn F_check_width d_is_length, He.glo_ok X G (c.fact 11 (f := .glo "check_width") rfl), F_check_width.kp, bi1 (x := "check_width") (i := 29) F_check_width⟩
  have d_check_content : D1 P w K mg base "check_content" "content" 1 (spCkC (ga K "Words") (ga K "Block")) _ _ := ⟨ok_ckc F_check_content N T, He.glo_ok X G (c.fact 12 (f := .glo "check_content") rfl), F_check_content.kp, bi1 (x := "check_content") (i := 28) F_check_content⟩
  have d_least_width : D1 P w K mg base "least_width" "content" 3 (spLW (ga K "Words") (ga K "Block") fun ws _ n => mx ws n) _ _ := ⟨ok_lw F_least_width N T d_check_content d_at_most, He.glo_ok X G (c.fact 13 (f := .glo "least_width") rfl), F_least_width.kp, bi1 (x := "least_width") (i := 30) F_least_width⟩
  have d_most_width : D1 P w K mg base "most_width" "content" 3 (spLW (ga K "Words") (ga K "Block") fun ws b n => lo b ws n) _ _ := ⟨ok_mw F_most_width N T d_check_content d_plus, He.glo_ok X G (c.fact 14 (f := .glo "most_width") rfl), F_most_width.kp, bi1 (x := "most_width") (i := 31) F_most_width⟩
  have d_line_firsts : D2 P w K mg base "line_firsts" "content" "width" 3 (spFi (ga K "Words")) _ _ := ⟨ok_lf F_line_firsts N T d_plus d_at_most, He.glo_ok X G (c.fact 15 (f := .glo "line_firsts") rfl), F_line_firsts.kp, bi2 (x := "line_firsts") (i := 32) F_line_firsts⟩
  have d_lines_in : D2 P w K mg base "lines_in" "content" "width" 5 (spLs (ga K "Words")) _ _ := ⟨ok_ls F_lines_in N T d_check_width d_line_firsts, He.glo_ok X G (c.fact 16 (f := .glo "lines_in") rfl), F_lines_in.kp, bi2 (x := "lines_in") (i := 33) F_lines_in⟩
  have d_height_of : D2 P w K mg base "height_of" "content" "width" 4 (spHt (ga K "Words") (ga K "Block")) _ _ := ⟨ok_hof F_height_of N T d_line_firsts d_times, He.glo_ok X G (c.fact 17 (f := .glo "height_of") rfl), F_height_of.kp, bi2 (x := "height_of") (i := 34) F_height_of⟩
  have d_height_in : D2 P w K mg base "height_in" "content" "width" 5 (spHt (ga K "Words") (ga K "Block")) _ _ := ⟨ok_ht F_height_in N T d_check_content d_check_width d_height_of, He.glo_ok X G (c.fact 18 (f := .glo "height_in") rfl), F_height_in.kp, bi2 (x := "height_in") (i := 35) F_height_in⟩
  have d__law_draw : D2 P w K mg base "_law_draw" "well" "many" 1 spDraw _ _ := ⟨ok_draw F__law_draw N.tint, He.glo_ok X G (c.fact 19 (f := .glo "_law_draw") rfl), F__law_draw.kp, bi2 (x := "_law_draw") (i := 37) F__law_draw⟩
  have d__law_length : D1 P w K mg base "_law_length" "well" 2 spLength _ _ := ⟨ok_lgt F__law_length d__law_draw, He.glo_ok X G (c.fact 20 (f := .glo "_law_length") rfl), F__law_length.kp, bi1 (x := "_law_length") (i := 39) F__law_length⟩
  have d__law_pair : D1 P w K mg base "_law_pair" "number" 1 spPair _ _ := ⟨ok_lpair F__law_pair N, He.glo_ok X G (c.fact 21 (f := .glo "_law_pair") rfl), F__law_pair.kp, bi1 (x := "_law_pair") (i := 40) F__law_pair⟩
  have d__law_number : D2 P w K mg base "_law_number" "top" "bottom" 1 spMkN _ _ := ⟨ok_lnum F__law_number N, He.glo_ok X G (c.fact 22 (f := .glo "_law_number") rfl), F__law_number.kp, bi2 (x := "_law_number") (i := 41) F__law_number⟩
  have d__law_plus : D2 P w K mg base "_law_plus" "one" "other" 2 spPlus _ _ := ⟨ok_lplus F__law_plus d__law_pair d__law_number, He.glo_ok X G (c.fact 23 (f := .glo "_law_plus") rfl), F__law_plus.kp, bi2 (x := "_law_plus") (i := 42) F__law_plus⟩
  have d__law_minus : D2 P w K mg base "_law_minus" "one" "other" 3 spMinus _ _ := ⟨ok_lminus F__law_minus d__law_pair d__law_plus, He.glo_ok X G (c.fact 24 (f := .glo "_law_minus") rfl), F__law_minus.kp, bi2 (x := "_law_minus") (i := 43) F__law_minus⟩
  have d__law_less : D2 P w K mg base "_law_less" "one" "other" 2 spLt _ _ := ⟨ok_lless F__law_less d__law_pair, He.glo_ok X G (c.fact 25 (f := .glo "_law_less") rfl), F__law_less.kp, bi2 (x := "_law_less") (i := 44) F__law_less⟩
  have d__law_long : D2 P w K mg base "_law_long" "widths" "blank" 3 spLong _ _ := ⟨ok_long F__law_long N d__law_plus, He.glo_ok X G (c.fact 26 (f := .glo "_law_long") rfl), F__law_long.kp, bi2 (x := "_law_long") (i := 45) F__law_long⟩
  have d__law_lines : D3 P w K mg base "_law_lines" "widths" "blank" "room" 4 spLines _ _ := ⟨ok_lns F__law_lines N d__law_less d__law_long, He.glo_ok X G (c.fact 27 (f := .glo "_law_lines") rfl), F__law_lines.kp, bi3 (x := "_law_lines") (i := 46) F__law_lines⟩
  have d__law_times : D2 P w K mg base "_law_times" "number" "many" 2 spLTimes _ _ := ⟨ok_ltimes F__law_times d__law_pair d__law_number, He.glo_ok X G (c.fact 28 (f := .glo "_law_times") rfl), F__law_times.kp, bi2 (x := "_law_times") (i := 47) F__law_times⟩
  have d_Words : DM P w K mg base "Words" ["self", "widths", "blank", "line", "base"] 5 (spWI (ga K "Words")) (ga K "Words") _ _ := ⟨MWords, ok_wi F_Words__init__ N T d_check_widths d_check_length, TWords.gC, F_Words__init__.bindsN fun _ _ _ _ _ _ us hl => match us, hl with | [_, _, _, _, _], _ => rfl⟩
  have d_Block : DM P w K mg base "Block" ["self", "width", "height"] 5 (spBI (ga K "Block")) (ga K "Block") _ _ := ⟨MBlock, ok_bi F_Block__init__ T d_check_length, TBlock.gC, F_Block__init__.bindsN fun _ _ _ _ _ _ us hl => match us, hl with | [_, _, _], _ => rfl⟩
  have eW : DE P w K mg base (spWE (ga K "Words") (ga K "Block")) _ _ := ⟨ok_we F_Words__eq__ N T, F_Words__eq__.bindsN fun _ _ _ _ _ _ us hl => match us, hl with | [_, _], _ => rfl⟩
  have eB : DE P w K mg base (spBE (ga K "Block")) _ _ := ⟨ok_be F_Block__eq__ N T, F_Block__eq__.bindsN fun _ _ _ _ _ _ us hl => match us, hl with | [_, _], _ => rfl⟩
  have R := ok_right F__law_right N T d__law_draw d__law_length d__law_long d__law_lines d__law_less d__law_plus d__law_minus d__law_number d__law_pair d__law_times d_least_width d_most_width d_lines_in d_height_in d_Words d_Block eW eB
  exact ok_law F_law F__law_right R (He.glo_ok X G (c.fact 56 (f := .glo "_law_right") rfl)) N.tint N.enu
end K1

set_option Elab.async false
set_option linter.all false
set_option maxRecDepth 100000
set_option maxHeartbeats 0
namespace K1
open PySem PySem.Spec PyProof.Rows L2
abbrev R : PySem.W.OpenRow := PySem.W.OpenLaw.row PySem.Challenge.rw_gridlanes_k01_whole_words_in_lines
abbrev hk : PySem.W.Hook := hookP 5 fa fn exB
def ob (s : PySem.W.SharedT) : AlP := obsPG 5 fa fn exB (HandSHeadRun.getT s)
theorem ob_eq (s : PySem.W.SharedT) : ob s = hk.obs s.abs := obsPG_eq (HandSHeadRun.getT_eq s)
def lo1 : List Str := ["LaneError", "NoNumber", "NoContent", "Moment", "is_integer", "is_number", "is_length", "fraction_of", "number_of", "is_moving", "moving_parts", "moving_of", "moving_sum", "moving_product", "keep_turn", "is_above", "at_most", "plus", "times", "MOST_WORDS", "Words", "Block"]
def lo2 : List Str := ["check_widths", "check_length", "check_content", "check_width", "least_width", "most_width", "line_firsts", "lines_in", "height_of", "height_in", "_law_draw", "_law_one", "_law_length", "_law_pair", "_law_number", "_law_plus", "_law_minus", "_law_less", "_law_long", "_law_lines", "_law_times", "_law_right"]
def loo : List Str := lo1 ++ lo2
theorem run (w : World) : HandSHeadRun.RunEqI R (PySem.W.view R.prog [0, 49]) hk ob 20000 loo w := by
  unfold HandSHeadRun.RunEqI
  kernel_rfl
end K1
open PySem PySem.W PySem.Calls PyProof.Rows
theorem PySem.Challenge.cw_gridlanes_k01_whole_words_in_lines_holds : PySem.Challenge.rw_gridlanes_k01_whole_words_in_lines.Holds := by
  w_on; o_law
  refine HandSHeadRun.head_imp (r := OpenLaw.row PySem.Challenge.rw_gridlanes_k01_whole_words_in_lines) (q := view (OpenLaw.row PySem.Challenge.rw_gridlanes_k01_whole_words_in_lines).prog [0, 49]) (H := K1.hk) (ob := K1.ob) (M := 20000) (loose := K1.loo) (d := HandSHeadRun.topDef (OpenLaw.row PySem.Challenge.rw_gridlanes_k01_whole_words_in_lines).prog 49) (kwd := []) K1.ob_eq
    K1.run (by kernel_rfl) (by kernel_rfl) (by kernel_rfl) (by rfl) (by first | assumption | decide +kernel) (by decide +kernel) ⟨rfl, rfl, rfl, rfl, rfl, by decide +kernel⟩ ?hw ?hc
  case hw => w_witness2
  case hc =>
    refine L2.walk_ofE (l := PySem.Challenge.rw_gridlanes_k01_whole_words_in_lines) (n := 63) (k := 8) (x := "script") (CX := L2.CX0) rfl (by decide) (by kernel_rfl) ⟨rfl, by decide, by decide⟩ ?F (fun _ _ _ _ z => z)
    intro w mg fa h Y G hmg0
    obtain ⟨K, KX, c, x⟩ := Y
    have hmg : mg ("law" : PySem.Str) = some (.ref fa) := by
      have e : (HandSHeadRun.topDef (OpenLaw.row PySem.Challenge.rw_gridlanes_k01_whole_words_in_lines).prog 49).name = ("law" : PySem.Str) := by kernel_rfl
      rw [← e]
      exact hmg0
    obtain ⟨fd, hb, hF⟩ := K1.facts (P := (PySem.Challenge.rw_gridlanes_k01_whole_words_in_lines).prog) (w := w) KX G hmg c x
    exact ⟨K, fd, K1.spLaw K, KX, hb, fun H a ns hl _ hS => ⟨a, ns, rfl, hS, hl, fun _ => rfl⟩, hF⟩
#print axioms PySem.Challenge.cw_gridlanes_k01_whole_words_in_lines_holds
