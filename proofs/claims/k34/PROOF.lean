import PyProof.Rows.All
import Wide.All
import OpenK.AllK
import Wide.FinOn
import KE.KStateDown
import HandS.ForMost
import HandS.IsInst
import HandS.Defaults
import HandS.Flow
import HandS.Gcd
import HandS.Wide
import HandS.OwnEq
import HandS.Style
import HandS.Exc
import PyProof.InstNe
import KE.GoesEnum
import KE.GoesMore
import HandS.OwnIter
import KE.KDictZip
import HandS.Head0
import HandS.Head1
import HandS.Head2
import HandS.HeadEnd
import HandS.HeadHook1
import HandS.HeadHook2
import HandS.MakeKwOnly
import HandS.Head3
import PySem.Challenge.RW_gridlanes_k34_limited_contributions
set_option Elab.async false
set_option linter.all false
set_option maxRecDepth 100000
set_option maxHeartbeats 4000000
/-! == and != by an own __eq__, both answers; enumerate of a tuple; list(zip(list, list)). -/
namespace L2
open PySem PySem.Spec PyProof.Rows
section
variable {X : Cx} {CX : CXT} {C f : Addr} {fd : FuncData} {ps : List Str} {n : Nat} {sp : Sp} {E : XK}
/-- what is asked of x == y, x an instance of the class at C whose own __eq__ keeps sp -/
def rOwnEq (K : PySem.W.Frag) (C : Addr) (sp : Sp) (E : XK) (neg : Bool) : R2 := fun x y H Q => ∃ a dx fs t, x = .ref a ∧ H a = some (.ins C dx fs) ∧ TyX K H y t ∧ PySem.W.notFirst K C t = true ∧ sp [.ref a, y] H (fun v H' => ∃ b, v = .bl b ∧ Q (.bl (if neg then !b else b)) H') E
theorem own_call {A : Around} (F : FnOk X.prog X.w X.K X.mg X.base CX n f fd ps sp) (hb : Binds X.K fd ps []) (hx : Passes CX X E) (sb : Sub X n A) {pins : List (Addr × Obj)} {s : Shared} {σ : St} {H : Hp} {a : Addr} {y : V} {u : Value} {R : Bool → Hp → Prop}
    (I : Inv X pins σ H s) (ry : RelV y u) (h : sp [.ref a, y] H (fun v H' => ∃ b, v = .bl b ∧ R b H') E) :
    wpAny (model X.prog X.w) A (call (.ref f) [.ref a, u]) (fun v s' => ∃ b H', v = .bool b ∧ Inv X pins σ H' s' ∧ R b H') X.xe s := by
  have e0 : Env0 X.prog X.w X.K X.mg X.base A X.stack s H := by
    have e := I.env0
    exact ⟨by rw [sb.fr]; exact e.frames, e.mod, e.bs, e.bsz, e.funs, e.frf, e.hok, e.bare⟩
  have hl := F.len _ _ _ _ h
  have r2 : Vals [V.ref a, y] [Value.ref a, u] := .cons rfl (.cons ry .nil)
  refine wpAny_call (codeAny_mono (F.run A X.stack s H ⟨[.ref a, u], []⟩ [.ref a, u] [.ref a, y] _ E sb.room e0 (by
    have := hb s [.ref a, u] I.kIn (by simpa using hl)
    simpa using this) r2 h) fun r s' hq => ?_)
  cases r with
  | error e => exact hx pins σ H s e s' I hq
  | ok fl =>
    cases fl with
    | ret w =>
      obtain ⟨z, H', I', rz, b, ez, q⟩ := I.after hq
      subst ez
      cases rz
      exact ⟨b, H', rfl, I', q⟩
    | next => exact False.elim hq
    | brk => exact False.elim hq
    | cont => exact False.elim hq
theorem op_eqOwn (F : FnOk X.prog X.w X.K X.mg X.base CX n f fd ps sp) (hs : PySem.W.findIn X.K (.ref C) "__eq__" = some (some (.ref f))) (hf : PySem.W.isFn X.K (.ref f) = true) (hb : Binds X.K fd ps []) (hx : Passes CX X E) (hr : Room n X.A) : OpR X (compareOp .Eq) (rOwnEq X.K C sp E false) := by
  intro pins s σ H x y v u Q I rx ry hq
  obtain ⟨a, dx, fs, t, rfl, ha, ty, hn, h⟩ := hq
  cases rx
  show wpAny (model X.prog X.w) X.A (richCompare .Eq (.ref a) u) (EP X pins σ Q) X.xe s
  obtain ⟨mA, J, _⟩ := ins_get I.hok ha
  obtain ⟨od, J, _⟩ := J.look
  obtain ⟨P, Z, p, _⟩ := kit_of I ry ty
  obtain ⟨m, hF⟩ := I.fr
  refine PySem.W.cmp_K (op := .Eq) (tb := t) hr.units0 hF I.ok.mod.kin J (Z.ty _ _ I.kIn p) hn hs hf ?_
  refine thn (own_call (R := fun b H' => Q (.bl b) H') F hb hx ⟨hr, rfl⟩ I ry h) fun v s' hv => ?_
  obtain ⟨b, H', rfl, I', q⟩ := hv
  exact ⟨.bl b, H', I', rfl, q⟩
theorem ne_try {A : Around} {K : PySem.W.Frag} {prog : Program} {w : World} {E2 : Value → Shared → Prop} {s : Shared} {x : Addr} {u : Value} {ox : Obj} {od : Option Obj} {Q : Option Value → Shared → Prop} (hu : A.units + 1 < cLine) (Y : K.In s.heap) (I : PySem.W.InstAt s.heap x ox C od)
    (hne : PySem.W.findIn K (.ref C) "__ne__" = some (some (.builtin "object.__ne__"))) (hm : PySem.W.mroIn K C (.type "object") = some true) (hs : PySem.W.findIn K (.ref C) "__eq__" = some (some (.ref f))) (hf : PySem.W.isFn K (.ref f) = true)
    (h : wpAny (model prog w) A.in1 (call (.ref f) [.ref x, u]) (fun v s' => ∃ b, v = .bool b ∧ Q (some (.bool (!b))) s') E2 s) : wpAny (model prog w) A (tryCompare (.ref x) "__ne__" u) Q E2 s := by
  have fin : wpAny (model prog w) A (call (.builtin "object.__ne__") ([.ref x] ++ [u])) (fun v s' => ∃ b, v = .bool b ∧ Q (some (.bool b)) s') E2 s := by
    have sub : PySem.W.Looks (model prog w) s.heap (isInstance (.ref x) (.type "object")) true := I.type.andThen (PySem.W.looks_mroIn Y hm)
    refine wpAny_call (codeAny_call_builtin F.cmp_object.ne.plain F.cmpEntry_ne (PySem.W.check_slot F.cmpKind_ne F.cmpSplit_ne sub (F.cmpArgs_ne _ _) ?_))
    unfold Builtin.«object.__ne__»
    refine wpAny_bind (wpAny_of_eq (a := ((Value.ref x : Value), [u])) (by first | rfl | (simp only [slotArgs]; rfl)) ?_)
    refine wpAny_bind (wpAny_cRoomFor hu ?_)
    refine wpAny_bind (PySem.W.ifBound_K Y I hs hf (thn h fun v s' hv => ?_))
    obtain ⟨b, rfl, q⟩ := hv
    refine wpAny_bind (wpAny_truthy_bool ?_)
    exact wpAny_pure ⟨!b, rfl, q⟩
  have fin2 : wpAny (model prog w) A (call (.builtin "object.__ne__") ([.ref x] ++ [u]) >>= fun v => pure (some v)) (fun r s' => ∃ b, r = some (.bool b) ∧ Q (some (.bool b)) s') E2 s := wpAny_bind (thn fin fun v s' ⟨b, e, q⟩ => wpAny_pure ⟨b, by rw [e], q⟩)
  unfold tryCompare
  refine wpAny_bind (wpAny_mono (Q := fun r s' => ∃ b, r = some (.bool b) ∧ Q (some (.bool b)) s') ?_ (fun r s' ⟨b, e, q⟩ => by subst e; exact wpAny_pure q) fun _ _ z => z)
  simp only [callSpecialIfBound?, bindSpecialIfBound?]
  refine wpAny_holding (wpAny_bind (wpAny_bind (wpAny_bind (I.type.here ((PySem.W.looks_findIn Y hne).here ?_)))))
  refine wpAny_bind (wpAny_askSetting (wpAny_ite ?_))
  have hbd := F.cmp_object.ne.bind (.ref x)
  split
  · rw [hbd]
    exact wpAny_bind (wpAny_pure (wpAny_pure (by exact fin2)))
  · rw [hbd]
    exact wpAny_tryCatch (wpAny_bind (wpAny_pure (wpAny_pure (by exact fin2))))
theorem op_neOwn (F : FnOk X.prog X.w X.K X.mg X.base CX n f fd ps sp) (hs : PySem.W.findIn X.K (.ref C) "__eq__" = some (some (.ref f))) (hf : PySem.W.isFn X.K (.ref f) = true) (hne : PySem.W.findIn X.K (.ref C) "__ne__" = some (some (.builtin "object.__ne__")))
    (hm : PySem.W.mroIn X.K C (.type "object") = some true) (hb : Binds X.K fd ps []) (hx : Passes CX X E) (hr : Room (n + 1) X.A) : OpR X (compareOp .NotEq) (rOwnEq X.K C sp E true) := by
  intro pins s σ H x y v u Q I rx ry hq
  obtain ⟨a, dx, fs, t, rfl, ha, ty, hn, h⟩ := hq
  cases rx
  show wpAny (model X.prog X.w) X.A (richCompare .NotEq (.ref a) u) (EP X pins σ Q) X.xe s
  obtain ⟨mA, J, _⟩ := ins_get I.hok ha
  obtain ⟨od, J, _⟩ := J.look
  obtain ⟨P, Z, p, _⟩ := kit_of I ry ty
  have one : wpAny (model X.prog X.w) X.A (tryCompare (.ref a) "__ne__" u) (fun r s' => ∃ b, r = some (.bool b) ∧ EP X pins σ Q (.bool b) s') X.xe s := by
    refine ne_try (hu_of hr) I.kIn J hne hm hs hf ?_
    refine thn (own_call (R := fun b H' => Q (.bl (!b)) H') F hb hx ⟨hr.in1, rfl⟩ I ry h) fun v s' hv => ?_
    obtain ⟨b, H', rfl, I', q⟩ := hv
    exact ⟨b, rfl, _, rfl, .bl (!b), H', I', rfl, q⟩
  have Y := I.kIn
  unfold richCompare
  simp only [oneThing_ref]
  refine wpAny_holding (wpAny_bind (wpAny_cRoomFor (Nat.lt_of_succ_lt (hu_of hr)) ?_))
  rw [cmpInfo_NotEq]
  dsimp only
  refine wpAny_bind (J.type.here (wpAny_bind ((Z.ty _ _ I.kIn p).here ?_)))
  split
  · rename_i q
    have e : PySem.W.subIn X.K t (.ref C) = some false := by
      rcases Bool.or_eq_true_iff.mp hn with e | e
      · rw [beq_iff_eq.mp e] at q; simp at q
      · exact beq_iff_eq.mp e
    refine wpAny_bind ((PySem.W.looks_subIn Y e).here ?_)
    simp only [Bool.false_eq_true, if_false]
    refine wpAny_bind (wpAny_mono one (fun r s' z => ?_) fun _ _ e => e)
    obtain ⟨v, rfl, hq⟩ := z
    exact wpAny_pure hq
  · refine wpAny_bind (wpAny_pure ?_)
    simp only [Bool.false_eq_true, if_false]
    refine wpAny_bind (wpAny_mono one (fun r s' z => ?_) fun _ _ e => e)
    obtain ⟨v, rfl, hq⟩ := z
    exact wpAny_pure hq
end
end L2

set_option Elab.async false
set_option linter.all false
set_option maxRecDepth 100000
set_option maxHeartbeats 4000000
namespace L2
open PySem PySem.Spec PyProof.Rows
/-! ### enumerate(tuple) -/
/-- enumerate(v) of what begins as told -/
theorem en_new {v : Value} {o : Obj} {H : Heap → Prop} (B : Begins v o H) :
    Meets (Builtin.«enumerate.__new__» ⟨[.type "enumerate", v], []⟩) (fun _ R s => H s.heap ∧
      R (.ok (.ret (.ref (s.heap.push o).objs.size))) { s with heap := (s.heap.push o).push { cls := .type "enumerate", data := .fields #[.none, .bool false, .ref s.heap.objs.size, rawInt 0, .none, .none] } }) :=
  .of_wp fun prog w A R s h => by
    obtain ⟨hp, g, d, tk, os⟩ := s; obtain ⟨h1, h⟩ := h
    have hsub := sub_enumerate
    have q1 : ∀ {A' : Around} {E : Value → Shared → Prop} {Q : Value → Shared → Prop}, Q (.ref hp.objs.size) ⟨hp.push o, g, d, tk, os⟩ → wpAny (model prog w) A' (pyIter v) Q E ⟨hp, g, d, tk, os⟩ :=
      fun q => B.iter prog w _ _ ⟨hp, g, d, tk, os⟩ _ h1 q
    wp_walk using q1
    refine wpAny_stack_any fun st => wpAny_pure ?_
    split
    · rename_i c _ _ _ _ _
      cases (c == Value.type "enumerate")
      · wp_walk using q1
        exact ⟨_, rfl, h⟩
      · wp_walk using q1
        exact ⟨_, rfl, h⟩
    · wp_walk using q1
      exact ⟨_, rfl, h⟩
theorem en_call {prog : Program} {w : World} {A : Around} {E : Value → Shared → Prop} {s : Shared} {v : Value} {o : Obj} {H : Heap → Prop} {Q : Value → Shared → Prop} (B : Begins v o H) (h1 : H s.heap)
    (h : ∀ h', IsEnum h' (s.heap.objs.size + 1) s.heap.objs.size 0 .none → h'.get? s.heap.objs.size = some o → h'.objs.size = s.heap.objs.size + 2 →
      (∀ b o, s.heap.get? b = some o → h'.get? b = some o) → Q (.ref (s.heap.objs.size + 1)) { s with heap := h' }) :
    wpAny (model prog w) A (call (.type "enumerate") [v]) Q E s := by
  refine callType_new F.called_enumerate (by decide) (F.typeCall_enumerate_1 _) (F.newCall_enumerate_1 _) (fun obj => F.args_object_init_2 obj _) F.entry_enumerate_new (en_new B) ⟨h1, ?_⟩
  have hz : (s.heap.push o).objs.size = s.heap.objs.size + 1 := Heap.size_push ..
  show _ ∧ _
  rw [hz]
  have he : IsEnum ((s.heap.push o).push { cls := .type "enumerate", data := .fields #[.none, .bool false, .ref s.heap.objs.size, rawInt 0, .none, .none] }) (s.heap.objs.size + 1) s.heap.objs.size 0 .none := by
    have := Heap.get?_push_size (s.heap.push o) (o := { cls := .type "enumerate", data := .fields #[.none, .bool false, .ref s.heap.objs.size, rawInt 0, .none, .none] }) rfl
    rw [hz] at this; exact this
  exact ⟨⟨_, he, rfl⟩, h _ he (Heap.get?_push_of_some _ (Heap.get?_push_size _ B.free)) (by rw [Heap.size_push, hz]) fun b o x => Heap.get?_push_of_some _ (Heap.get?_push_of_some _ x)⟩
theorem tup_over {prog : Program} {w : World} {A : Around} (hh : A.handled = none) (it t : Addr) (hne : t ≠ it) (items : Array Value) (n : Nat) (hn : items[n]? = none) :
    Draws prog w A it [it, t] n (fun _ _ => False) (fun j h => j = n ∧ h.IsTupleIter it t n ∧ h.IsTuple t items) where
  live := fun _ _ st => let ⟨o, ho, _⟩ := st.2.1; ⟨o, ho⟩
  frame := fun _ _ _ st hk => ⟨st.1, st.2.1.at fun o e => hk it (by simp) o e, st.2.2.at fun o e => hk t (by simp) o e⟩
  item := fun i s Q E hi st hQ => absurd st.1 (Nat.ne_of_lt hi)
  done := fun s Q E st hE => wpAny_nextOf_tuple_end hh st.2.1 st.2.2 hn hE
def ItT (K : PySem.W.Frag) (a : Addr) : It :=
  ⟨fun i H => ∃ (xs : List V) (x : V), SqT K H a xs ∧ xs[i]? = some x, fun i H v H' => ∃ T x, v = .ref T ∧ H T = none ∧ H' = upd H T (.tup [.int (i : Nat), x]) ∧ ∀ xs, SqT K H a xs → xs[i]? = some x, fun i H => ∃ xs : List V, SqT K H a xs ∧ xs.length ≤ i⟩
theorem turn_enumT {P : Program} {w : World} {K : PySem.W.Frag} {elts : List Expr} {kk : Nat} {tpos : Pos} (a e it : Addr) :
    Turn P w K (.Tuple elts kk tpos) (ItT K a) [e, it] e (fun i h => (∃ old, IsEnum h e it ((i : Nat) : Int) old) ∧ h.IsTupleIter it a i ∧ e ≠ it ∧ e ≠ a ∧ it ≠ a) where
  mem := by simp
  obj := fun i h st b hb => by
    obtain ⟨⟨old, he⟩, ⟨o, ho, hc, hd⟩, _⟩ := st
    rcases (show b = e ∨ b = it by simpa using hb) with z | z
    · rw [z]
      exact ⟨_, he, fun v q => nomatch q⟩
    · rw [z]
      exact ⟨o, ho, fun v q => by rw [hd] at q; cases q⟩
  keep := fun i h h' st k => by
    obtain ⟨⟨old, he⟩, hi, r⟩ := st
    exact ⟨⟨old, k e (by simp) _ he⟩, hi.at fun o q => k it (by simp) o q, r⟩
  item := by
    intro X hP hw hK hc i pins s σ H E I hf st hg
    subst hP hw hK
    obtain ⟨⟨old, he⟩, hit, hne, hea, hia⟩ := st
    obtain ⟨xs, x, hq, hx⟩ := hg
    obtain ⟨its, rv, p, hz⟩ := I.tuple hq
    obtain ⟨u, hu, ru⟩ := rv.get hx
    have hel : e < s.heap.objs.size := Heap.lt_size he
    have hil : it < s.heap.objs.size := by obtain ⟨_, q, _⟩ := hit; exact Heap.lt_size q
    have hlen : i < its.toArray.size := by
      rw [List.size_toArray]
      exact (List.getElem?_eq_some_iff.mp hu).1
    have DD := Draws.tuple (prog := X.prog) (w := X.w) (A := X.A.in1) (I.ok.hd hc) it a (Ne.symm hia) its.toArray
    refine wpAny_pyNext_enum_itemC DD he ⟨hit, p⟩ hlen hne (by simp [hne, hea]) fun y h' tk hy ho hst hT hsz hk => ?_
    have ey : y = u := by
      have z : its.toArray[i]? = some y := hy
      rw [List.getElem?_toArray, hu] at z
      exact (Option.some.inj z).symm
    subst ey
    refine ⟨_, rfl, wpAny_letOwnedTupleGo_enum (s := { s with heap := h', toks := tk + 1 }) ho fun h'' he' sb => ?_⟩
    have hT2 : h''.get? s.heap.objs.size = some { cls := .type "tuple", data := .seq #[.int i tk, y] } := (sb.2 _ (Nat.ne_of_gt hel)).trans hT
    have new : ObjOk X.prog X.w (upd H s.heap.objs.size (.tup [.int (i : Nat), x])) h'' s.heap.objs.size (.tup [.int (i : Nat), x]) :=
      ⟨by show 2 ≤ sizeLine; decide, [.int i tk, y], .cons ⟨_, rfl⟩ (.cons ru .nil), ⟨_, hT2, rfl, _, rfl⟩⟩
    have I1 : Inv X pins σ (upd H s.heap.objs.size (.tup [.int (i : Nat), x])) { s with heap := h'', toks := tk + 1 } :=
      I.turnedNew (ch := [e, it]) (fun b ob hb q => (sb.2 b (fun z => hb (by simp [z]))).trans (hk b ob (fun z => hb (by simp [z])) (fun z => hb (by simp [z])) q)) hf (Nat.le_refl _) new
    refine ⟨.ref s.heap.objs.size, _, I1, rfl, ⟨_, x, rfl, I.hok.fresh (Nat.le_refl _), rfl, fun ys hy => by rw [I.tuple_inj hy hq]; exact hx⟩, ⟨⟨y, ?_⟩, hst.1.at fun o q => (sb.2 it (Ne.symm hne)).trans q, hne, hea, hia⟩, fun b hb => ?_⟩
    · have e1 : ((i + 1 : Nat) : Int) = (i : Int) + 1 := by omega
      rw [e1]; exact he'
    · have hb' : b < s.heap.objs.size := by
        rcases (show b = e ∨ b = it by simpa using hb) with z | z
        · rw [z]; exact hel
        · rw [z]; exact hil
      rw [upd_ne (Nat.ne_of_lt hb')]
      exact (hf b hb).1
  done := by
    intro X hP hw hK hc i pins s σ H E I hf st hg
    subst hP hw hK
    obtain ⟨⟨old, he⟩, hit, hne, hea, hia⟩ := st
    obtain ⟨xs, hq, hx⟩ := hg
    obtain ⟨its, rv, p, hz⟩ := I.tuple hq
    obtain ⟨f0, f1, f2, f3, f4, f5⟩ := hf it (by simp)
    have hl := rv.length
    have hn : its.toArray[i]? = none := by
      rw [List.getElem?_toArray, List.getElem?_eq_none]
      omega
    have DD := tup_over (prog := X.prog) (w := X.w) (A := X.A.in1) (I.ok.hd hc) it a (Ne.symm hia) its.toArray i hn
    exact wpAny_pyNext_enum_endD DD he ⟨rfl, hit, p⟩ fun h' eb => ⟨rfl, I.turned (t' := s.toks) (fun b o hb q => eb b o hb q) f0 f1 f3 f4 f5⟩
  self := fun A i s Q E st h => let ⟨⟨_, he⟩, _⟩ := st; wpAny_pyIter_enum he h
def iEnumT (K : PySem.W.Frag) (ta : TA) : TI := fun σ H R => ta σ H fun vs H1 => ∃ a xs, vs = [.ref a] ∧ SqT K H1 a xs ∧ R (ItT K a) H1
theorem pi_enumT {X : Cx} {e : Expr} {ta : TA} {p pos tpos : Pos} {elts : List Expr} {kk : Nat} (hg : Gl X "enumerate") (hm : X.mg "enumerate" = none) (ha : PA X [e] ta) (hs : starEach [e] X.env = [(false, eval e X.env)] := by rfl) :
    PI X (.Tuple elts kk tpos) (.Call (.Name "enumerate" p) [e] [] pos) (iEnumT X.K ta) := by
  refine ⟨fun pins s σ H R I h => ?_⟩
  refine Call_ (ld_blt I hg hm boot_enumerate (PyProof.Rows.callWith_type1 (thn (ha.run pos pins s σ H _ I h) fun us s1 ⟨vs, H1, I1, r1, q1⟩ => ?_) hs rfl))
  obtain ⟨a, xs, ex, hq, q⟩ := q1
  subst ex
  cases r1 with
  | cons r rr =>
    cases rr
    cases r
    obtain ⟨its, rv, p', hz⟩ := I1.tuple hq
    have hal : a < s1.heap.objs.size := by obtain ⟨_, z, _⟩ := p'; exact Heap.lt_size z
    refine en_call (begins_tuple a its.toArray) p' fun h' he hit hsz hk => wpAny_pyIter_enum he ?_
    have I2 : Inv X pins σ H1 { s1 with heap := h' } := I1.kept (t' := s1.toks) hk
    refine ⟨s1.heap.objs.size + 1, [s1.heap.objs.size + 1, s1.heap.objs.size], _, _, H1, rfl, I2, turn_enumT a (s1.heap.objs.size + 1) s1.heap.objs.size,
      ⟨⟨.none, he⟩, ⟨_, hit, rfl, rfl⟩, Nat.succ_ne_self _, Nat.ne_of_gt (Nat.lt_succ_of_lt hal), Nat.ne_of_gt hal⟩, fun b hb => ?_, q⟩
    have hle : s1.heap.objs.size ≤ b := by
      rcases (show b = s1.heap.objs.size + 1 ∨ b = s1.heap.objs.size by simpa using hb) with z | z
      · rw [z]; exact Nat.le_add_right _ _
      · rw [z]; exact Nat.le_refl _
    exact I1.fpOk hle (I1.hok.fresh hle)
theorem for_enumT {K : PySem.W.Frag} {a : Addr} {xs : List V} {g : TG} {tb : TS} {D : Ends} {σ : St} {H : Hp} (Pv : Nat → St → Hp → Prop) (h0 : Pv 0 σ H) (hl : ∀ i σ H, i ≤ xs.length → Pv i σ H → SqT K H a xs)
    (hs : ∀ i x T σ H, xs[i]? = some x → Pv i σ H → H T = none → g (.ref T) σ (upd H T (.tup [.int (i : Nat), x])) fun σ2 H2 => tb { D with nx := Pv (i + 1), ct := Pv (i + 1), bk := D.nx } σ2 H2) (hd : ∀ σ H, Pv xs.length σ H → D.nx σ H) :
    ∃ W : Nat → Nat → St → Hp → Prop, (∃ m, W 0 m σ H) ∧ ∀ i m σ H, W i m σ H →
      ((ItT K a).stop i H ∧ D.nx σ H) ∨ ((ItT K a).go i H ∧ ∃ N : St → Hp → Prop, (∀ σ' H', N σ' H' → ∃ m', m' < m ∧ W (i + 1) m' σ' H') ∧ ∀ x H', (ItT K a).yld i H x H' → g x σ H' fun σ2 H2 => tb { D with nx := N, ct := N, bk := D.nx } σ2 H2) := by
  refine ⟨fun i m σ H => m = xs.length - i ∧ i ≤ xs.length ∧ Pv i σ H, ⟨xs.length, by simp, Nat.zero_le _, h0⟩, ?_⟩
  rintro i m σ H ⟨rfl, hi, p⟩
  have q := hl i σ H hi p
  by_cases hlt : i < xs.length
  · refine .inr ⟨⟨xs, xs[i], q, by simp [hlt]⟩, Pv (i + 1), fun σ' H' p' => ⟨xs.length - (i + 1), by omega, rfl, hlt, p'⟩, fun v H' y => ?_⟩
    obtain ⟨T, x, e, hT, e2, y⟩ := y
    subst e e2
    exact hs i x T σ _ (y xs q) p hT
  · have e : i = xs.length := by omega
    subst e
    exact .inl ⟨⟨xs, q, Nat.le_refl _⟩, hd σ H p⟩
end L2

set_option Elab.async false
set_option linter.all false
set_option maxRecDepth 100000
set_option maxHeartbeats 4000000
namespace L2
open PySem PySem.Spec PyProof.Rows
/-! ### list(zip(list, list)) -/
/-- a zip over the lists at a and b, k turns on -/
def ZL (q z TI TO i1 i2 a b : Addr) (k : Nat) (h : Heap) : Prop := IsPair h TI (.ref i1) (.ref i2) ∧ h.IsListIter i1 a k ∧ h.IsListIter i2 b k ∧
  ((IsZip h z TI TO .none ∧ ∃ x y, IsPair h TO x y) ∨ ∃ (T : Addr) (f : Bool) (oT : Obj), IsZipHeld h z TI TO T f ∧ h.get? T = some oT ∧ T ≠ q ∧ T ∉ [z, TI, TO, i1, i2])
theorem ZL.lt {q z TI TO i1 i2 a b : Addr} {k : Nat} {h : Heap} (x : ZL q z TI TO i1 i2 a b k h) : z < h.objs.size ∧ TI < h.objs.size ∧ i1 < h.objs.size ∧ i2 < h.objs.size := by
  obtain ⟨hTI, ⟨o1, e1, _⟩, ⟨o2, e2, _⟩, hz⟩ := x
  refine ⟨?_, Heap.lt_size hTI, Heap.lt_size e1, Heap.lt_size e2⟩
  rcases hz with ⟨hz, _⟩ | ⟨_, _, _, hz, _⟩ <;> exact Heap.lt_size hz
section
variable {X : Cx} {pins : List (Addr × Obj)} {σ : St} {H : Hp} {s : Shared} {q z TI TO i1 i2 a b : Addr} {A1 : Around} {E : Value → Shared → Prop}
theorem zl_next {k : Nat} {xs ys : List V} {x y : V} (D : ZipApart z TI TO i1 i2 a b) (hTO : TO < s.heap.objs.size) (hql : q < s.heap.objs.size) (I : Inv X pins σ H s) (hf : ∀ c ∈ [z, TI, TO, i1, i2], FpOk X pins H c) (st : ZL q z TI TO i1 i2 a b k s.heap) (hqx : SqL X.K H a xs) (hqy : SqL X.K H b ys) (hx : xs[k]? = some x) (hy : ys[k]? = some y) :
    wpAny (model X.prog X.w) A1 (pyNext (.ref z)) (fun r s' => ∃ T, r = some (.ref T) ∧ H T = none ∧ Inv X pins σ (upd H T (.tup [x, y])) s' ∧ (∀ c ∈ [z, TI, TO, i1, i2], FpOk X pins (upd H T (.tup [x, y])) c) ∧ ZL q z TI TO i1 i2 a b (k + 1) s'.heap ∧ TO < s'.heap.objs.size) E s := by
  have lts := st.lt
  obtain ⟨hTI, h1, h2, hz⟩ := st
  obtain ⟨its, rv, p, _⟩ := I.list hqx
  obtain ⟨its2, rv2, p2, _⟩ := I.list hqy
  obtain ⟨u, hu, ru⟩ := rv.get hx
  obtain ⟨u2, hu2, ru2⟩ := rv2.get hy
  have eu : its.toArray[k]? = some u := by simpa using hu
  have eu2 : its2.toArray[k]? = some u2 := by simpa using hu2
  have nin : s.heap.objs.size ∉ [z, TI, TO, i1, i2] := fun hm => by
    rcases (show s.heap.objs.size = z ∨ s.heap.objs.size = TI ∨ s.heap.objs.size = TO ∨ s.heap.objs.size = i1 ∨ s.heap.objs.size = i2 by simpa using hm) with q | q | q | q | q
    · exact absurd lts.1 (by rw [← q]; exact Nat.lt_irrefl _)
    · exact absurd lts.2.1 (by rw [← q]; exact Nat.lt_irrefl _)
    · exact absurd hTO (by rw [← q]; exact Nat.lt_irrefl _)
    · exact absurd lts.2.2.1 (by rw [← q]; exact Nat.lt_irrefl _)
    · exact absurd lts.2.2.2 (by rw [← q]; exact Nat.lt_irrefl _)
  have fin : ∀ h' : Heap, (∀ c o, c ∉ [z, TI, TO, i1, i2] → s.heap.get? c = some o → h'.get? c = some o) → IsPair h' s.heap.objs.size u u2 → h'.objs.size = s.heap.objs.size + 1 → ZL q z TI TO i1 i2 a b (k + 1) h' →
      ∃ T, some (Value.ref s.heap.objs.size) = some (.ref T) ∧ H T = none ∧ Inv X pins σ (upd H T (.tup [x, y])) { s with heap := h' } ∧ (∀ c ∈ [z, TI, TO, i1, i2], FpOk X pins (upd H T (.tup [x, y])) c) ∧ ZL q z TI TO i1 i2 a b (k + 1) h' ∧ TO < h'.objs.size := by
    intro h' hk hT hsz st'
    have new : ObjOk X.prog X.w (upd H s.heap.objs.size (.tup [x, y])) h' s.heap.objs.size (.tup [x, y]) :=
      ⟨by show 2 ≤ sizeLine; decide, [u, u2], .cons ru (.cons ru2 .nil), ⟨_, hT, rfl, _, rfl⟩⟩
    refine ⟨s.heap.objs.size, rfl, I.hok.fresh (Nat.le_refl _), I.turnedNew (t' := s.toks) (ch := [z, TI, TO, i1, i2]) hk hf (Nat.le_refl _) new, fun c hc => ?_, st', by rw [hsz]; exact Nat.lt_succ_of_lt hTO⟩
    obtain ⟨f0, f1⟩ := hf c hc
    exact ⟨by rw [upd_ne (fun e => nin (by rw [← e]; exact hc))]; exact f0, f1⟩
  rcases hz with ⟨hz, x0, y0, hTO'⟩ | ⟨T, f, oT, hz, hT, hTq, hn⟩
  · refine wpAny_pyNext_zip_item D hz hTI hTO' h1 h2 p.isList p2.isList eu eu2 fun h' a1 a2 a3 a4 a5 a6 hk => ?_
    exact fin h' (fun c o hc e => hk c o (fun q => hc (by simp [q])) (fun q => hc (by simp [q])) (fun q => hc (by simp [q])) (fun q => hc (by simp [q])) e) a5 a6
      ⟨hk _ _ D.TIz D.TITO D.TIi1 D.TIi2 hTI, a3, a4, .inr ⟨s.heap.objs.size, false, _, a1, a5, Nat.ne_of_gt hql, nin⟩⟩
  · have n1 : T ≠ z := fun q => hn (by simp [q])
    have n2 : T ≠ i1 := fun q => hn (by simp [q])
    have n3 : T ≠ i2 := fun q => hn (by simp [q])
    refine wpAny_pyNext_zip_item_held D hz hT hTI h1 h2 p.isList p2.isList eu eu2 fun h' a1 a3 a4 a5 a6 hk => ?_
    exact fin h' (fun c o hc e => hk c o (fun q => hc (by simp [q])) (fun q => hc (by simp [q])) (fun q => hc (by simp [q])) e) a5 a6
      ⟨hk _ _ D.TIz D.TIi1 D.TIi2 hTI, a3, a4, .inr ⟨T, true, oT, a1, hk _ _ n1 n2 n3 hT, hTq, hn⟩⟩
theorem zl_end {k : Nat} {xs ys : List V} (hh : A1.handled = none) (D : ZipApart z TI TO i1 i2 a b) (I : Inv X pins σ H s) (hf : ∀ c ∈ [z, TI, TO, i1, i2], FpOk X pins H c) (st : ZL q z TI TO i1 i2 a b k s.heap) (hqx : SqL X.K H a xs) (hqy : SqL X.K H b ys) (hend : xs.length ≤ k ∨ ys.length ≤ k) :
    wpAny (model X.prog X.w) A1 (pyNext (.ref z)) (fun r s' => r = none ∧ Inv X pins σ H s') E s := by
  obtain ⟨hTI, h1, h2, hz⟩ := st
  obtain ⟨its, rv, p, _⟩ := I.list hqx
  obtain ⟨its2, rv2, p2, _⟩ := I.list hqy
  have l1 := rv.length
  have l2 := rv2.length
  have he : its.toArray[k]? = none ∨ its2.toArray[k]? = none := by
    rcases hend with q | q
    · exact .inl (by simp; omega)
    · exact .inr (by simp; omega)
  have fin : ∀ h' : Heap, (∀ c o, c ∉ [z, TI, TO, i1, i2] → s.heap.get? c = some o → h'.get? c = some o) → Inv X pins σ H { s with heap := h' } := fun h' hk => I.turnedL (t' := s.toks) (ch := [z, TI, TO, i1, i2]) hk hf
  rcases hz with ⟨hz, x0, y0, hTO'⟩ | ⟨T, f, oT, hz, hT, hTq, hn⟩
  · exact wpAny_pyNext_zip_end hh D hz hTI hTO' h1 h2 p.isList p2.isList he fun h' hk => ⟨rfl, fin h' fun c o hc e => hk c o (fun q => hc (by simp [q])) (fun q => hc (by simp [q])) (fun q => hc (by simp [q])) (fun q => hc (by simp [q])) e⟩
  · exact wpAny_pyNext_zip_end_held hh D hz hT hTI h1 h2 p.isList p2.isList he fun h' hk => ⟨rfl, fin h' fun c o hc e => hk c o (fun q => hc (by simp [q])) (fun q => hc (by simp [q])) (fun q => hc (by simp [q])) e⟩
/-- so far: the list at q holds new pairs -/
def Prs2 (H : Hp) (xs ys : List V) (ts : List Addr) : Prop := ∀ (j : Nat) (t : Addr), ts[j]? = some t → ∃ x y, xs[j]? = some x ∧ ys[j]? = some y ∧ H t = some (.tup [x, y])
theorem zl_loop {Rs : Result → Shared → Prop} {xs ys : List V} {H0 : Hp} (hh : A1.in1.handled = none) (D : ZipApart z TI TO i1 i2 a b) (hqn : q ∉ [z, TI, TO, i1, i2]) (hn0 : H0 q = none) (hqx : SqL X.K H0 a xs) (hqy : SqL X.K H0 b ys) (hlen : xs.length ≤ ys.length) (hline : xs.length < sizeLine)
    (hdone : ∀ ts H s, Inv X pins σ H s → Same H0 H → ts.length = xs.length → H q = some (.lst (ts.map V.ref)) → Prs2 H xs ys ts → Rs (.ok (.ret .none)) s) :
    ∀ (m : Nat) (ts : List Addr) (H : Hp) (s : Shared), m = xs.length - ts.length → ts.length ≤ xs.length → Inv X pins σ H s → Same H0 H → H q = some (.lst (ts.map V.ref)) → Prs2 H xs ys ts → (∀ c ∈ [z, TI, TO, i1, i2], FpOk X pins H c) → ZL q z TI TO i1 i2 a b ts.length s.heap → TO < s.heap.objs.size →
      codeAny (model X.prog X.w) A1 (.builtin "list.extend.loop" ⟨[.ref q, .ref z, .none], []⟩) Rs s := by
  intro m
  induction m with
  | zero =>
    intro ts H s hm hl I sm hq hp hf st hTO
    refine codeAny_builtin PySem.F.entry_extend_loop ?_
    rw [Around.under_plainId PySem.F.plain_extend_loop _]
    show wpAny _ A1.in1 (pyNext (.ref z) >>= _) _ _ s
    have sx : SqL X.K H a xs := sm.seq hqx
    have sy : SqL X.K H b ys := sm.seq hqy
    refine wpAny_bind (thn (zl_end hh D I hf st sx sy (.inl (by omega))) fun r s' ⟨er, I'⟩ => ?_)
    subst er
    exact wpAny_pure (hdone ts H s' I' sm (by omega) hq hp)
  | succ m ih =>
    intro ts H s hm hl I sm hq hp hf st hTO
    refine codeAny_builtin PySem.F.entry_extend_loop ?_
    rw [Around.under_plainId PySem.F.plain_extend_loop _]
    show wpAny _ A1.in1 (pyNext (.ref z) >>= _) _ _ s
    have sx : SqL X.K H a xs := sm.seq hqx
    have sy : SqL X.K H b ys := sm.seq hqy
    have hi : ts.length < xs.length := by omega
    have hql : q < s.heap.objs.size := by
      obtain ⟨_, _, _, _, _, e0⟩ := I.lstM hq
      exact Heap.lt_size e0
    have hi2 : ts.length < ys.length := by omega
    refine wpAny_bind (thn (zl_next D hTO hql I hf st sx sy (List.getElem?_eq_getElem hi) (List.getElem?_eq_getElem hi2)) fun r s' hr => ?_)
    obtain ⟨T, rfl, hT, I', hf', st', hTO2⟩ := hr
    show wpAny _ A1.in1 (updateSeq q (·.push (.ref T)) >>= _) _ _ _
    have hqT : q ≠ T := ne_of_none hq hT
    have hq' : upd H T (.tup [xs[ts.length], ys[ts.length]]) q = some (.lst (ts.map V.ref)) := by rw [upd_ne hqT]; exact hq
    obtain ⟨zl, its, k, r2, hl2, e⟩ := I'.lstM hq'
    have hts : its.length = ts.length := by rw [← hl2, List.length_map]
    refine wpAny_bind (wpAny_updateSeq e rfl (wpAny_pure ⟨plainId_quiet PySem.F.plain_extend_loop _, ?_⟩) (by rw [List.size_toArray]; omega) (by show (its.toArray.push (.ref T)).size ≤ sizeLine + 1; rw [Array.size_push, List.size_toArray]; omega))
    have J := I'.lset (f := (·.push (Value.ref T))) (its' := its ++ [.ref T]) (t' := s'.toks) hq' e (by simp) (r2.append (.cons (show RelV (.ref T) (.ref T) from rfl) .nil)) (by rw [List.length_append, List.length_singleton, List.length_map]; omega)
    have em : ts.map V.ref ++ [V.ref T] = (ts ++ [T]).map V.ref := by rw [List.map_append]; rfl
    rw [em] at J
    have lq := Heap.lt_size e
    refine ih (ts ++ [T]) _ _ (by rw [List.length_append, List.length_singleton]; omega) (by rw [List.length_append, List.length_singleton]; omega) J (fun c o ec => ?_) upd_same (fun j t ej => ?_) (fun c hc => ?_) ?_ ?_
    · have hcT : c ≠ T := ne_of_none (sm _ _ ec) hT
      have hcq : c ≠ q := ne_of_none ec hn0
      rw [upd_ne hcq, upd_ne hcT]
      exact sm _ _ ec
    · by_cases hj : j < ts.length
      · rw [List.getElem?_append_left hj] at ej
        obtain ⟨x, y, ex, ey, et⟩ := hp j t ej
        have htT : t ≠ T := ne_of_none et hT
        have htq : t ≠ q := fun e => by
          rw [e, hq] at et
          cases et
        exact ⟨x, y, ex, ey, by rw [upd_ne htq, upd_ne htT]; exact et⟩
      · rw [List.getElem?_append_right (by omega)] at ej
        have hj2 : j = ts.length := by
          have := (List.getElem?_eq_some_iff.mp ej).1
          rw [List.length_singleton] at this
          omega
        subst hj2
        rw [Nat.sub_self] at ej
        cases ej
        exact ⟨_, _, List.getElem?_eq_getElem hi, List.getElem?_eq_getElem hi2, by rw [upd_ne (Ne.symm hqT), upd_same]⟩
    · obtain ⟨f0, f1⟩ := hf' c hc
      exact ⟨by rw [upd_ne (fun e => hqn (by rw [← e]; exact hc))]; exact f0, f1⟩
    · rw [List.length_append, List.length_singleton]
      obtain ⟨g1, g2, g3, g4⟩ := st'
      have ne : ∀ c, c ∈ [z, TI, TO, i1, i2] → c ≠ q := fun c hc e => hqn (by rw [← e]; exact hc)
      have up : ∀ (c : Addr) (o : Obj), c ≠ q → s'.heap.get? c = some o → (s'.heap.update q (Obj.mapSeq (·.push (Value.ref T)))).get? c = some o := fun c o hc ec => (Heap.get?_update_ne _ _ _ _ hc).trans ec
      refine ⟨up _ _ (ne TI (by simp)) g1, g2.at fun o ec => up _ o (ne i1 (by simp)) ec, g3.at fun o ec => up _ o (ne i2 (by simp)) ec, ?_⟩
      rcases g4 with ⟨w1, x0, y0, w2⟩ | ⟨T2, f, oT, w1, w2, w3, w4⟩
      · exact .inl ⟨up _ _ (ne z (by simp)) w1, x0, y0, up _ _ (ne TO (by simp)) w2⟩
      · exact .inr ⟨T2, f, oT, up _ _ (ne z (by simp)) w1, up _ _ w3 w2, w3, w4⟩
    · show TO < (s'.heap.update q (Obj.mapSeq (·.push (Value.ref T)))).objs.size
      rw [Heap.size_update]
      exact hTO2
end
end L2

set_option Elab.async false
set_option linter.all false
set_option maxRecDepth 100000
set_option maxHeartbeats 4000000
namespace L2
open PySem PySem.Spec PyProof.Rows
theorem zip_no_len : typeLookup (.type "zip") "__len__" = pure none := am_miss_of_fast (by decide +kernel)
theorem zip_no_hint : typeLookup (.type "zip") "__length_hint__" = pure none := am_miss_of_fast (by decide +kernel)
section
variable {X : Cx} {pins : List (Addr × Obj)} {σ : St} {H : Hp} {s : Shared} {q z TI TO i1 i2 a b : Addr} {A1 : Around} {E : Value → Shared → Prop}
theorem zl_hint {M : Model} {A : Around} {Q : Bool → Shared → Prop} {f0 : Value} (hz : IsZip s.heap z TI TO f0) (h : Q true s) : wpAny M A (Builtin.List.listLengthHint (.ref z)) Q E s := by
  have ty : PySem.W.Looks M s.heap (typeOf (.ref z)) (.type "zip") := fun A' Q' E' s' k q => wpAny_typeOf_ref (k _ _ hz) q
  unfold Builtin.List.listLengthHint
  refine wpAny_bind (wpAny_bind (ty.here ((PySem.W.Looks.of_pure zip_no_len).here ?_)))
  refine PySem.W.KFB.if_not rfl ?_
  refine PySem.W.KFB.if_not rfl ?_
  refine wpAny_bind (wpAny_bind (ty.here ((PySem.W.Looks.of_pure zip_no_hint).here ?_)))
  exact wpAny_pure h
theorem zl_extend {Rs : Result → Shared → Prop} {xs ys : List V} (hh : A1.in1.handled = none) (D : ZipApart z TI TO i1 i2 a b) (hqn : q ∉ [z, TI, TO, i1, i2]) (H0 : Hp) (e0 : H = upd H0 q (.lst [])) (hn0 : H0 q = none) (hqx : SqL X.K H0 a xs) (hqy : SqL X.K H0 b ys) (hlen : xs.length ≤ ys.length) (hline : xs.length < sizeLine)
    (hdone : ∀ ts H s, Inv X pins σ H s → Same H0 H → ts.length = xs.length → H q = some (.lst (ts.map V.ref)) → Prs2 H xs ys ts → Rs (.ok (.ret .none)) s)
    (I : Inv X pins σ H s) (hf : ∀ c ∈ [z, TI, TO, i1, i2], FpOk X pins H c) (hz : IsZip s.heap z TI TO .none) (hTI : IsPair s.heap TI (.ref i1) (.ref i2)) (hTO : ∃ x y, IsPair s.heap TO x y) (h1 : s.heap.IsListIter i1 a 0) (h2 : s.heap.IsListIter i2 b 0) :
    wpAny (model X.prog X.w) A1.in1 (Builtin.List.listExtendWith (.ref q) (.ref z) .none)
      (fun fin s' => match fin with | .done f => Rs (.ok f) s' | .again c' => c'.quiet = true ∧ codeAny (model X.prog X.w) A1 c' Rs s') (fun e s' => Rs (.error e) s') s := by
  have hq : H q = some (.lst []) := by rw [e0]; exact upd_same
  have hne : q ≠ z := fun e => hqn (by simp [e])
  have sm : Same H0 H := by
    intro c o ec
    rw [e0, upd_ne (ne_of_none ec hn0)]
    exact ec
  have ty : PySem.W.Looks (model X.prog X.w) s.heap (typeOf (.ref z)) (.type "zip") := fun A' Q' E' s' k q => wpAny_typeOf_ref (k _ _ hz) q
  unfold Builtin.List.listExtendWith
  refine wpAny_bind (ty.here ?_)
  have g1 : Builtin.List.listSameRef (.ref q) (.ref z) = false := by simp [Builtin.List.listSameRef, hne]
  have g2 : (Value.type "zip" == Value.type "list") = false := by decide +kernel
  have g3 : (Value.type "zip" == Value.type "tuple") = false := by decide +kernel
  simp only [g1, g2, g3, Bool.or_false, Bool.false_eq_true, if_false]
  refine wpAny_bind (wpAny_pyIter_zip hz ?_)
  refine wpAny_bind (wpAny_holding (zl_hint hz ?_))
  obtain ⟨zz, its, k, r3, hl3, e3⟩ := I.lstM hq
  cases r3
  obtain ⟨x0, y0, hTO⟩ := hTO
  have lTO : TO < s.heap.objs.size := Heap.lt_size hTO
  refine wpAny_ite_split (fun _ => ?_) (fun _ => wpAny_pure ⟨plainId_quiet PySem.F.plain_extend_loop _, zl_loop hh D hqn hn0 hqx hqy hlen hline hdone _ [] H s rfl (Nat.zero_le _) I sm hq (fun j t e => by cases e) hf ⟨hTI, h1, h2, .inl ⟨hz, x0, y0, hTO⟩⟩ lTO⟩)
  refine wpAny_bind (wpAny_rule ?_)
  refine wpAny_bind ?_
  show wpAny _ _ (updateSeq q (·.push .none) >>= fun _ => updateSeq q (·.pop)) _ _ _
  refine wpAny_bind (wpAny_updateSeq e3 rfl ?_)
  have I2 := I.lset (f := (·.push Value.none)) (its' := [Value.none]) (ys := [.non]) (t' := s.toks) hq e3 (by simp) (.cons rfl .nil) (by rw [List.length_singleton, sizeLine_eq]; decide)
  obtain ⟨z4, its4, k4, r4, hl4, e4⟩ := I2.lstM upd_same
  obtain ⟨u4, rfl, ru4⟩ := r4.one
  refine wpAny_updateSeq e4 rfl ?_ (by show 1 ≤ sizeLine; rw [sizeLine_eq]; decide) (by show 0 ≤ sizeLine + 1; exact Nat.zero_le _)
  have I3 := I2.lset (f := (·.pop)) (its := [u4]) (its' := []) (ys := []) (t' := s.toks) upd_same e4 (by rfl) .nil (Nat.zero_le _)
  rw [upd_upd] at I3
  have hH : upd H q (.lst []) = H := by
    funext b
    by_cases hb : b = q
    · rw [hb, upd_same, hq]
    · rw [upd_ne hb]
  rw [hH] at I3
  have ne : ∀ c, c ∈ [z, TI, TO, i1, i2] → c ≠ q := fun c hc e => hqn (by rw [← e]; exact hc)
  have up : ∀ (c : Addr) (o : Obj), c ≠ q → s.heap.get? c = some o → ((s.heap.update q (Obj.mapSeq (·.push Value.none))).update q (Obj.mapSeq (·.pop))).get? c = some o := fun c o hc ec =>
    (Heap.get?_update_ne _ _ _ _ hc).trans ((Heap.get?_update_ne _ _ _ _ hc).trans ec)
  refine wpAny_pure ⟨plainId_quiet PySem.F.plain_extend_loop _, zl_loop hh D hqn hn0 hqx hqy hlen hline hdone _ [] H _ rfl (Nat.zero_le _) I3 sm hq (fun j t e => by cases e) hf
    ⟨up _ _ (ne TI (by simp)) hTI, h1.at fun o ec => up _ o (ne i1 (by simp)) ec, h2.at fun o ec => up _ o (ne i2 (by simp)) ec, .inl ⟨up _ _ (ne z (by simp)) hz, x0, y0, up _ _ (ne TO (by simp)) hTO⟩⟩ (Heap.lt_size (up _ _ (ne TO (by simp)) hTO))⟩
def tListZip (K : PySem.W.Frag) (t : TA) : TE := fun σ H Q => t σ H fun vs H1 => ∃ (a b : Addr) (xs ys : List V), vs = [.ref a, .ref b] ∧ SqL K H1 a xs ∧ SqL K H1 b ys ∧ xs.length ≤ ys.length ∧ xs.length < sizeLine ∧
  ∀ (H' : Hp) (q : Addr) (ts : List Addr), Same H1 H' → ts.length = xs.length → H' q = some (.lst (ts.map V.ref)) → Prs2 H' xs ys ts → Q (.ref q) H'
theorem pe_listzip {e e2 : Expr} {t : TA} {p p2 pos pos2 : Pos} (hc : X.calm = true) (hg : Gl X "list") (hm : X.mg "list" = none) (hg2 : Gl X "zip") (hm2 : X.mg "zip" = none) (ha : PA X [e, e2] t)
    (hs : starEach [.Call (.Name "zip" p2) [e, e2] [] pos2] X.env = (false, eval (.Call (.Name "zip" p2) [e, e2] [] pos2) X.env) :: starEach [] X.env := by rfl)
    (hs2 : starEach [e, e2] X.env = (false, eval e X.env) :: starEach [e2] X.env := by rfl) (hpl : (backTo pos2 (starEach [e2] X.env)).any (·.1) = false := by rfl) :
    PE X (.Call (.Name "list" p) [.Call (.Name "zip" p2) [e, e2] [] pos2] [] pos) (tListZip X.K t) := by
  refine ⟨fun pins s σ H Q I hq => ?_⟩
  refine wpAny_Call_Name_kw (ld_blt I hg hm (u := .type "list") (by decide +kernel) ?_)
  refine PyProof.Rows.callWith_type1 ?_ hs rfl
  rw [hs]
  show wpAny _ _ (spliced ((false, eval (.Call (.Name "zip" p2) [e, e2] [] pos2) X.env) :: backTo pos (starEach [] X.env))) _ _ s
  refine Calls.spliced_cons ?_
  refine wpAny_Call_Name_kw (ld_blt I hg2 hm2 PyProof.Rows.boot_zip ?_)
  refine PyProof.Rows.callWith_type1 (thn (ha.run pos2 pins s σ H _ I hq) fun us s1 ⟨vs, H1, I1, r1, q1⟩ => ?_) hs2 hpl
  obtain ⟨a, b, xs, ys, ex, hqx, hqy, hlen, hline, q⟩ := q1
  subst ex
  cases r1 with
  | cons r rr =>
    cases rr with
    | cons r' rr =>
      cases rr
      cases r
      cases r'
      obtain ⟨its, rv, p1, _⟩ := I1.list hqx
      obtain ⟨its2, rv2, p2, _⟩ := I1.list hqy
      have la : a < s1.heap.objs.size := p1.lt
      have lb : b < s1.heap.objs.size := p2.lt
      refine call_zip_2 p1.isList p2.isList fun h' hz hTI hTO h1 h2 hsz hk => ?_
      have I2 : Inv X pins σ H1 { s1 with heap := h' } := I1.kept (t' := s1.toks) hk
      refine Calls.spliced_nil ?_
      have D := PySem.W.ktu_apart s1.heap.objs.size a b la lb
      refine callType_codes (Q₁ := fun obj s₁ => obj = .ref h'.objs.size ∧ s₁ = { s1 with heap := h'.push { cls := .type "list", data := .seq #[] } }) PySem.F.called_list (PySem.F.typeCall_list_1 _) PySem.F.entry_list_init
        (code_list_new _ ⟨rfl, rfl⟩) fun obj s₁ h₁ => ?_
      obtain ⟨rfl, rfl⟩ := h₁
      have hS : (h'.push { cls := .type "list", data := .seq #[] }).get? h'.objs.size = some { cls := .type "list", data := .seq #[] } := Heap.get?_push_size _ rfl
      refine ⟨⟨_, hS, rfl⟩, PySem.F.args_list_init_2 _ _, ?_⟩
      have fr : H1 h'.objs.size = none := I2.hok.fresh (Nat.le_refl _)
      have I3 : Inv X pins σ (upd H1 h'.objs.size (.lst [])) { s1 with heap := h'.push { cls := .type "list", data := .seq #[] } } := I2.lnew (its := []) (t' := s1.toks) .nil (Nat.zero_le _)
      show wpAny _ _ (do let old ← Builtin.List.listItems (.ref h'.objs.size); Builtin.List.listUpdate (.ref h'.objs.size) (fun _ => #[]); letGo old.toList.reverse; Builtin.List.listExtendWith (.ref h'.objs.size) (.ref (s1.heap.objs.size + 4)) .none) _ _ _
      refine wpAny_bind ?_
      unfold Builtin.List.listItems
      refine wpAny_bind (wpAny_seqItems hS rfl (wpAny_pure ?_))
      show wpAny _ _ (updateSeq h'.objs.size (fun _ => #[]) >>= fun _ => letGo (#[] : Array Value).toList.reverse >>= fun _ => Builtin.List.listExtendWith (.ref h'.objs.size) (.ref (s1.heap.objs.size + 4)) .none) _ _ _
      refine wpAny_bind (wpAny_updateSeq hS rfl ?_)
      have I4 := I3.lset (f := fun _ => #[]) (its := []) (its' := []) (ys := []) (t' := s1.toks) upd_same hS rfl .nil (Nat.zero_le _)
      rw [upd_upd] at I4
      refine wpAny_bind (wpAny_letGo ?_)
      have five : ∀ c, c ∈ [s1.heap.objs.size + 4, s1.heap.objs.size + 2, s1.heap.objs.size + 3, s1.heap.objs.size, s1.heap.objs.size + 1] → s1.heap.objs.size ≤ c ∧ c < h'.objs.size := fun c hcm => by
        have e' : c = s1.heap.objs.size + 4 ∨ c = s1.heap.objs.size + 2 ∨ c = s1.heap.objs.size + 3 ∨ c = s1.heap.objs.size ∨ c = s1.heap.objs.size + 1 := by simpa using hcm
        rw [hsz]
        rcases e' with z | z | z | z | z
        · rw [z]; exact ⟨Nat.le_add_right _ _, Nat.add_lt_add_left (by decide) _⟩
        · rw [z]; exact ⟨Nat.le_add_right _ _, Nat.add_lt_add_left (by decide) _⟩
        · rw [z]; exact ⟨Nat.le_add_right _ _, Nat.add_lt_add_left (by decide) _⟩
        · rw [z]; exact ⟨Nat.le_refl _, Nat.lt_add_of_pos_right (by decide)⟩
        · rw [z]; exact ⟨Nat.le_add_right _ _, Nat.add_lt_add_left (by decide) _⟩
      have hqn : h'.objs.size ∉ [s1.heap.objs.size + 4, s1.heap.objs.size + 2, s1.heap.objs.size + 3, s1.heap.objs.size, s1.heap.objs.size + 1] := fun hm => Nat.lt_irrefl _ (five _ hm).2
      have up : ∀ (c : Addr) (o : Obj), h'.get? c = some o → ((h'.push { cls := .type "list", data := .seq #[] }).update h'.objs.size (Obj.mapSeq fun _ => #[])).get? c = some o := fun c o ec =>
        (Heap.get?_update_ne _ _ _ _ (Nat.ne_of_lt (Heap.lt_size ec))).trans (Heap.get?_push_of_some _ ec)
      refine zl_extend (A1 := X.A.in1) (Rs := wants (fun r s₂ => r = .none ∧ EP X pins σ Q (.ref h'.objs.size) s₂) X.xe) (I.ok.hd hc) D hqn H1 rfl fr hqx hqy hlen hline
        (fun ts H' s' I' sm l1 l2 l3 => ⟨rfl, .ref h'.objs.size, H', I', rfl, q H' _ ts sm l1 l2 l3⟩) I4 (fun c hcm => ?_) (up _ _ hz) (up _ _ hTI) ⟨_, _, up _ _ hTO⟩ (h1.at fun o ec => up _ o ec) (h2.at fun o ec => up _ o ec)
      obtain ⟨c1, c2⟩ := five c hcm
      have f := I1.fpOk (H' := H1) c1 (I1.hok.fresh c1)
      exact ⟨by rw [upd_ne (Nat.ne_of_lt c2)]; exact f.1, f.2⟩
end
end L2

set_option Elab.async false
set_option linter.all false
set_option maxRecDepth 100000
set_option maxHeartbeats 4000000
/-! Draws from a well; lists put together; enumerate. -/
namespace L2
open PySem PySem.Spec PyProof.Rows
/-- list + list, whoever holds them -/
def rCatS (K : PySem.W.Frag) : R2 := fun x y H Q => ∃ l b xs zs, x = .ref l ∧ y = .ref b ∧ SqL K H l xs ∧ SqL K H b zs ∧ xs.length + zs.length ≤ sizeLine ∧ ∀ p, H p = none → Q (.ref p) (upd H p (.lst (xs ++ zs)))
theorem op_catS {X : Cx} : OpR X (binaryOp .Add) (rCatS X.K) := by
  intro pins s σ H x y v u Q I rx ry h
  obtain ⟨l, b, xs, zs, rfl, rfl, hH, hB, hz, q⟩ := h
  cases rx
  cases ry
  obtain ⟨its, r, p1, z⟩ := I.list hH
  obtain ⟨its2, r2, p2, z2⟩ := I.list hB
  have hl := r.length
  have hl2 := r2.length
  obtain ⟨⟨cls, dd, data, sl⟩, ho, hc, n, hd⟩ := id p1.isList
  obtain ⟨⟨cls2, dd2, data2, sl2⟩, ho2, hc2, n2, hd2⟩ := id p2.isList
  simp only at hc hd hc2 hd2
  subst hc hd hc2 hd2
  open PySem.P in
  refine concat_meets ⟨_, ho, rfl⟩ ⟨_, ho2, rfl⟩ noFill_list_add seq_list_add PySem.F.slot_list_add PySem.F.entry_list_add (PySem.F.args_list_add_2 _ _) (list_addW l b its.toArray its2.toArray n n2 dd dd2 sl sl2 (by rw [List.size_toArray, List.size_toArray]; omega)) ⟨ho, ho2, ?_⟩
  have ea : its.toArray ++ its2.toArray = (its ++ its2).toArray := by simp
  rw [ea]
  exact ⟨.ref _, _, I.lnew (t' := s.toks) (r.append r2) (by rw [List.length_append]; omega), rfl, q _ I.fresh⟩
theorem for_enum {K : PySem.W.Frag} {a : Addr} {xs : List V} {g : TG} {tb : TS} {D : Ends} {σ : St} {H : Hp} (Pv : Nat → St → Hp → Prop) (h0 : Pv 0 σ H) (hl : ∀ i σ H, i ≤ xs.length → Pv i σ H → SqL K H a xs)
    (hs : ∀ i x T σ H, xs[i]? = some x → Pv i σ H → H T = none → g (.ref T) σ (upd H T (.tup [.int (i : Nat), x])) fun σ2 H2 => tb { D with nx := Pv (i + 1), ct := Pv (i + 1), bk := D.nx } σ2 H2) (hd : ∀ σ H, Pv xs.length σ H → D.nx σ H) :
    ∃ W : Nat → Nat → St → Hp → Prop, (∃ m, W 0 m σ H) ∧ ∀ i m σ H, W i m σ H →
      ((Ite K a).stop i H ∧ D.nx σ H) ∨ ((Ite K a).go i H ∧ ∃ N : St → Hp → Prop, (∀ σ' H', N σ' H' → ∃ m', m' < m ∧ W (i + 1) m' σ' H') ∧ ∀ x H', (Ite K a).yld i H x H' → g x σ H' fun σ2 H2 => tb { D with nx := N, ct := N, bk := D.nx } σ2 H2) := by
  refine ⟨fun i m σ H => m = xs.length - i ∧ i ≤ xs.length ∧ Pv i σ H, ⟨xs.length, by simp, Nat.zero_le _, h0⟩, ?_⟩
  rintro i m σ H ⟨rfl, hi, p⟩
  have q := hl i σ H hi p
  by_cases hlt : i < xs.length
  · refine .inr ⟨⟨xs, xs[i], q, by simp [hlt]⟩, Pv (i + 1), fun σ' H' p' => ⟨xs.length - (i + 1), by omega, rfl, hlt, p'⟩, fun v H' y => ?_⟩
    obtain ⟨T, x, e, hT, e2, y⟩ := y
    subst e e2
    exact hs i x T σ _ (y xs q) p hT
  · have e : i = xs.length := by omega
    subst e
    exact .inl ⟨⟨xs, q, Nat.le_refl _⟩, hd σ H p⟩
/-- a well: three numbers in a list at a -/
def Well (H : Hp) (a : Addr) (n : Int) : Prop := ∃ w0 w1 w2 : Int, H a = some (.lst [.int w0, .int w1, .int w2]) ∧ 0 ≤ w0 ∧ 0 ≤ w1 ∧ w1 < 4294967296 ∧ 0 ≤ w2 ∧ w2 ≤ n
/-- nothing but a is otherwise -/
def But (a : Addr) (H H' : Hp) : Prop := ∀ b, b ≠ a → H' b = H b
theorem But.refl (a : Addr) (H : Hp) : But a H H := fun _ _ => rfl
theorem But.trans {a : Addr} {H H1 H2 : Hp} (x : But a H H1) (y : But a H1 H2) : But a H H2 := fun b hb => (y b hb).trans (x b hb)
theorem But.upd {a : Addr} {H : Hp} {o : HO} : But a H (upd H a o) := fun b hb => upd_ne hb
theorem at0 {x y z : V} : atI [x, y, z] 0 = some x := rfl
theorem at1 {x y z : V} : atI [x, y, z] 1 = some y := rfl
theorem at2 {x y z : V} : atI [x, y, z] 2 = some z := rfl
theorem ix0 : ixN 3 0 = some 0 := rfl
theorem ix2 : ixN 3 2 = some 2 := rfl
/-- draw(well, many): a number from 0 to many - 1, the well at most one count further -/
def spDraw : Sp := fun vs H Q _ => ∃ (a : Addr) (m n : Int), vs = [.ref a, .int m] ∧ Well H a n ∧ n < 1000000 ∧ 0 < m ∧ m < 1073741824 ∧ ∀ r H', 0 ≤ r → r < m → But a H H' → Well H' a (n + 1) → Q (.int r) H'
/-- one(well, some): one of them -/
def spOne (K : PySem.W.Frag) : Sp := fun vs H Q _ => ∃ (a b : Addr) (n : Int) (xs : List V), vs = [.ref a, .ref b] ∧ Well H a n ∧ n < 1000000 ∧ a ≠ b ∧ H b = some (.lst xs) ∧ 0 < xs.length ∧ xs.length < 1000000 ∧ ∀ x H', x ∈ xs → But a H H' → Well H' a (n + 1) → Q x H'
theorem fmod_in {x m : Int} (hm : 0 < m) : 0 ≤ x.fmod m ∧ x.fmod m < m := by
  rw [Int.fmod_eq_emod_of_nonneg x (Int.le_of_lt hm)]
  exact ⟨Int.emod_nonneg _ (by omega), Int.emod_lt_of_pos _ hm⟩
theorem fdiv_in {x m : Int} (hx : 0 ≤ x) (hm : 0 < m) : 0 ≤ x.fdiv m := by
  rw [Int.fdiv_eq_ediv_of_nonneg x (Int.le_of_lt hm)]
  exact Int.ediv_nonneg hx (Int.le_of_lt hm)
theorem divN {i m : Int} (h0 : 0 < m) (h1 : m < 1073741824) : CDivN i m := ⟨by omega, by omega⟩
theorem same_upd {H : Hp} {p : Addr} {o : HO} (h : H p = none) : Same H (upd H p o) := fun b x e => by
  rw [upd_ne (ne_of_none e h)]
  exact e
theorem ba {a b : Bool} (h : (a && b) = true) : a = true ∧ b = true := Bool.and_eq_true_iff.mp h
end L2

set_option Elab.async false
set_option linter.all false
set_option maxRecDepth 100000
set_option maxHeartbeats 4000000
namespace K1
open PySem PySem.Spec PyProof.Rows L2
def top (i : Nat) : Stmt := PySem.Challenge.pw_gridlanes_k34_limited_contributions.main.body.getD i (.Pass ⟨0, 0, 0, 0⟩)
abbrev FnP (K : PySem.W.Frag) (x : Str) (st : Stmt) (f : Addr) (fd : FuncData) : Prop := FunD K x x (defArgs st) (defBody st) (defScope st) [] [] f fd
/-! ### numbers -/
def NumP (H : Hp) (v : V) (t : Int) (b : Nat) : Prop := (v = .int t ∧ b = 1) ∨ ∃ p, v = .ref p ∧ H p = some (.tup [.int t, .int (b : Int)])
def NumAt (H : Hp) (v : V) (q : Rat) : Prop := (q.den = 1 ∧ v = .int q.num) ∨ (q.den ≠ 1 ∧ ∃ p, v = .ref p ∧ H p = some (.tup [.int q.num, .int (q.den : Int)]))
theorem NumAt.p {H : Hp} {v : V} {q : Rat} (h : NumAt H v q) : NumP H v q.num q.den := by
  rcases h with ⟨e, h⟩ | ⟨_, h⟩
  · exact .inl ⟨h, e⟩
  · exact .inr h
theorem NumP.same {H H' : Hp} {v : V} {t : Int} {b : Nat} (h : NumP H v t b) (s : Same H H') : NumP H' v t b := by
  rcases h with h | ⟨p, e, h⟩
  · exact .inl h
  · exact .inr ⟨p, e, s _ _ h⟩
theorem NumAt.same {H H' : Hp} {v : V} {q : Rat} (h : NumAt H v q) (s : Same H H') : NumAt H' v q := by
  rcases h with h | ⟨n, p, e, h⟩
  · exact .inl h
  · exact .inr ⟨n, p, e, s _ _ h⟩
theorem numInt {H : Hp} (i : Int) : NumAt H (.int i) (i : Rat) := .inl ⟨Rat.den_intCast .., by rw [Rat.num_intCast]⟩
theorem mk_num {t : Int} {b : Nat} (hb : 0 < b) : (mkRat t b).num = t / ((Nat.gcd t.natAbs b : Nat) : Int) := by
  rw [Rat.num_mkRat, if_neg (by omega), Nat.gcd_comm]
theorem mk_den {t : Int} {b : Nat} (hb : 0 < b) : (mkRat t b).den = b / Nat.gcd t.natAbs b := by
  rw [Rat.den_mkRat, if_neg (by omega), Nat.gcd_comm]
theorem gcd_le {t : Int} {b : Nat} (hb : 0 < b) : 0 < Nat.gcd t.natAbs b ∧ Nat.gcd t.natAbs b ≤ b := ⟨Nat.gcd_pos_of_pos_right _ hb, Nat.gcd_le_right _ hb⟩
theorem den_one {t : Int} {b : Nat} (hb : 0 < b) : (mkRat t b).den = 1 ↔ Nat.gcd t.natAbs b = b := by
  rw [mk_den hb]
  obtain ⟨g0, g1⟩ := gcd_le (t := t) hb
  constructor
  · intro h
    have z := Nat.mul_div_cancel' (Nat.gcd_dvd_right t.natAbs b)
    rw [h, Nat.mul_one] at z
    exact z
  · intro h
    rw [h]
    exact Nat.div_self hb
/-- the values of top // g and (top // g, bottom // g), g the greatest common divisor -/
theorem mk_int {H : Hp} {t : Int} {b : Nat} (hb : 0 < b) (h : Nat.gcd t.natAbs b = b) : NumAt H (.int (t / (b : Int))) (mkRat t b) := .inl ⟨(den_one hb).mpr h, by rw [mk_num hb, h]⟩
theorem mk_tup {H : Hp} {t : Int} {b : Nat} {p : Addr} (hb : 0 < b) (h : Nat.gcd t.natAbs b ≠ b) (hp : H p = some (.tup [.int (t / ((Nat.gcd t.natAbs b : Nat) : Int)), .int ((b : Int) / ((Nat.gcd t.natAbs b : Nat) : Int))])) : NumAt H (.ref p) (mkRat t b) := by
  refine .inr ⟨fun e => h ((den_one hb).mp e), p, rfl, ?_⟩
  rw [mk_num hb, mk_den hb, Int.natCast_ediv]
  exact hp
def S2 : Nat := 2 ^ 200
def Sz (t : Int) (b : Nat) : Prop := t.natAbs < 2 ^ 98 ∧ 0 < b ∧ b < 2 ^ 98
theorem wm {i j : Int} (ha : i.natAbs < 2 ^ 98) (hb : j.natAbs < 2 ^ 98) : CMulW i j := wide_mul ha hb (by decide) (by decide) (by decide)
theorem wl {i j : Int} (ha : i.natAbs < 2 ^ 98) (hb : j.natAbs < 2 ^ 98) : (i * j).natAbs < 2 ^ 196 := wide_lt ha hb
theorem Sz.bot {t t' : Int} {b b' : Nat} (h : Sz t b) (h' : Sz t' b') : 0 < b * b' ∧ b * b' < 2 ^ 199 := by
  refine ⟨Nat.mul_pos h.2.1 h'.2.1, ?_⟩
  have : b * b' < 2 ^ 98 * 2 ^ 98 := Nat.mul_lt_mul'' h.2.2 h'.2.2
  exact Nat.lt_trans this (by decide)
theorem Sz.top {t t' : Int} {b b' : Nat} (h : Sz t b) (h' : Sz t' b') : (t * b' + t' * b).natAbs < 2 ^ 199 := by
  have h1 : (t * (b' : Int)).natAbs < 2 ^ 196 := wl h.1 h'.2.2
  have h2 : (t' * (b : Int)).natAbs < 2 ^ 196 := wl h'.1 h.2.2
  have h3 := Int.natAbs_add_le (t * (b' : Int)) (t' * (b : Int))
  omega
theorem Sz.prod {t t' : Int} {b b' : Nat} (h : Sz t b) (h' : Sz t' b') : (t * t').natAbs < 2 ^ 199 := Nat.lt_trans (wl h.1 h'.1) (by decide)
/-! ### Euclid, turn by turn -/
def eu : Nat → Nat → Nat → Nat × Nat
  | 0, a, b => (a, b)
  | n + 1, a, b => if b = 0 then eu n a b else eu n b (a % b)
theorem eu_zero : ∀ n a, eu n a 0 = (a, 0)
  | 0, _ => rfl
  | n + 1, a => by
    show (if 0 = 0 then eu n a 0 else _) = _
    rw [if_pos rfl]
    exact eu_zero n a
theorem eu_gcd : ∀ n m a b, b < 2 ^ n → eu (2 * n + 1 + m) a b = (Nat.gcd a b, 0) := by
  intro n
  induction n with
  | zero =>
    intro m a b h
    have : b = 0 := by omega
    subst this
    rw [eu_zero, Nat.gcd_zero_right]
  | succ n ih =>
    intro m a b h
    by_cases hb : b = 0
    · subst hb
      rw [eu_zero, Nat.gcd_zero_right]
    · have e : 2 * (n + 1) + 1 + m = (2 * n + 1 + m) + 1 + 1 := by omega
      rw [e]
      show (if b = 0 then _ else eu (2 * n + 1 + m + 1) b (a % b)) = _
      rw [if_neg hb]
      have hr := Nat.mod_lt a (Nat.pos_of_ne_zero hb)
      by_cases h0 : a % b = 0
      · rw [h0, eu_zero, Nat.gcd_comm, Nat.gcd_rec, h0, Nat.gcd_zero_left]
      · show (if a % b = 0 then _ else eu (2 * n + 1 + m) (a % b) (b % (a % b))) = _
        rw [if_neg h0]
        have h2 := Nat.mod_lt b (Nat.pos_of_ne_zero h0)
        have h3 : a % b + b % (a % b) ≤ b := by
          have h4 := Nat.div_add_mod b (a % b)
          have h5 : 1 ≤ b / (a % b) := (Nat.le_div_iff_mul_le (Nat.pos_of_ne_zero h0)).mpr (by omega)
          have h6 : a % b * 1 ≤ a % b * (b / (a % b)) := Nat.mul_le_mul_left _ h5
          omega
        have h7 : 2 ^ (n + 1) = 2 * 2 ^ n := by rw [Nat.pow_succ, Nat.mul_comm]
        rw [ih m _ _ (by omega), Nat.gcd_comm (a % b), ← Nat.gcd_rec, ← Nat.gcd_rec, Nat.gcd_comm b a]
section
variable {P : Program} {w : World} {K : PySem.W.Frag} {mg : Str → Option Value} {base : Heap}
structure Nm (mg : Str → Option Value) : Prop where
  isi : mg "isinstance" = none
  tint : mg "int" = none
  tbool : mg "bool" = none
  ttup : mg "tuple" = none
  tlst : mg "list" = none
  len : mg "len" = none
  abs : mg "abs" = none
  rng : mg "range" = none
  enu : mg "enumerate" = none
  zip : mg "zip" = none
  gcd : mg "gcd" = some (.builtin "math.gcd")
/-! ### the program's numbers -/
def spInt : Sp := fun vs H Q _ => ∃ i : Int, vs = [.int i] ∧ Q (.bl true) H
theorem scInt : FnScope ["value"] ["value"] (defScope (top 29)) := ⟨rfl, rfl, rfl, by decide +kernel, rfl, by decide +kernel, by decide +kernel⟩
theorem ok_int {f : Addr} {fd : FuncData} (F : FnP K "is_integer" (top 29) f fd) (N : Nm mg) : FnOk P w K mg base CX0 1 f fd ["value"] spInt := by
  refine F.ok scInt (fun vs H Q E h => ?_) (fun cdv A outer s H vs Q E hr h => ?_)
  · obtain ⟨i, rfl, _⟩ := h
    rfl
  · obtain ⟨i, rfl, k⟩ := h
    refine ⟨_, PSs.nox (pss_one (ps_ret (pe_and (pe_callB call_isi (by rfl) N.isi (by decide +kernel) (pa_cons (pv 0) (pa_cons (pe_bltn (v := .ty "int") (u := .type "int") rfl N.tint (by decide +kernel) rfl) pa_nil)))
      (pe_one (pe_not (pe_callB call_isi (by rfl) N.isi (by decide +kernel) (pa_cons (pv 0) (pa_cons (pe_bltn (v := .ty "bool") (u := .type "bool") rfl N.tbool (by decide +kernel) rfl) pa_nil)))))))), ?_⟩
    refine ⟨_, rfl, _, _, _, _, true, rfl, .ty _, .base (.int i), kit_ty (by decide +kernel), true, rfl, iteT ?_⟩
    exact ⟨_, rfl, _, _, _, _, false, rfl, .ty _, .base (.int i), kit_ty (by decide +kernel), false, rfl, k⟩
theorem bi1 {x p : Str} {i : Nat} {f : Addr} {fd : FuncData} (F : FnP K x (top i) f fd) (h : ∀ (kV doc pm : Value) (an : Option Addr) (cdv ct : Value) (u : Value), bindArgs (PySem.W.fnOf x x (defArgs (top i)) (defBody (top i)) (defScope (top i)) .none kV doc pm an cdv ct) ⟨[u], []⟩ = pure [(p, u)] := by intros; rfl) : Binds K fd [p] [] := F.bindsN fun _ _ _ _ _ _ us hl => match us, hl with | [_], _ => h _ _ _ _ _ _ _
end
end K1

set_option Elab.async false
set_option linter.all false
set_option maxRecDepth 100000
set_option maxHeartbeats 4000000
namespace K1
open PySem PySem.Spec PyProof.Rows L2
section
variable {P : Program} {w : World} {K : PySem.W.Frag} {mg : Str → Option Value} {base : Heap}
theorem bi2 {x p1 p2 : Str} {i : Nat} {f : Addr} {fd : FuncData} (F : FnP K x (top i) f fd) (h : ∀ (kV doc pm : Value) (an : Option Addr) (cdv ct : Value) (u v : Value), bindArgs (PySem.W.fnOf x x (defArgs (top i)) (defBody (top i)) (defScope (top i)) .none kV doc pm an cdv ct) ⟨[u, v], []⟩ = pure [(p1, u), (p2, v)] := by intros; rfl) : Binds K fd [p1, p2] [] := F.bindsN fun _ _ _ _ _ _ us hl => match us, hl with | [_, _], _ => h _ _ _ _ _ _ _ _
theorem bi3 {x p1 p2 p3 : Str} {i : Nat} {f : Addr} {fd : FuncData} (F : FnP K x (top i) f fd) (h : ∀ (kV doc pm : Value) (an : Option Addr) (cdv ct : Value) (u v z : Value), bindArgs (PySem.W.fnOf x x (defArgs (top i)) (defBody (top i)) (defScope (top i)) .none kV doc pm an cdv ct) ⟨[u, v, z], []⟩ = pure [(p1, u), (p2, v), (p3, z)] := by intros; rfl) : Binds K fd [p1, p2, p3] [] := F.bindsN fun _ _ _ _ _ _ us hl => match us, hl with | [_, _, _], _ => h _ _ _ _ _ _ _ _ _
/-- a def of one, two parameters as its callers need it -/
structure D1 (P : Program) (w : World) (K : PySem.W.Frag) (mg : Str → Option Value) (base : Heap) (x p : Str) (k : Nat) (sp : Sp) (f : Addr) (fd : FuncData) : Prop where
  G : FnOk P w K mg base CX0 k f fd [p] sp
  g : mg x = some (.ref f)
  kp : PySem.W.keepIn K (.ref f) = true
  b : Binds K fd [p] []
structure D2 (P : Program) (w : World) (K : PySem.W.Frag) (mg : Str → Option Value) (base : Heap) (x p q : Str) (k : Nat) (sp : Sp) (f : Addr) (fd : FuncData) : Prop where
  G : FnOk P w K mg base CX0 k f fd [p, q] sp
  g : mg x = some (.ref f)
  kp : PySem.W.keepIn K (.ref f) = true
  b : Binds K fd [p, q] []
structure D3 (P : Program) (w : World) (K : PySem.W.Frag) (mg : Str → Option Value) (base : Heap) (x p q r : Str) (k : Nat) (sp : Sp) (f : Addr) (fd : FuncData) : Prop where
  G : FnOk P w K mg base CX0 k f fd [p, q, r] sp
  g : mg x = some (.ref f)
  kp : PySem.W.keepIn K (.ref f) = true
  b : Binds K fd [p, q, r] []
def spNum : Sp := fun vs H Q _ => ∃ (v : V) (q : Rat), vs = [v] ∧ NumAt H v q ∧ Q (.bl true) H
theorem scNum : FnScope ["value"] ["value"] (defScope (top 30)) := ⟨rfl, rfl, rfl, by decide +kernel, rfl, by decide +kernel, by decide +kernel⟩
theorem red2 {q : Rat} (h : q.den ≠ 1) : 2 ≤ (q.den : Int) := by
  have := q.den_pos
  omega
theorem ok_num {f fI CM : Addr} {fd dI : FuncData} (F : FnP K "is_number" (top 30) f fd) (N : Nm mg) (gMo : mg "Moment" = some (.ref CM)) (d_is_integer : D1 P w K mg base "is_integer" "value" 1 spInt fI dI) : FnOk P w K mg base CX0 2 f fd ["value"] spNum := by
  refine F.ok scNum (fun vs H Q E h => ?_) (fun cdv A outer s H vs Q E hr h => ?_)
  · obtain ⟨v, q, rfl, _⟩ := h
    rfl
  · obtain ⟨v, q, rfl, hv, k⟩ := h
    refine ⟨_, PSs.nox (pss_cons (ps_if (pt_not (pt_val (pe_callB call_isi (by rfl) N.isi (by decide +kernel) (pa_cons (pv 0) (pa_cons (pe_bltn (v := .ty "tuple") (u := .type "tuple") (by rfl) N.ttup (by decide +kernel) rfl) pa_nil)))))
    (pss_one (ps_ret (pe_call d_is_integer.G (hr.mono (by decide)) (by rfl) d_is_integer.g d_is_integer.kp d_is_integer.b .nil pass0 (pa_cons (pv 0) pa_nil))))
    pss_nil)
  (pss_cons (ps_if (PW.pt (pw_and (pt_cmpR op_eq (pe_callB call_len_seq (by rfl) N.len PySem.boot_len (pa_cons (pv 0) pa_nil)) pe_int (nomark _)) (pw_and1 (pt_val (pe_callB call_isi (by rfl) N.isi (by decide +kernel) (pa_cons (pe_ix ix_tup (pv 0) pe_int (fun _ _ => rfl)) (pa_cons (pe_glob (by rfl) gMo (v := .ref CM) rfl) pa_nil)))))))
    (pss_one (ps_ret pe_bl))
    pss_nil)
  (pss_cons (ps_if (PW.pt (pw_or (pt_cmpR op_ne (pe_callB call_len_seq (by rfl) N.len PySem.boot_len (pa_cons (pv 0) pa_nil)) pe_int (nomark _)) (pw_or (pt_not (pt_val (pe_call d_is_integer.G (hr.mono (by decide)) (by rfl) d_is_integer.g d_is_integer.kp d_is_integer.b .nil pass0 (pa_cons (pe_ix ix_tup (pv 0) pe_int (fun _ _ => rfl)) pa_nil)))) (pw_or1 (pt_not (pt_val (pe_call d_is_integer.G (hr.mono (by decide)) (by rfl) d_is_integer.g d_is_integer.kp d_is_integer.b .nil pass0 (pa_cons (pe_ix ix_tup (pv 0) pe_int (fun _ _ => rfl)) pa_nil))))))))
    (pss_one (ps_ret pe_bl))
    pss_nil)
  (pss_one (ps_ret (pe_and (pe_cmpR op_ge (pe_ix ix_tup (pv 0) pe_int (fun _ _ => rfl)) pe_int (nomark _)) (pe_one (pe_cmpR op_eq (pe_callBfun cr_gcd (by rfl) N.gcd (pa_cons (pe_ix ix_tup (pv 0) pe_int (fun _ _ => rfl)) (pa_cons (pe_ix ix_tup (pv 0) pe_int (fun _ _ => rfl)) pa_nil))) pe_int (nomark _))))))))), ?_⟩
    rcases hv with ⟨e, rfl⟩ | ⟨e, p, rfl, hp⟩
    · refine ⟨_, rfl, _, _, _, _, false, rfl, .ty _, .base (.int _), kit_ty (by decide +kernel), false, rfl, iteT ?_⟩
      exact ⟨_, rfl, _, rfl, k⟩
    · have ht : SqT K H p [.int q.num, .int (q.den : Int)] := SqT.of hp
      refine ⟨_, rfl, _, _, _, _, true, rfl, .ty _, .base (.tup hp), kit_ty (by decide +kernel), true, rfl, iteF ?_⟩
      refine ⟨_, rfl, p, _, rfl, .inr ht, rfl, _, rfl, iteF (iteF ?_)⟩
      refine ⟨_, rfl, p, _, rfl, .inr ht, rfl, _, rfl, iteNS rfl ?_⟩
      refine ⟨_, rfl, p, _, _, _, rfl, rfl, ht, rfl, _, rfl, true, rfl, iteF ?_⟩
      refine ⟨_, rfl, p, _, _, _, rfl, rfl, ht, rfl, _, rfl, true, rfl, iteF ?_⟩
      refine ⟨_, rfl, p, _, _, _, rfl, rfl, ht, rfl, _, _, rfl, rfl, true, ?_, iteT ?_⟩
      · exact congrArg V.bl (decide_eq_true (red2 e))
      refine ⟨_, rfl, p, _, _, _, rfl, rfl, ht, rfl, _, rfl, p, _, _, _, rfl, rfl, ht, rfl, _, _, rfl, rfl, ?_⟩
      have hg : Nat.gcd q.num.natAbs q.den = 1 := q.reduced
      show Q (.bl (decide (V.int ((Nat.gcd q.num.natAbs q.den : Nat) : Int) = V.int 1))) H
      rw [hg]
      exact k
/-! fraction_of, number_of -/
def spPair : Sp := fun vs H Q _ => ∃ (v : V) (t : Int) (b : Nat), vs = [v] ∧ NumP H v t b ∧ ∀ H' p, Same H H' → H' p = some (.tup [.int t, .int (b : Int)]) → Q (.ref p) H'
theorem scFrac : FnScope ["number"] ["number"] (defScope (top 32)) := ⟨rfl, rfl, rfl, by decide +kernel, rfl, by decide +kernel, by decide +kernel⟩
theorem ok_frac {f : Addr} {fd : FuncData} (F : FnP K "fraction_of" (top 32) f fd) (N : Nm mg) : FnOk P w K mg base CX0 1 f fd ["number"] spPair := by
  refine F.ok scFrac (fun vs H Q E h => ?_) (fun cdv A outer s H vs Q E hr h => ?_)
  · obtain ⟨v, t, b, rfl, _⟩ := h
    rfl
  · obtain ⟨v, t, b, rfl, hv, k⟩ := h
    refine ⟨_, PSs.nox (pss_cons (ps_if (pt_val (pe_callB call_isi (by rfl) N.isi (by decide +kernel) (pa_cons (pv 0) (pa_cons (pe_bltn (v := .ty "tuple") (u := .type "tuple") (by rfl) N.ttup (by decide +kernel) rfl) pa_nil))))
    (pss_one (ps_ret (pv 0)))
    pss_nil)
  (pss_one (ps_ret (pe_tup (pa_cons (pv 0) (pa_cons pe_int pa_nil)))))), ?_⟩
    rcases hv with ⟨rfl, rfl⟩ | ⟨p, rfl, hp⟩
    · refine ⟨_, rfl, _, _, _, _, false, rfl, .ty _, .base (.int _), kit_ty (by decide +kernel), false, rfl, iteF ?_⟩
      exact ⟨_, rfl, (by show 2 ≤ sizeLine; decide), fun q nq => k _ _ (same_upd nq) upd_same⟩
    · refine ⟨_, rfl, _, _, _, _, true, rfl, .ty _, .base (.tup hp), kit_ty (by decide +kernel), true, rfl, iteT ?_⟩
      exact ⟨_, rfl, k _ _ (Same.refl H) hp⟩
def spMkN : Sp := fun vs H Q _ => ∃ (t : Int) (b : Nat), vs = [.int t, .int (b : Int)] ∧ 0 < b ∧ b < 2 ^ 199 ∧ ∀ H' v, Same H H' → NumAt H' v (mkRat t b) → Q v H'
theorem scNof : FnScope ["top", "bottom", "common"] ["top", "bottom"] (defScope (top 33)) := ⟨rfl, rfl, rfl, by decide +kernel, rfl, by decide +kernel, by decide +kernel⟩
theorem gw {g b : Nat} (h0 : 0 < g) (h : g ≤ b) (hb : b < 2 ^ 199) (i : Int) : CDivW i (g : Int) := wide_div (b := 199) (Int.natCast_pos.mpr h0) (by rw [Int.natAbs_natCast]; exact Nat.lt_of_le_of_lt h hb) (by decide) (by decide)
theorem ok_nof {f : Addr} {fd : FuncData} (F : FnP K "number_of" (top 33) f fd) (N : Nm mg) : FnOk P w K mg base CX0 1 f fd ["top", "bottom"] spMkN := by
  refine F.ok scNof (fun vs H Q E h => ?_) (fun cdv A outer s H vs Q E hr h => ?_)
  · obtain ⟨t, b, rfl, _⟩ := h
    rfl
  · obtain ⟨t, b, rfl, b0, b1, k⟩ := h
    obtain ⟨g0, g1⟩ := gcd_le (t := t) b0
    refine ⟨_, PSs.nox (pss_cons (ps_set (i := 2) scNof.nd rfl (Or.inl rfl) (pe_callBfun cr_gcd (by rfl) N.gcd (pa_cons (pv 0) (pa_cons (pv 1) pa_nil))))
  (pss_cons (ps_if (pt_cmpR op_eq (pv 2) (pv 1) (nomark _))
    (pss_one (ps_ret (pe_op op_fdivW (pv 0) (pv 1))))
    pss_nil)
  (pss_one (ps_ret (pe_tup (pa_cons (pe_op op_fdivW (pv 0) (pv 2)) (pa_cons (pe_op op_fdivW (pv 1) (pv 2)) pa_nil))))))), ?_⟩
    refine ⟨_, rfl, _, rfl, _, _, rfl, ?_⟩
    refine ⟨_, rfl, _, rfl, rfl, _, rfl, ite2 (fun c => ?_) (fun c => ?_)⟩
    · have c : V.int ((Nat.gcd t.natAbs b : Nat) : Int) = V.int (b : Int) := of_decide_eq_true c
      have c' : Nat.gcd t.natAbs b = b := by
        injection c with c
        omega
      exact ⟨_, rfl, _, rfl, _, _, rfl, rfl, gw b0 (Nat.le_refl b) b1 _, k _ _ (Same.refl H) (mk_int b0 c')⟩
    · have c' : Nat.gcd t.natAbs b ≠ b := fun e => c (decide_eq_true (show V.int ((Nat.gcd t.natAbs b : Nat) : Int) = V.int (b : Int) by rw [e]))
      refine ⟨_, rfl, _, rfl, _, _, rfl, rfl, gw g0 g1 b1 _, _, rfl, _, rfl, _, _, rfl, rfl, gw g0 g1 b1 _, (by show 2 ≤ sizeLine; decide), fun q nq => ?_⟩
      exact k _ _ (same_upd nq) (mk_tup b0 c' upd_same)
/-! at_most, plus, times, is_length -/
theorem mk_one {H : Hp} (t : Int) : NumAt H (.int t) (mkRat t 1) := by
  have := mk_int (H := H) (t := t) (b := 1) (by decide) (Nat.gcd_one_right _)
  rw [show t / ((1 : Nat) : Int) = t from Int.ediv_one t] at this
  exact this
def sp2 (R : Int → Nat → Int → Nat → Hp → VK → Prop) : Sp := fun vs H Q _ => ∃ (v v' : V) (t t' : Int) (b b' : Nat), vs = [v, v'] ∧ NumP H v t b ∧ NumP H v' t' b' ∧ Sz t b ∧ Sz t' b' ∧ R t b t' b' H Q
def spLe : Sp := sp2 fun t b t' b' H Q => ∀ H', Same H H' → Q (.bl (decide (t * b' ≤ t' * b))) H'
def spLt : Sp := sp2 fun t b t' b' H Q => ∀ H', Same H H' → Q (.bl (decide (t * b' < t' * b))) H'
def spPlus : Sp := sp2 fun t b t' b' H Q => ∀ H' v, Same H H' → NumAt H' v (mkRat (t * b' + t' * b) (b * b')) → Q v H'
def spTimes : Sp := sp2 fun t b t' b' H Q => ∀ H' v, Same H H' → NumAt H' v (mkRat (t * t') (b * b')) → Q v H'
def spMov : Sp := fun vs H Q _ => ∃ (v : V) (t : Int) (b : Nat), vs = [v] ∧ NumP H v t b ∧ Q (.bl false) H
theorem scMov : FnScope ["number"] ["number"] (defScope (top 34)) := ⟨rfl, rfl, rfl, by decide +kernel, rfl, by decide +kernel, by decide +kernel⟩
theorem ok_mov {f : Addr} {fd : FuncData} (F : FnP K "is_moving" (top 34) f fd) (N : Nm mg) : FnOk P w K mg base CX0 1 f fd ["number"] spMov := by
  refine F.ok scMov (fun vs H Q E h => ?_) (fun cdv A outer s H vs Q E hr h => ?_)
  · obtain ⟨v, t, b, rfl, _⟩ := h
    rfl
  · obtain ⟨v, t, b, rfl, hv, k⟩ := h
    refine ⟨_, PSs.nox (pss_one (ps_ret (pe_and (pe_callB call_isi (by rfl) N.isi (by decide +kernel) (pa_cons (pv 0) (pa_cons (pe_bltn (v := .ty "tuple") (u := .type "tuple") (by rfl) N.ttup (by decide +kernel) rfl) pa_nil))) (pe_one (pe_cmpR op_eq (pe_callB call_len_seq (by rfl) N.len PySem.boot_len (pa_cons (pv 0) pa_nil)) pe_int (nomark _)))))), ?_⟩
    rcases hv with ⟨rfl, rfl⟩ | ⟨p, rfl, hp⟩
    · exact ⟨_, rfl, _, _, _, _, false, rfl, .ty _, .base (.int _), kit_ty (by decide +kernel), false, rfl, iteF k⟩
    · refine ⟨_, rfl, _, _, _, _, true, rfl, .ty _, .base (.tup hp), kit_ty (by decide +kernel), true, rfl, iteT ?_⟩
      exact ⟨_, rfl, p, _, rfl, .inr (SqT.of hp), rfl, k⟩
theorem scLe : FnScope ["one", "other", "one_top", "one_bottom", "other_top", "other_bottom"] ["one", "other"] (defScope (top 41)) := ⟨rfl, rfl, rfl, by decide +kernel, rfl, by decide +kernel, by decide +kernel⟩
theorem ok_le {f fM fP : Addr} {fd dM dP : FuncData} (F : FnP K "at_most" (top 41) f fd) (N : Nm mg) (d_is_moving : D1 P w K mg base "is_moving" "number" 1 spMov fM dM) (d_fraction_of : D1 P w K mg base "fraction_of" "number" 1 spPair fP dP) : FnOk P w K mg base CX0 2 f fd ["one", "other"] spLe := by
  refine F.ok scLe (fun vs H Q E h => ?_) (fun cdv A outer s H vs Q E hr h => ?_)
  · obtain ⟨v, v', t, t', b, b', rfl, _⟩ := h
    rfl
  · obtain ⟨v, v', t, t', b, b', rfl, hv, hv', z, z', k⟩ := h
    refine ⟨_, PSs.nox (pss_cons (ps_if (PW.pt (pw_and (pt_val (pe_callB call_isi (by rfl) N.isi (by decide +kernel) (pa_cons (pv 0) (pa_cons (pe_bltn (v := .ty "int") (u := .type "int") (by rfl) N.tint (by decide +kernel) rfl) pa_nil)))) (pw_and1 (pt_val (pe_callB call_isi (by rfl) N.isi (by decide +kernel) (pa_cons (pv 1) (pa_cons (pe_bltn (v := .ty "int") (u := .type "int") (by rfl) N.tint (by decide +kernel) rfl) pa_nil)))))))
    (pss_one (ps_ret (pe_cmpR op_le (pv 0) (pv 1) (nomark _))))
    pss_nil)
  (pss_cons (ps_if (PW.pt (pw_or (pt_val (pe_call d_is_moving.G (hr.mono (by decide)) (by rfl) d_is_moving.g d_is_moving.kp d_is_moving.b .nil pass0 (pa_cons (pv 0) pa_nil))) (pw_or1 (pt_val (pe_call d_is_moving.G (hr.mono (by decide)) (by rfl) d_is_moving.g d_is_moving.kp d_is_moving.b .nil pass0 (pa_cons (pv 1) pa_nil))))))
    pss_never
    pss_nil)
  (pss_cons (ps_asg (pe_call d_fraction_of.G (hr.mono (by decide)) (by rfl) d_fraction_of.g d_fraction_of.kp d_fraction_of.b .nil pass0 (pa_cons (pv 0) pa_nil)) (pg_tup rfl (pgs_cons (pg_name (i := 2) scLe.nd rfl (Or.inl rfl)) (pgs_cons (pg_name (i := 3) scLe.nd rfl (Or.inl rfl)) pgs_nil))))
  (pss_cons (ps_asg (pe_call d_fraction_of.G (hr.mono (by decide)) (by rfl) d_fraction_of.g d_fraction_of.kp d_fraction_of.b .nil pass0 (pa_cons (pv 1) pa_nil)) (pg_tup rfl (pgs_cons (pg_name (i := 4) scLe.nd rfl (Or.inl rfl)) (pgs_cons (pg_name (i := 5) scLe.nd rfl (Or.inl rfl)) pgs_nil))))
  (pss_one (ps_ret (pe_cmpR op_le (pe_op op_mulW (pv 2) (pv 5)) (pe_op op_mulW (pv 4) (pv 3)) (nomark _)))))))), ?_⟩
    have hw := hv
    have hw' := hv'
    rcases hv with ⟨rfl, rfl⟩ | ⟨p, rfl, hp⟩
    · refine ⟨_, rfl, _, _, _, _, true, rfl, .ty _, .base (.int _), kit_ty (by decide +kernel), true, rfl, iteT ?_⟩
      rcases hv' with ⟨rfl, rfl⟩ | ⟨p', rfl, hp'⟩
      · refine ⟨_, rfl, _, _, _, _, true, rfl, .ty _, .base (.int _), kit_ty (by decide +kernel), true, rfl, iteT ?_⟩
        refine ⟨_, rfl, _, rfl, _, _, rfl, rfl, ?_⟩
        have q := k H (Same.refl H)
        rw [show decide (t * ((1 : Nat) : Int) ≤ t' * ((1 : Nat) : Int)) = decide (t ≤ t') from decide_eq_decide.mpr (by omega)] at q
        exact q
      · refine ⟨_, rfl, _, _, _, _, false, rfl, .ty _, .base (.tup hp'), kit_ty (by decide +kernel), false, rfl, iteF ?_⟩
        refine ⟨_, rfl, _, _, _, rfl, hw, false, rfl, iteF ?_⟩
        refine ⟨_, rfl, _, _, _, rfl, hw', false, rfl, iteF ?_⟩
        refine ⟨_, rfl, _, _, _, rfl, hw, fun H1 p1 s1 e1 => ⟨p1, _, rfl, SqT.of e1, rfl, _, _, rfl, _, _, rfl, rfl, ?_⟩⟩
        refine ⟨_, rfl, _, _, _, rfl, hw'.same s1, fun H2 p2 s2 e2 => ⟨p2, _, rfl, SqT.of e2, rfl, _, _, rfl, _, _, rfl, rfl, ?_⟩⟩
        exact ⟨_, rfl, _, rfl, _, _, rfl, rfl, wm z.1 z'.2.2, _, rfl, _, rfl, _, _, rfl, rfl, wm z'.1 z.2.2, _, _, rfl, rfl, k _ (s1.trans s2)⟩
    · refine ⟨_, rfl, _, _, _, _, false, rfl, .ty _, .base (.tup hp), kit_ty (by decide +kernel), false, rfl, iteF (iteF ?_)⟩
      refine ⟨_, rfl, _, _, _, rfl, hw, false, rfl, iteF ?_⟩
      refine ⟨_, rfl, _, _, _, rfl, hw', false, rfl, iteF ?_⟩
      refine ⟨_, rfl, _, _, _, rfl, hw, fun H1 p1 s1 e1 => ⟨p1, _, rfl, SqT.of e1, rfl, _, _, rfl, _, _, rfl, rfl, ?_⟩⟩
      refine ⟨_, rfl, _, _, _, rfl, hw'.same s1, fun H2 p2 s2 e2 => ⟨p2, _, rfl, SqT.of e2, rfl, _, _, rfl, _, _, rfl, rfl, ?_⟩⟩
      exact ⟨_, rfl, _, rfl, _, _, rfl, rfl, wm z.1 z'.2.2, _, rfl, _, rfl, _, _, rfl, rfl, wm z'.1 z.2.2, _, _, rfl, rfl, k _ (s1.trans s2)⟩
theorem scPlus : FnScope ["one", "other", "one_top", "one_bottom", "other_top", "other_bottom"] ["one", "other"] (defScope (top 44)) := ⟨rfl, rfl, rfl, by decide +kernel, rfl, by decide +kernel, by decide +kernel⟩
theorem ok_plus {f fM fP fN : Addr} {fd dM dP dN : FuncData} (F : FnP K "plus" (top 44) f fd) (N : Nm mg) (d_is_moving : D1 P w K mg base "is_moving" "number" 1 spMov fM dM) (d_fraction_of : D1 P w K mg base "fraction_of" "number" 1 spPair fP dP) (d_number_of : D2 P w K mg base "number_of" "top" "bottom" 1 spMkN fN dN) : FnOk P w K mg base CX0 2 f fd ["one", "other"] spPlus := by
  refine F.ok scPlus (fun vs H Q E h => ?_) (fun cdv A outer s H vs Q E hr h => ?_)
  · obtain ⟨v, v', t, t', b, b', rfl, _⟩ := h
    rfl
  · obtain ⟨v, v', t, t', b, b', rfl, hv, hv', z, z', k⟩ := h
    refine ⟨_, PSs.nox (pss_cons (ps_if (PW.pt (pw_and (pt_val (pe_callB call_isi (by rfl) N.isi (by decide +kernel) (pa_cons (pv 0) (pa_cons (pe_bltn (v := .ty "int") (u := .type "int") (by rfl) N.tint (by decide +kernel) rfl) pa_nil)))) (pw_and1 (pt_val (pe_callB call_isi (by rfl) N.isi (by decide +kernel) (pa_cons (pv 1) (pa_cons (pe_bltn (v := .ty "int") (u := .type "int") (by rfl) N.tint (by decide +kernel) rfl) pa_nil)))))))
    (pss_one (ps_ret (pe_op op_add (pv 0) (pv 1))))
    pss_nil)
  (pss_cons (ps_if (PW.pt (pw_or (pt_val (pe_call d_is_moving.G (hr.mono (by decide)) (by rfl) d_is_moving.g d_is_moving.kp d_is_moving.b .nil pass0 (pa_cons (pv 0) pa_nil))) (pw_or1 (pt_val (pe_call d_is_moving.G (hr.mono (by decide)) (by rfl) d_is_moving.g d_is_moving.kp d_is_moving.b .nil pass0 (pa_cons (pv 1) pa_nil))))))
    pss_never
    pss_nil)
  (pss_cons (ps_asg (pe_call d_fraction_of.G (hr.mono (by decide)) (by rfl) d_fraction_of.g d_fraction_of.kp d_fraction_of.b .nil pass0 (pa_cons (pv 0) pa_nil)) (pg_tup rfl (pgs_cons (pg_name (i := 2) scPlus.nd rfl (Or.inl rfl)) (pgs_cons (pg_name (i := 3) scPlus.nd rfl (Or.inl rfl)) pgs_nil))))
  (pss_cons (ps_asg (pe_call d_fraction_of.G (hr.mono (by decide)) (by rfl) d_fraction_of.g d_fraction_of.kp d_fraction_of.b .nil pass0 (pa_cons (pv 1) pa_nil)) (pg_tup rfl (pgs_cons (pg_name (i := 4) scPlus.nd rfl (Or.inl rfl)) (pgs_cons (pg_name (i := 5) scPlus.nd rfl (Or.inl rfl)) pgs_nil))))
  (pss_one (ps_ret (pe_call d_number_of.G (hr.mono (by decide)) (by rfl) d_number_of.g d_number_of.kp d_number_of.b .nil pass0 (pa_cons (pe_op op_add (pe_op op_mulW (pv 2) (pv 5)) (pe_op op_mulW (pv 4) (pv 3))) (pa_cons (pe_op op_mulW (pv 3) (pv 5)) pa_nil))))))))), ?_⟩
    have hw := hv
    have hw' := hv'
    rcases hv with ⟨rfl, rfl⟩ | ⟨p, rfl, hp⟩
    · refine ⟨_, rfl, _, _, _, _, true, rfl, .ty _, .base (.int _), kit_ty (by decide +kernel), true, rfl, iteT ?_⟩
      rcases hv' with ⟨rfl, rfl⟩ | ⟨p', rfl, hp'⟩
      · refine ⟨_, rfl, _, _, _, _, true, rfl, .ty _, .base (.int _), kit_ty (by decide +kernel), true, rfl, iteT ?_⟩
        refine ⟨_, rfl, _, rfl, _, _, rfl, rfl, ?_⟩
        refine k _ _ (Same.refl H) ?_
        rw [show t * ((1 : Nat) : Int) + t' * ((1 : Nat) : Int) = t + t' by omega]
        exact mk_one _
      · refine ⟨_, rfl, _, _, _, _, false, rfl, .ty _, .base (.tup hp'), kit_ty (by decide +kernel), false, rfl, iteF ?_⟩
        refine ⟨_, rfl, _, _, _, rfl, hw, false, rfl, iteF ?_⟩
        refine ⟨_, rfl, _, _, _, rfl, hw', false, rfl, iteF ?_⟩
        refine ⟨_, rfl, _, _, _, rfl, hw, fun H1 p1 s1 e1 => ⟨p1, _, rfl, SqT.of e1, rfl, _, _, rfl, _, _, rfl, rfl, ?_⟩⟩
        refine ⟨_, rfl, _, _, _, rfl, hw'.same s1, fun H2 p2 s2 e2 => ⟨p2, _, rfl, SqT.of e2, rfl, _, _, rfl, _, _, rfl, rfl, ?_⟩⟩
        refine ⟨_, rfl, _, rfl, _, _, rfl, rfl, wm z.1 z'.2.2, _, rfl, _, rfl, _, _, rfl, rfl, wm z'.1 z.2.2, _, _, rfl, rfl, _, rfl, _, rfl, _, _, rfl, rfl, wm z.2.2 z'.2.2, ?_⟩
        exact ⟨t * b' + t' * ((1 : Nat) : Int), 1 * b', rfl, (z.bot z').1, (z.bot z').2, fun H3 v3 s3 e3 => k _ _ ((s1.trans s2).trans s3) e3⟩
    · refine ⟨_, rfl, _, _, _, _, false, rfl, .ty _, .base (.tup hp), kit_ty (by decide +kernel), false, rfl, iteF (iteF ?_)⟩
      refine ⟨_, rfl, _, _, _, rfl, hw, false, rfl, iteF ?_⟩
      refine ⟨_, rfl, _, _, _, rfl, hw', false, rfl, iteF ?_⟩
      refine ⟨_, rfl, _, _, _, rfl, hw, fun H1 p1 s1 e1 => ⟨p1, _, rfl, SqT.of e1, rfl, _, _, rfl, _, _, rfl, rfl, ?_⟩⟩
      refine ⟨_, rfl, _, _, _, rfl, hw'.same s1, fun H2 p2 s2 e2 => ⟨p2, _, rfl, SqT.of e2, rfl, _, _, rfl, _, _, rfl, rfl, ?_⟩⟩
      refine ⟨_, rfl, _, rfl, _, _, rfl, rfl, wm z.1 z'.2.2, _, rfl, _, rfl, _, _, rfl, rfl, wm z'.1 z.2.2, _, _, rfl, rfl, _, rfl, _, rfl, _, _, rfl, rfl, wm z.2.2 z'.2.2, ?_⟩
      exact ⟨t * b' + t' * b, b * b', rfl, (z.bot z').1, (z.bot z').2, fun H3 v3 s3 e3 => k _ _ ((s1.trans s2).trans s3) e3⟩
theorem scTimes : FnScope ["one", "other", "one_top", "one_bottom", "other_top", "other_bottom"] ["one", "other"] (defScope (top 46)) := ⟨rfl, rfl, rfl, by decide +kernel, rfl, by decide +kernel, by decide +kernel⟩
theorem ok_times {f fM fP fN : Addr} {fd dM dP dN : FuncData} (F : FnP K "times" (top 46) f fd) (N : Nm mg) (d_is_moving : D1 P w K mg base "is_moving" "number" 1 spMov fM dM) (d_fraction_of : D1 P w K mg base "fraction_of" "number" 1 spPair fP dP) (d_number_of : D2 P w K mg base "number_of" "top" "bottom" 1 spMkN fN dN) : FnOk P w K mg base CX0 2 f fd ["one", "other"] spTimes := by
  refine F.ok scTimes (fun vs H Q E h => ?_) (fun cdv A outer s H vs Q E hr h => ?_)
  · obtain ⟨v, v', t, t', b, b', rfl, _⟩ := h
    rfl
  · obtain ⟨v, v', t, t', b, b', rfl, hv, hv', z, z', k⟩ := h
    refine ⟨_, PSs.nox (pss_cons (ps_if (PW.pt (pw_and (pt_val (pe_callB call_isi (by rfl) N.isi (by decide +kernel) (pa_cons (pv 0) (pa_cons (pe_bltn (v := .ty "int") (u := .type "int") (by rfl) N.tint (by decide +kernel) rfl) pa_nil)))) (pw_and1 (pt_val (pe_callB call_isi (by rfl) N.isi (by decide +kernel) (pa_cons (pv 1) (pa_cons (pe_bltn (v := .ty "int") (u := .type "int") (by rfl) N.tint (by decide +kernel) rfl) pa_nil)))))))
    (pss_one (ps_ret (pe_op op_mulW (pv 0) (pv 1))))
    pss_nil)
  (pss_cons (ps_if (pt_val (pe_call d_is_moving.G (hr.mono (by decide)) (by rfl) d_is_moving.g d_is_moving.kp d_is_moving.b .nil pass0 (pa_cons (pv 0) pa_nil)))
    pss_never
    pss_nil)
  (pss_cons (ps_if (pt_val (pe_call d_is_moving.G (hr.mono (by decide)) (by rfl) d_is_moving.g d_is_moving.kp d_is_moving.b .nil pass0 (pa_cons (pv 1) pa_nil)))
    pss_never
    pss_nil)
  (pss_cons (ps_asg (pe_call d_fraction_of.G (hr.mono (by decide)) (by rfl) d_fraction_of.g d_fraction_of.kp d_fraction_of.b .nil pass0 (pa_cons (pv 0) pa_nil)) (pg_tup rfl (pgs_cons (pg_name (i := 2) scTimes.nd rfl (Or.inl rfl)) (pgs_cons (pg_name (i := 3) scTimes.nd rfl (Or.inl rfl)) pgs_nil))))
  (pss_cons (ps_asg (pe_call d_fraction_of.G (hr.mono (by decide)) (by rfl) d_fraction_of.g d_fraction_of.kp d_fraction_of.b .nil pass0 (pa_cons (pv 1) pa_nil)) (pg_tup rfl (pgs_cons (pg_name (i := 4) scTimes.nd rfl (Or.inl rfl)) (pgs_cons (pg_name (i := 5) scTimes.nd rfl (Or.inl rfl)) pgs_nil))))
  (pss_one (ps_ret (pe_call d_number_of.G (hr.mono (by decide)) (by rfl) d_number_of.g d_number_of.kp d_number_of.b .nil pass0 (pa_cons (pe_op op_mulW (pv 2) (pv 4)) (pa_cons (pe_op op_mulW (pv 3) (pv 5)) pa_nil)))))))))), ?_⟩
    have hw := hv
    have hw' := hv'
    rcases hv with ⟨rfl, rfl⟩ | ⟨p, rfl, hp⟩
    · refine ⟨_, rfl, _, _, _, _, true, rfl, .ty _, .base (.int _), kit_ty (by decide +kernel), true, rfl, iteT ?_⟩
      rcases hv' with ⟨rfl, rfl⟩ | ⟨p', rfl, hp'⟩
      · refine ⟨_, rfl, _, _, _, _, true, rfl, .ty _, .base (.int _), kit_ty (by decide +kernel), true, rfl, iteT ?_⟩
        refine ⟨_, rfl, _, rfl, _, _, rfl, rfl, wm z.1 z'.1, ?_⟩
        exact k _ _ (Same.refl H) (mk_one _)
      · refine ⟨_, rfl, _, _, _, _, false, rfl, .ty _, .base (.tup hp'), kit_ty (by decide +kernel), false, rfl, iteF ?_⟩
        refine ⟨_, rfl, _, _, _, rfl, hw, false, rfl, iteF ?_⟩
        refine ⟨_, rfl, _, _, _, rfl, hw', false, rfl, iteF ?_⟩
        refine ⟨_, rfl, _, _, _, rfl, hw, fun H1 p1 s1 e1 => ⟨p1, _, rfl, SqT.of e1, rfl, _, _, rfl, _, _, rfl, rfl, ?_⟩⟩
        refine ⟨_, rfl, _, _, _, rfl, hw'.same s1, fun H2 p2 s2 e2 => ⟨p2, _, rfl, SqT.of e2, rfl, _, _, rfl, _, _, rfl, rfl, ?_⟩⟩
        refine ⟨_, rfl, _, rfl, _, _, rfl, rfl, wm z.1 z'.1, _, rfl, _, rfl, _, _, rfl, rfl, wm z.2.2 z'.2.2, ?_⟩
        exact ⟨t * t', 1 * b', rfl, (z.bot z').1, (z.bot z').2, fun H3 v3 s3 e3 => k _ _ ((s1.trans s2).trans s3) e3⟩
    · refine ⟨_, rfl, _, _, _, _, false, rfl, .ty _, .base (.tup hp), kit_ty (by decide +kernel), false, rfl, iteF (iteF ?_)⟩
      refine ⟨_, rfl, _, _, _, rfl, hw, false, rfl, iteF ?_⟩
      refine ⟨_, rfl, _, _, _, rfl, hw', false, rfl, iteF ?_⟩
      refine ⟨_, rfl, _, _, _, rfl, hw, fun H1 p1 s1 e1 => ⟨p1, _, rfl, SqT.of e1, rfl, _, _, rfl, _, _, rfl, rfl, ?_⟩⟩
      refine ⟨_, rfl, _, _, _, rfl, hw'.same s1, fun H2 p2 s2 e2 => ⟨p2, _, rfl, SqT.of e2, rfl, _, _, rfl, _, _, rfl, rfl, ?_⟩⟩
      refine ⟨_, rfl, _, rfl, _, _, rfl, rfl, wm z.1 z'.1, _, rfl, _, rfl, _, _, rfl, rfl, wm z.2.2 z'.2.2, ?_⟩
      exact ⟨t * t', b * b', rfl, (z.bot z').1, (z.bot z').2, fun H3 v3 s3 e3 => k _ _ ((s1.trans s2).trans s3) e3⟩
/-- a number as a Rat, not below 0, of no great size -/
def Len (q : Rat) : Prop := 0 ≤ q.num ∧ Sz q.num q.den
def spLen : Sp := fun vs H Q _ => ∃ (v : V) (q : Rat), vs = [v] ∧ NumAt H v q ∧ Len q ∧ ∀ H', Same H H' → Q (.bl true) H'
theorem scLen : FnScope ["value"] ["value"] (defScope (top 31)) := ⟨rfl, rfl, rfl, by decide +kernel, rfl, by decide +kernel, by decide +kernel⟩
theorem ok_len {f fN fL : Addr} {fd dN dL : FuncData} (F : FnP K "is_length" (top 31) f fd) (d_is_number : D1 P w K mg base "is_number" "value" 2 spNum fN dN) (d_at_most : D2 P w K mg base "at_most" "one" "other" 2 spLe fL dL) : FnOk P w K mg base CX0 3 f fd ["value"] spLen := by
  refine F.ok scLen (fun vs H Q E h => ?_) (fun cdv A outer s H vs Q E hr h => ?_)
  · obtain ⟨v, q, rfl, _⟩ := h
    rfl
  · obtain ⟨v, q, rfl, hv, hl, k⟩ := h
    refine ⟨_, PSs.nox (pss_one (ps_ret (pe_and (pe_call d_is_number.G (hr.mono (by decide)) (by rfl) d_is_number.g d_is_number.kp d_is_number.b .nil pass0 (pa_cons (pv 0) pa_nil)) (pe_one (pe_call d_at_most.G (hr.mono (by decide)) (by rfl) d_at_most.g d_at_most.kp d_at_most.b .nil pass0 (pa_cons pe_int (pa_cons (pv 0) pa_nil))))))), ?_⟩
    refine ⟨_, rfl, _, q, rfl, hv, true, rfl, iteT ?_⟩
    refine ⟨_, rfl, .int 0, v, 0, q.num, 1, q.den, rfl, .inl ⟨rfl, rfl⟩, hv.p, ⟨by decide, by decide, by decide⟩, hl.2, fun H' s' => ?_⟩
    rw [decide_eq_true (by have := hl.1; omega)]
    exact k _ s'
end
end K1

set_option Elab.async false
set_option linter.all false
set_option maxRecDepth 100000
set_option maxHeartbeats 4000000
namespace K1
open PySem PySem.Spec PyProof.Rows L2
section
variable {P : Program} {w : World} {K : PySem.W.Frag} {mg : Str → Option Value} {base : Heap}
end
end K1

set_option Elab.async false
set_option linter.all false
set_option maxRecDepth 100000
set_option maxHeartbeats 4000000
namespace K1
open PySem PySem.Spec PyProof.Rows L2
/-! ### lengths over one bottom -/
def Fr (D B : Nat) (q : Rat) : Prop := ∃ k : Nat, k ≤ B ∧ q = mkRat (k : Int) D
theorem Fr.mono {D B B' : Nat} {q : Rat} (h : Fr D B q) (l : B ≤ B') : Fr D B' q := by
  obtain ⟨k, hk, e⟩ := h
  exact ⟨k, Nat.le_trans hk l, e⟩
theorem Fr.zero {D B : Nat} : Fr D B 0 := ⟨0, Nat.zero_le _, (Rat.zero_mkRat D).symm⟩
theorem Fr.add {D B B' : Nat} {q r : Rat} (hD : 0 < D) (h : Fr D B q) (h' : Fr D B' r) : Fr D (B + B') (q + r) := by
  obtain ⟨k, hk, rfl⟩ := h
  obtain ⟨k', hk', rfl⟩ := h'
  refine ⟨k + k', Nat.add_le_add hk hk', ?_⟩
  rw [Rat.mkRat_add_mkRat _ _ (by omega) (by omega), ← Int.add_mul, Rat.mkRat_mul_right (by omega), Int.natCast_add]
theorem Fr.scale {D B c : Nat} {q : Rat} (hc : 0 < c) (h : Fr D B q) : Fr (D * c) (B * c) q := by
  obtain ⟨k, hk, rfl⟩ := h
  refine ⟨k * c, Nat.mul_le_mul_right _ hk, ?_⟩
  rw [Int.natCast_mul, Rat.mkRat_mul_right (by omega)]
theorem Fr.len {D B : Nat} {q : Rat} (hD : 0 < D) (hD' : D < 2 ^ 98) (hB : B < 2 ^ 98) (h : Fr D B q) : Len q := by
  obtain ⟨k, hk, rfl⟩ := h
  obtain ⟨g0, g1⟩ := gcd_le (t := (k : Int)) hD
  have hn : (mkRat (k : Int) D).num = ((k / Nat.gcd (k : Int).natAbs D : Nat) : Int) := by
    rw [mk_num hD]
    rfl
  have hd := mk_den (t := (k : Int)) hD
  have l1 : k / Nat.gcd (k : Int).natAbs D ≤ k := Nat.div_le_self _ _
  have l2 : D / Nat.gcd (k : Int).natAbs D ≤ D := Nat.div_le_self _ _
  refine ⟨by rw [hn]; exact Int.natCast_nonneg _, by rw [hn, Int.natAbs_natCast]; exact Nat.lt_of_le_of_lt (Nat.le_trans l1 hk) hB, Rat.den_pos _, by rw [hd]; exact Nat.lt_of_le_of_lt l2 hD'⟩
/-! ### sums, lines -/
def lo (b : Rat) (w : Nat → Rat) : Nat → Rat
  | 0 => 0
  | i + 1 => lo b w i + (if i = 0 then w 0 else b + w i)
theorem lo_one (b : Rat) (w : Nat → Rat) : lo b w 1 = w 0 := Rat.zero_add _
theorem lo_fr {D B : Nat} {b : Rat} {w : Nat → Rat} (hD : 0 < D) (hb : Fr D B b) (hw : ∀ i, Fr D B (w i)) : ∀ n, Fr D (n * (B + B)) (lo b w n)
  | 0 => Fr.zero
  | n + 1 => by
    show Fr D ((n + 1) * (B + B)) (lo b w n + (if n = 0 then w 0 else b + w n))
    rw [Nat.succ_mul]
    refine Fr.add hD (lo_fr hD hb hw n) ?_
    split
    · exact (hw 0).mono (by omega)
    · exact Fr.add hD hb (hw n)
/-- the first words of lines, without the last; that of the last line: behind word i -/
def lp (room b : Rat) (w : Nat → Rat) : Nat → List Nat × Nat
  | 0 => ([], 0)
  | i + 1 => if room < lo b (fun j => w ((lp room b w i).2 + j)) (i + 2 - (lp room b w i).2) then ((lp room b w i).1 ++ [(lp room b w i).2], i + 1) else lp room b w i
theorem lp_le (room b : Rat) (w : Nat → Rat) : ∀ i, (lp room b w i).2 ≤ i ∧ (lp room b w i).1.length ≤ i
  | 0 => ⟨Nat.le_refl _, Nat.le_refl _⟩
  | i + 1 => by
    have ih := lp_le room b w i
    unfold lp
    split
    · refine ⟨Nat.le_refl _, ?_⟩
      rw [List.length_append]
      exact Nat.add_le_add_right ih.2 1
    · exact ⟨by omega, by omega⟩
def prs (l : List Nat) (e : Nat) : List (Nat × Nat) := l.zip (l.tail ++ [e])
theorem prs_snoc (l : List Nat) (c e : Nat) : prs (l ++ [c]) e = prs l c ++ [(c, e)] := by
  unfold prs
  cases l with
  | nil => rfl
  | cons x xs =>
    show List.zip ((x :: xs) ++ [c]) ((xs ++ [c]) ++ [e]) = List.zip (x :: xs) (xs ++ [c]) ++ [(c, e)]
    rw [List.zip_append (by simp)]
    rfl
theorem prs_len (l : List Nat) (e : Nat) : (prs l e).length = l.length := by
  unfold prs
  rw [List.length_zip, List.length_append, List.length_tail]
  simp
  omega
def fst (room b : Rat) (w : Nat → Rat) : Nat → List Nat
  | 0 => []
  | i + 1 => (lp room b w i).1 ++ [(lp room b w i).2]
theorem fst_len (room b : Rat) (w : Nat → Rat) (n : Nat) : (fst room b w n).length ≤ n := by
  cases n with
  | zero => exact Nat.le_refl _
  | succ n =>
    show ((lp room b w n).1 ++ [(lp room b w n).2]).length ≤ n + 1
    rw [List.length_append]
    exact Nat.add_le_add_right (lp_le room b w n).2 1
def lns (room b : Rat) (w : Nat → Rat) (n : Nat) : List (Nat × Nat) := prs (fst room b w n) n
theorem lns_len (room b : Rat) (w : Nat → Rat) (n : Nat) : (lns room b w n).length = (fst room b w n).length := prs_len _ _
/-- the widest -/
def mx (w : Nat → Rat) : Nat → Rat
  | 0 => 0
  | i + 1 => if mx w i ≤ w i then w i else mx w i
theorem mx_fr {D B : Nat} {w : Nat → Rat} (hw : ∀ i, Fr D B (w i)) : ∀ n, Fr D B (mx w n)
  | 0 => Fr.zero
  | n + 1 => by
    unfold mx
    split
    · exact hw n
    · exact mx_fr hw n
theorem mx_lt (w : Nat → Rat) (i : Nat) : mx w (i + 1) = if mx w i < w i then w i else mx w i := by
  show (if mx w i ≤ w i then w i else mx w i) = _
  by_cases h : mx w i < w i
  · rw [if_pos h, if_pos (Rat.le_of_lt h)]
  · rw [if_neg h]
    by_cases h2 : mx w i ≤ w i
    · rw [if_pos h2]
      exact Rat.le_antisymm (Rat.not_lt.mp h) h2
    · rw [if_neg h2]
/-! ### what Python compares -/
def dat (q : Rat) : PyData := if q.den = 1 then .int q.num else .tuple [.int q.num, .int (q.den : Int)]
theorem NumAt.dp {K : PySem.W.Frag} {H : Hp} {v : V} {q : Rat} (h : NumAt H v q) : Dp K H v (dat q) := by
  unfold dat
  rcases h with ⟨e, rfl⟩ | ⟨e, p, rfl, hp⟩
  · rw [if_pos e]
    exact .int _
  · rw [if_neg e]
    exact .tup (SqT.of hp) (.cons (.int _) (.cons (.int _) .nil))
/-- ints, and tuples of ints: all that is compared here -/
def simple : PyData → Bool
  | .int _ => true
  | .tuple xs => xs.all fun | .int _ => true | _ => false
  | _ => false
theorem dat_simple (q : Rat) : simple (dat q) = true := by
  unfold dat
  split <;> rfl
theorem simple_lay {d : PyData} (h : simple d = true) : d.canLay0 = true ∧ d.depth ≤ 2 := by
  cases d with
  | int i => exact ⟨rfl, by simp [PyData.depth]⟩
  | tuple xs =>
    have h' : xs.all (fun | .int _ => true | _ => false) = true := h
    have z : PyData.canLayAll0 xs = true ∧ PyData.depthAll xs ≤ 1 := by
      clear h
      induction xs with
      | nil => exact ⟨rfl, by decide⟩
      | cons x xs ih =>
        obtain ⟨h1, h2⟩ := Bool.and_eq_true_iff.mp (by simpa only [List.all_cons] using h')
        obtain ⟨i1, i2⟩ := ih h2
        cases x with
        | int i => exact ⟨by simp [PyData.canLayAll0, PyData.canLay0, i1], by simp [PyData.depthAll, PyData.depth]; omega⟩
        | _ => exact absurd (show false = true from h1) Bool.false_ne_true
    exact ⟨by simp [PyData.canLay0, z.1], by simp [PyData.depth]; omega⟩
  | _ => exact absurd h (by simp [simple])
end K1

set_option Elab.async false
set_option linter.all false
set_option maxRecDepth 100000
set_option maxHeartbeats 4000000
namespace K1
open PySem PySem.Spec PyProof.Rows L2
/-! ### widths of words, classes -/
def Nums (H : Hp) (xs : List V) (w : Nat → Rat) : Prop := ∀ i v, xs[i]? = some v → NumAt H v (w i)
theorem Nums.same {H H' : Hp} {xs : List V} {w : Nat → Rat} (h : Nums H xs w) (s : Same H H') : Nums H' xs w := fun i v e => (h i v e).same s
structure TC (K : PySem.W.Frag) (mg : Str → Option Value) (x : Str) (C fI fE : Addr) : Prop where
  gC : mg x = some (.ref C)
  cl : Cls K C
  mkC : Mk K C fI
  eqf : PySem.W.findIn K (.ref C) "__eq__" = some (some (.ref fE))
  eqi : PySem.W.isFn K (.ref fE) = true
  nef : PySem.W.findIn K (.ref C) "__ne__" = some (some (.builtin "object.__ne__"))
  cls : PySem.W.findIn K (.ref C) "__class__" = some (some (.builtin "object.__class__"))
  mro : PySem.W.mroIn K C (.type "object") = some true
  gget : PySem.W.specialIn K (.builtin "object.__class__") "__get__" = some (some (.builtin "getset_descriptor.__get__"))
  gtk : PySem.W.takesIn K (.builtin "object.__class__") = some true
  self : PySem.W.kitOne K (.ref C) (.ref C) = some true
  nf : PySem.W.notFirst K C (.ref C) = true
theorem TC.ty {K : PySem.W.Frag} {mg : Str → Option Value} {x : Str} {C fI fE : Addr} (T : TC K mg x C fI fE) {H : Hp} {a dx : Addr} {fs : List (Str × V)} (e : H a = some (.ins C dx fs)) : TyX K H (.ref a) (.ref C) := .base (.ins e T.cl T.cls T.gget T.gtk T.mro)
section
variable {P : Program} {w : World} {K : PySem.W.Frag} {mg : Str → Option Value} {base : Heap}
def spCkW : Sp := fun vs H Q _ => ∃ (l : Addr) (xs : List V) (ws : Nat → Rat), vs = [.ref l] ∧ (H l = some (.lst xs) ∨ H l = some (.tup xs)) ∧ xs.length ≤ 20 ∧ Nums H xs ws ∧ (∀ i, Len (ws i)) ∧ ∀ H', Same H H' → Q .non H'
theorem scCkW : FnScope ["widths", "index", "width"] ["widths"] (defScope (top 53)) := ⟨rfl, rfl, rfl, by decide +kernel, rfl, by decide +kernel, by decide +kernel⟩
theorem kitA {t c d : Value} {b r : Bool} (h1 : PySem.W.kitOne K t c = some b) (h2 : PySem.W.kitOne K t d = some r) (h : (b || r) = true) : PySem.W.kitAny K t [c, d] = some true := by
  refine kitAny_cons h1 (fun e => ?_) (fun _ => rfl)
  subst e
  have : r = true := h
  subst this
  exact kitAny_cons h2 (fun e => nomatch e) (fun _ => rfl)
theorem ok_ckw {f fL : Addr} {fd dL : FuncData} {tk : Tok} (F : FnP K "check_widths" (top 53) f fd) (N : Nm mg) (gM : mg "MOST_WORDS" = some (.int 20 tk)) (d_is_length : D1 P w K mg base "is_length" "value" 3 spLen fL dL) : FnOk P w K mg base CX0 4 f fd ["widths"] spCkW := by
  refine F.ok scCkW (fun vs H Q E h => ?_) (fun cdv A outer s H vs Q E hr h => ?_)
  · obtain ⟨l, xs, ws, rfl, _⟩ := h
    rfl
  · obtain ⟨l, xs, ws, rfl, hl, hn, hx, hw, k⟩ := h
    have i20 : ¬ ((20 : Int) < ((xs.length : Nat) : Int)) := by omega
    rcases hl with hl | hl
    · skip
      refine ⟨_, PSs.nox (pss_cons (ps_if (PW.pt (pw_or (pt_not (pt_val (pe_callB call_isiT (by rfl) N.isi (by decide +kernel) (pa_cons (pv 0) (pa_cons (pe_tup (pa_cons (pe_bltn (v := .ty "list") (u := .type "list") (by rfl) N.tlst (by decide +kernel) rfl) (pa_cons (pe_bltn (v := .ty "tuple") (u := .type "tuple") (by rfl) N.ttup (by decide +kernel) rfl) pa_nil))) pa_nil))))) (pw_or1 (pt_cmpR op_gt (pe_callB call_len_seq (by rfl) N.len PySem.boot_len (pa_cons (pv 0) pa_nil)) (pe_glob (by rfl) gM (v := .int 20) ⟨_, rfl⟩) (nomark _)))))
    pss_never
    pss_nil)
  (pss_one (ps_for PassesOwn.never rfl (pi_enum (by rfl) N.enu (pa_cons (pv 0) pa_nil))
    (pg_tup rfl (pgs_cons (pg_name (i := 1) scCkW.nd rfl (Or.inl rfl)) (pgs_cons (pg_name (i := 2) scCkW.nd rfl (Or.inl rfl)) pgs_nil)))
    (pss_one (ps_if (pt_not (pt_val (pe_call d_is_length.G (hr.mono (by decide)) (by rfl) d_is_length.g d_is_length.kp d_is_length.b .nil pass0 (pa_cons (pv 2) pa_nil))))
    pss_never
    pss_nil))))), ?_⟩
      refine ⟨_, rfl, (by show 2 ≤ sizeLine; decide), fun z nz => ⟨_, z, _, _, _, true, rfl, upd_same, .cons (.ty _) (.cons (.ty _) .nil), .base (.lst (same_upd nz _ _ hl)), kitA (kit_ty (r := true) (by decide +kernel)) (kit_ty (r := false) (by decide +kernel)) rfl, true, rfl, iteF ?_⟩⟩
      have s0 := same_upd (o := .tup [.ty "list", .ty "tuple"]) nz
      refine ⟨_, rfl, l, _, rfl, .inl (SqL.of (s0 _ _ hl)), _, _, rfl, rfl, _, rfl, ite2 (fun c => absurd (of_decide_eq_true c) i20) (fun _ => ?_)⟩
      refine ⟨_, rfl, l, _, rfl, SqL.of (s0 _ _ hl), for_enum (K := K) (a := l) (xs := xs) (fun i σ H' => Same H H' ∧ ∃ v1 v2, σ = [some (.ref l), v1, v2]) ⟨s0, _, _, rfl⟩ (fun i σ H' _ h => SqL.of (h.1 _ _ hl)) ?_ ?_⟩
      · rintro i x T σ H1 hi ⟨s1, v1, v2, rfl⟩ nT
        refine ⟨T, _, rfl, SqT.of upd_same, rfl, _, _, rfl, _, _, rfl, rfl, ?_⟩
        have s2 := s1.trans (same_upd (o := .tup [.int (i : Nat), x]) nT)
        exact ⟨_, rfl, x, ws i, rfl, (hx i x hi).same s2, hw i, fun H2 s3 => ⟨true, rfl, iteF ⟨s2.trans s3, _, _, rfl⟩⟩⟩
      · rintro σ H1 ⟨s1, v1, v2, rfl⟩
        exact k _ s1
    · skip
      refine ⟨_, PSs.nox (pss_cons (ps_if (PW.pt (pw_or (pt_not (pt_val (pe_callB call_isiT (by rfl) N.isi (by decide +kernel) (pa_cons (pv 0) (pa_cons (pe_tup (pa_cons (pe_bltn (v := .ty "list") (u := .type "list") (by rfl) N.tlst (by decide +kernel) rfl) (pa_cons (pe_bltn (v := .ty "tuple") (u := .type "tuple") (by rfl) N.ttup (by decide +kernel) rfl) pa_nil))) pa_nil))))) (pw_or1 (pt_cmpR op_gt (pe_callB call_len_seq (by rfl) N.len PySem.boot_len (pa_cons (pv 0) pa_nil)) (pe_glob (by rfl) gM (v := .int 20) ⟨_, rfl⟩) (nomark _)))))
    pss_never
    pss_nil)
  (pss_one (ps_for PassesOwn.never rfl (pi_enumT (by rfl) N.enu (pa_cons (pv 0) pa_nil))
    (pg_tup rfl (pgs_cons (pg_name (i := 1) scCkW.nd rfl (Or.inl rfl)) (pgs_cons (pg_name (i := 2) scCkW.nd rfl (Or.inl rfl)) pgs_nil)))
    (pss_one (ps_if (pt_not (pt_val (pe_call d_is_length.G (hr.mono (by decide)) (by rfl) d_is_length.g d_is_length.kp d_is_length.b .nil pass0 (pa_cons (pv 2) pa_nil))))
    pss_never
    pss_nil))))), ?_⟩
      refine ⟨_, rfl, (by show 2 ≤ sizeLine; decide), fun z nz => ⟨_, z, _, _, _, true, rfl, upd_same, .cons (.ty _) (.cons (.ty _) .nil), .base (.tup (same_upd nz _ _ hl)), kitA (kit_ty (r := false) (by decide +kernel)) (kit_ty (r := true) (by decide +kernel)) rfl, true, rfl, iteF ?_⟩⟩
      have s0 := same_upd (o := .tup [.ty "list", .ty "tuple"]) nz
      refine ⟨_, rfl, l, _, rfl, .inr (SqT.of (s0 _ _ hl)), _, _, rfl, rfl, _, rfl, ite2 (fun c => absurd (of_decide_eq_true c) i20) (fun _ => ?_)⟩
      refine ⟨_, rfl, l, _, rfl, SqT.of (s0 _ _ hl), for_enumT (K := K) (a := l) (xs := xs) (fun i σ H' => Same H H' ∧ ∃ v1 v2, σ = [some (.ref l), v1, v2]) ⟨s0, _, _, rfl⟩ (fun i σ H' _ h => SqT.of (h.1 _ _ hl)) ?_ ?_⟩
      · rintro i x T σ H1 hi ⟨s1, v1, v2, rfl⟩ nT
        refine ⟨T, _, rfl, SqT.of upd_same, rfl, _, _, rfl, _, _, rfl, rfl, ?_⟩
        have s2 := s1.trans (same_upd (o := .tup [.int (i : Nat), x]) nT)
        exact ⟨_, rfl, x, ws i, rfl, (hx i x hi).same s2, hw i, fun H2 s3 => ⟨true, rfl, iteF ⟨s2.trans s3, _, _, rfl⟩⟩⟩
      · rintro σ H1 ⟨s1, v1, v2, rfl⟩
        exact k _ s1
def spCkL : Sp := fun vs H Q _ => ∃ (x v : V) (q : Rat), vs = [x, v] ∧ NumAt H v q ∧ Len q ∧ ∀ H', Same H H' → Q .non H'
theorem scCkL : FnScope ["part", "value"] ["part", "value"] (defScope (top 54)) := ⟨rfl, rfl, rfl, by decide +kernel, rfl, by decide +kernel, by decide +kernel⟩
theorem ok_ckl {f fL : Addr} {fd dL : FuncData} (F : FnP K "check_length" (top 54) f fd) (d_is_length : D1 P w K mg base "is_length" "value" 3 spLen fL dL) : FnOk P w K mg base CX0 4 f fd ["part", "value"] spCkL := by
  refine F.ok scCkL (fun vs H Q E h => ?_) (fun cdv A outer s H vs Q E hr h => ?_)
  · obtain ⟨x, v, q, rfl, _⟩ := h
    rfl
  · obtain ⟨x, v, q, rfl, hv, hl, k⟩ := h
    refine ⟨_, PSs.nox (pss_one (ps_if (pt_not (pt_val (pe_call d_is_length.G (hr.mono (by decide)) (by rfl) d_is_length.g d_is_length.kp d_is_length.b .nil pass0 (pa_cons (pv 1) pa_nil))))
    pss_never
    pss_nil)), ?_⟩
    exact ⟨_, rfl, v, q, rfl, hv, hl, fun H' s' => ⟨true, rfl, iteF (k _ s')⟩⟩
def spCkN : Sp := fun vs H Q _ => ∃ (v : V) (q : Rat), vs = [v] ∧ NumAt H v q ∧ Len q ∧ ∀ H', Same H H' → Q .non H'
theorem scCkN : FnScope ["width"] ["width"] (defScope (top 56)) := ⟨rfl, rfl, rfl, by decide +kernel, rfl, by decide +kernel, by decide +kernel⟩
theorem ok_ckn {f fL : Addr} {fd dL : FuncData} (F : FnP K "check_width" (top 56) f fd) (d_is_length : D1 P w K mg base "is_length" "value" 3 spLen fL dL) : FnOk P w K mg base CX0 4 f fd ["width"] spCkN := by
  refine F.ok scCkN (fun vs H Q E h => ?_) (fun cdv A outer s H vs Q E hr h => ?_)
  · obtain ⟨v, q, rfl, _⟩ := h
    rfl
  · obtain ⟨v, q, rfl, hv, hl, k⟩ := h
    refine ⟨_, PSs.nox (pss_one (ps_if (pt_not (pt_val (pe_call d_is_length.G (hr.mono (by decide)) (by rfl) d_is_length.g d_is_length.kp d_is_length.b .nil pass0 (pa_cons (pv 0) pa_nil))))
    pss_never
    pss_nil)), ?_⟩
    exact ⟨_, rfl, v, q, rfl, hv, hl, fun H' s' => ⟨true, rfl, iteF (k _ s')⟩⟩
/-- the two classes -/
structure T2 (K : PySem.W.Frag) (mg : Str → Option Value) (CW CB fI fE gI gE : Addr) : Prop where
  W : TC K mg "Words" CW fI fE
  B : TC K mg "Block" CB gI gE
  kWB : PySem.W.kitOne K (.ref CW) (.ref CB) = some false
  kBW : PySem.W.kitOne K (.ref CB) (.ref CW) = some false
  nWB : PySem.W.notFirst K CW (.ref CB) = true
  aw : NoAttr K CW "widths"
  ab : NoAttr K CW "blank"
  al : NoAttr K CW "line"
  ag : NoAttr K CW "base"
  bw : NoAttr K CB "width"
  bh : NoAttr K CB "height"
def spCkC (CW CB : Addr) : Sp := fun vs H Q _ => ∃ (a dx : Addr) (fs : List (Str × V)), vs = [.ref a] ∧ (H a = some (.ins CW dx fs) ∨ H a = some (.ins CB dx fs)) ∧ ∀ H', Same H H' → Q .non H'
theorem scCkC : FnScope ["content"] ["content"] (defScope (top 55)) := ⟨rfl, rfl, rfl, by decide +kernel, rfl, by decide +kernel, by decide +kernel⟩
theorem ok_ckc {f CW CB fI fE gI gE : Addr} {fd : FuncData} (F : FnP K "check_content" (top 55) f fd) (N : Nm mg) (T : T2 K mg CW CB fI fE gI gE) : FnOk P w K mg base CX0 1 f fd ["content"] (spCkC CW CB) := by
  refine F.ok scCkC (fun vs H Q E h => ?_) (fun cdv A outer s H vs Q E hr h => ?_)
  · obtain ⟨a, dx, fs, rfl, _⟩ := h
    rfl
  · obtain ⟨a, dx, fs, rfl, ha, k⟩ := h
    refine ⟨_, PSs.nox (pss_one (ps_if (pt_not (pt_val (pe_callB call_isiT (by rfl) N.isi (by decide +kernel) (pa_cons (pv 0) (pa_cons (pe_tup (pa_cons (pe_glob (by rfl) T.W.gC (v := .ref CW) rfl) (pa_cons (pe_glob (by rfl) T.B.gC (v := .ref CB) rfl) pa_nil))) pa_nil)))))
    pss_never
    pss_nil)), ?_⟩
    rcases ha with ha | ha
    · refine ⟨_, rfl, (by show 2 ≤ sizeLine; decide), fun z nz => ⟨_, z, _, _, _, true, rfl, upd_same, .cons (.own _) (.cons (.own _) .nil), T.W.ty (same_upd nz _ _ ha), kitA T.W.self T.kWB rfl, true, rfl, iteF (k _ (same_upd nz))⟩⟩
    · refine ⟨_, rfl, (by show 2 ≤ sizeLine; decide), fun z nz => ⟨_, z, _, _, _, true, rfl, upd_same, .cons (.own _) (.cons (.own _) .nil), T.B.ty (same_upd nz _ _ ha), kitA T.kBW T.B.self rfl, true, rfl, iteF (k _ (same_upd nz))⟩⟩
end
end K1

set_option Elab.async false
set_option linter.all false
set_option maxRecDepth 100000
set_option maxHeartbeats 4000000
namespace K1
open PySem PySem.Spec PyProof.Rows L2
abbrev FnM (K : PySem.W.Frag) (m q : Str) (st : Stmt) (f : Addr) (fd : FuncData) : Prop := FunD K m q (defArgs st) (defBody st) (defScope st) [] [] f fd
/-- all but a keep what they hold -/
def Keep (a : Addr) (H H' : Hp) : Prop := ∀ b o, b ≠ a → H b = some o → H' b = some o
theorem Keep.of {a : Addr} {H H' : Hp} (s : Same H H') : Keep a H H' := fun b o _ e => s b o e
theorem Keep.trans {a : Addr} {H H1 H2 : Hp} (s : Keep a H H1) (t : Keep a H1 H2) : Keep a H H2 := fun b o n e => t b o n (s b o n e)
theorem Keep.upd {a : Addr} {H H1 : Hp} {o : HO} (s : Keep a H H1) : Keep a H (upd H1 a o) := fun b o' n e => by
  rw [upd_ne n]
  exact s b o' n e
theorem Keep.same {a : Addr} {H H0 H1 : Hp} (s : Keep a H H1) (n : H0 a = none) (z : Same H0 H) : Same H0 H1 := fun b o e => s b o (ne_of_none e n) (z b o e)
theorem NumAt.keep {a : Addr} {H H' : Hp} {v : V} {q : Rat} (h : NumAt H v q) (s : Keep a H H') (n : ∀ xs, H a ≠ some (.tup xs)) : NumAt H' v q := by
  rcases h with h | ⟨e, p, rfl, hp⟩
  · exact .inl h
  · refine .inr ⟨e, p, rfl, s p _ (fun z => ?_) hp⟩
    subst z
    exact n _ hp
def WordsAt (CW : Addr) (H : Hp) (a t : Addr) (xs : List V) (vb vl vg : V) (w : Nat → Rat) (b l g : Rat) : Prop :=
  (∃ dx, H a = some (.ins CW dx [("widths", .ref t), ("blank", vb), ("line", vl), ("base", vg)])) ∧ H t = some (.tup xs) ∧ Nums H xs w ∧ NumAt H vb b ∧ NumAt H vl l ∧ NumAt H vg g
theorem WordsAt.same {CW : Addr} {H H' : Hp} {a t : Addr} {xs : List V} {vb vl vg : V} {w : Nat → Rat} {b l g : Rat} (h : WordsAt CW H a t xs vb vl vg w b l g) (s : Same H H') : WordsAt CW H' a t xs vb vl vg w b l g := by
  obtain ⟨⟨dx, h1⟩, h2, h3, h4, h5, h6⟩ := h
  exact ⟨⟨dx, s _ _ h1⟩, s _ _ h2, h3.same s, h4.same s, h5.same s, h6.same s⟩
def BlockAt (CB : Addr) (H : Hp) (a : Addr) (vw vh : V) (q r : Rat) : Prop := (∃ dx, H a = some (.ins CB dx [("width", vw), ("height", vh)])) ∧ NumAt H vw q ∧ NumAt H vh r
theorem BlockAt.same {CB : Addr} {H H' : Hp} {a : Addr} {vw vh : V} {q r : Rat} (h : BlockAt CB H a vw vh q r) (s : Same H H') : BlockAt CB H' a vw vh q r := by
  obtain ⟨⟨dx, h1⟩, h2, h3⟩ := h
  exact ⟨⟨dx, s _ _ h1⟩, h2.same s, h3.same s⟩
section
variable {P : Program} {w : World} {K : PySem.W.Frag} {mg : Str → Option Value} {base : Heap} {CW CB fI fE gI gE : Addr}
def spWI (CW : Addr) : Sp := fun vs H Q _ => ∃ (a l dx : Addr) (xs : List V) (vb vl vg : V) (ws : Nat → Rat) (b li g : Rat), vs = [.ref a, .ref l, vb, vl, vg] ∧ H a = some (.ins CW dx []) ∧ (H l = some (.lst xs) ∨ H l = some (.tup xs)) ∧ xs.length ≤ 20 ∧ Nums H xs ws ∧ (∀ i, Len (ws i)) ∧
  NumAt H vb b ∧ NumAt H vl li ∧ NumAt H vg g ∧ Len b ∧ Len li ∧ Len g ∧ ∀ H' t, Keep a H H' → WordsAt CW H' a t xs vb vl vg ws b li g → Q .non H'
theorem scWI : FnScope ["self", "widths", "blank", "line", "base"] ["self", "widths", "blank", "line", "base"] (defScope (inClass (top 51) 0)) := ⟨rfl, rfl, rfl, by decide +kernel, rfl, by decide +kernel, by decide +kernel⟩
theorem ok_wi {f fW fL : Addr} {fd dW dL : FuncData} (F : FnM K "__init__" "Words.__init__" (inClass (top 51) 0) f fd) (N : Nm mg) (T : T2 K mg CW CB fI fE gI gE) (d_check_widths : D1 P w K mg base "check_widths" "widths" 4 spCkW fW dW) (d_check_length : D2 P w K mg base "check_length" "part" "value" 4 spCkL fL dL) :
    FnOk P w K mg base CX0 5 f fd ["self", "widths", "blank", "line", "base"] (spWI CW) := by
  refine F.ok scWI (fun vs H Q E h => ?_) (fun cdv A outer s H vs Q E hr h => ?_)
  · obtain ⟨a, l, dx, xs, vb, vl, vg, ws, b, li, g, rfl, _⟩ := h
    rfl
  · obtain ⟨a, l, dx, xs, vb, vl, vg, ws, b, li, g, rfl, ha, hl, hn, hx, hw, hb, hli, hg, Lb, Ll, Lg, k⟩ := h
    refine ⟨_, PSs.nox (pss_cons (ps_expr (pe_call d_check_widths.G (hr.mono (by decide)) (by rfl) d_check_widths.g d_check_widths.kp d_check_widths.b .nil pass0 (pa_cons (pv 1) pa_nil)))
  (pss_cons (ps_expr (pe_call d_check_length.G (hr.mono (by decide)) (by rfl) d_check_length.g d_check_length.kp d_check_length.b .nil pass0 (pa_cons pe_str (pa_cons (pv 2) pa_nil))))
  (pss_cons (ps_expr (pe_call d_check_length.G (hr.mono (by decide)) (by rfl) d_check_length.g d_check_length.kp d_check_length.b .nil pass0 (pa_cons pe_str (pa_cons (pv 3) pa_nil))))
  (pss_cons (ps_expr (pe_call d_check_length.G (hr.mono (by decide)) (by rfl) d_check_length.g d_check_length.kp d_check_length.b .nil pass0 (pa_cons pe_str (pa_cons (pv 4) pa_nil))))
  (pss_cons (ps_fld (pv 0) (pe_callTy call_tuple_of (by rfl) N.ttup (by decide +kernel) (pa_cons (pv 1) pa_nil)) rfl)
  (pss_cons (ps_fld (pv 0) (pv 2) rfl)
  (pss_cons (ps_fld (pv 0) (pv 3) rfl)
  (pss_one (ps_fld (pv 0) (pv 4) rfl))))))))), ?_⟩
    refine ⟨_, rfl, l, xs, ws, rfl, hl, hn, hx, hw, fun H1 s1 => ?_⟩
    refine ⟨_, rfl, _, vb, b, rfl, hb.same s1, Lb, fun H2 s2 => ?_⟩
    have s2 := s1.trans s2
    refine ⟨_, rfl, _, vl, li, rfl, hli.same s2, Ll, fun H3 s3 => ?_⟩
    have s3 := s2.trans s3
    refine ⟨_, rfl, _, vg, g, rfl, hg.same s3, Lg, fun H4 s4 => ?_⟩
    have s4 := s3.trans s4
    have fin : ∀ (t : Addr) (H5 : Hp), Same H H5 → H5 t = some (.tup xs) → Keep a H (upd (upd (upd (upd H5 a (.ins CW dx [("widths", .ref t)])) a (.ins CW dx [("widths", .ref t), ("blank", vb)])) a (.ins CW dx [("widths", .ref t), ("blank", vb), ("line", vl)])) a (.ins CW dx [("widths", .ref t), ("blank", vb), ("line", vl), ("base", vg)])) ∧
        WordsAt CW (upd (upd (upd (upd H5 a (.ins CW dx [("widths", .ref t)])) a (.ins CW dx [("widths", .ref t), ("blank", vb)])) a (.ins CW dx [("widths", .ref t), ("blank", vb), ("line", vl)])) a (.ins CW dx [("widths", .ref t), ("blank", vb), ("line", vl), ("base", vg)])) a t xs vb vl vg ws b li g := fun t H5 s5 ht => by
      have kk : Keep a H5 (upd (upd (upd (upd H5 a (.ins CW dx [("widths", .ref t)])) a (.ins CW dx [("widths", .ref t), ("blank", vb)])) a (.ins CW dx [("widths", .ref t), ("blank", vb), ("line", vl)])) a (.ins CW dx [("widths", .ref t), ("blank", vb), ("line", vl), ("base", vg)])) := (((Keep.of (Same.refl H5)).upd.upd).upd).upd
      have ha5 := s5 _ _ ha
      have na : ∀ xs, H5 a ≠ some (.tup xs) := fun xs e => by
        rw [ha5] at e
        cases e
      refine ⟨(Keep.of s5).trans kk, ⟨dx, upd_same⟩, kk _ _ (fun e => na _ (e ▸ ht)) ht, fun i v e => ((hx i v e).same s5).keep kk na, (hb.same s5).keep kk na, (hli.same s5).keep kk na, (hg.same s5).keep kk na⟩
    rcases hl with hl | hl
    · refine ⟨_, rfl, l, xs, rfl, .inl ⟨SqL.of (s4 _ _ hl), fun t nt => ?_⟩⟩
      have s5 := s4.trans (same_upd (o := .tup xs) nt)
      obtain ⟨f1, f2⟩ := fin t _ s5 upd_same
      refine ⟨_, rfl, a, CW, dx, [], rfl, s5 _ _ ha, T.W.cl, T.aw, by decide, _, rfl, _, rfl, a, CW, dx, _, rfl, upd_same, T.W.cl, T.ab, (by show 1 < 1000; decide), _, rfl, _, rfl, a, CW, dx, _, rfl, upd_same, T.W.cl, T.al, (by show 2 < 1000; decide), _, rfl, _, rfl, a, CW, dx, _, rfl, upd_same, T.W.cl, T.ag, (by show 3 < 1000; decide), ?_⟩
      exact k _ t f1 f2
    · refine ⟨_, rfl, l, xs, rfl, .inr ⟨SqT.of (s4 _ _ hl), ?_⟩⟩
      obtain ⟨f1, f2⟩ := fin l _ s4 (s4 _ _ hl)
      refine ⟨_, rfl, a, CW, dx, [], rfl, s4 _ _ ha, T.W.cl, T.aw, by decide, _, rfl, _, rfl, a, CW, dx, _, rfl, upd_same, T.W.cl, T.ab, (by show 1 < 1000; decide), _, rfl, _, rfl, a, CW, dx, _, rfl, upd_same, T.W.cl, T.al, (by show 2 < 1000; decide), _, rfl, _, rfl, a, CW, dx, _, rfl, upd_same, T.W.cl, T.ag, (by show 3 < 1000; decide), ?_⟩
      exact k _ l f1 f2
def spBI (CB : Addr) : Sp := fun vs H Q _ => ∃ (a dx : Addr) (vw vh : V) (q r : Rat), vs = [.ref a, vw, vh] ∧ H a = some (.ins CB dx []) ∧ NumAt H vw q ∧ NumAt H vh r ∧ Len q ∧ Len r ∧ ∀ H', Keep a H H' → BlockAt CB H' a vw vh q r → Q .non H'
theorem scBI : FnScope ["self", "width", "height"] ["self", "width", "height"] (defScope (inClass (top 52) 0)) := ⟨rfl, rfl, rfl, by decide +kernel, rfl, by decide +kernel, by decide +kernel⟩
theorem ok_bi {f fL : Addr} {fd dL : FuncData} (F : FnM K "__init__" "Block.__init__" (inClass (top 52) 0) f fd) (T : T2 K mg CW CB fI fE gI gE) (d_check_length : D2 P w K mg base "check_length" "part" "value" 4 spCkL fL dL) :
    FnOk P w K mg base CX0 5 f fd ["self", "width", "height"] (spBI CB) := by
  refine F.ok scBI (fun vs H Q E h => ?_) (fun cdv A outer s H vs Q E hr h => ?_)
  · obtain ⟨a, dx, vw, vh, q, r, rfl, _⟩ := h
    rfl
  · obtain ⟨a, dx, vw, vh, q, r, rfl, ha, hq, hr', Lq, Lr, k⟩ := h
    refine ⟨_, PSs.nox (pss_cons (ps_expr (pe_call d_check_length.G (hr.mono (by decide)) (by rfl) d_check_length.g d_check_length.kp d_check_length.b .nil pass0 (pa_cons pe_str (pa_cons (pv 1) pa_nil))))
  (pss_cons (ps_expr (pe_call d_check_length.G (hr.mono (by decide)) (by rfl) d_check_length.g d_check_length.kp d_check_length.b .nil pass0 (pa_cons pe_str (pa_cons (pv 2) pa_nil))))
  (pss_cons (ps_fld (pv 0) (pv 1) rfl)
  (pss_one (ps_fld (pv 0) (pv 2) rfl))))), ?_⟩
    refine ⟨_, rfl, _, vw, q, rfl, hq, Lq, fun H1 s1 => ?_⟩
    refine ⟨_, rfl, _, vh, r, rfl, hr'.same s1, Lr, fun H2 s2 => ?_⟩
    have s2 := s1.trans s2
    have ha2 := s2 _ _ ha
    have na : ∀ xs, H2 a ≠ some (.tup xs) := fun xs e => by
      rw [ha2] at e
      cases e
    have kk : Keep a H2 (upd (upd H2 a (.ins CB dx [("width", vw)])) a (.ins CB dx [("width", vw), ("height", vh)])) := ((Keep.of (Same.refl H2)).upd).upd
    refine ⟨_, rfl, _, rfl, a, CB, dx, [], rfl, ha2, T.B.cl, T.bw, by decide, _, rfl, _, rfl, a, CB, dx, _, rfl, upd_same, T.B.cl, T.bh, (by show 1 < 1000; decide), ?_⟩
    exact k _ ((Keep.of s2).trans kk) ⟨⟨dx, upd_same⟩, (hq.same s2).keep kk na, (hr'.same s2).keep kk na⟩
end
end K1

set_option Elab.async false
set_option linter.all false
set_option maxRecDepth 100000
set_option maxHeartbeats 4000000
namespace K1
open PySem PySem.Spec PyProof.Rows L2
/-! ### data that is compared -/
def Ok (m : Nat) (d : PyData) : Prop := d.canLay0 = true ∧ d.depth ≤ m
theorem Ok.mono {m n : Nat} {d : PyData} (h : Ok m d) (l : m ≤ n) : Ok n d := ⟨h.1, Nat.le_trans h.2 l⟩
theorem Ok.sh {m : Nat} {d : PyData} (h : Ok m d) (l : m ≤ 64) : SeqAt.shaped d = true := Bool.and_eq_true_iff.mpr ⟨h.1, decide_eq_true (Nat.le_trans h.2 l)⟩
theorem Ok.eq {m : Nat} {d : PyData} (h : Ok m d) : PyData.eqv d d = true := SeqAt.eqv_refl d h.1
theorem ok_all {m : Nat} : ∀ ds : List PyData, (∀ d ∈ ds, Ok m d) → PyData.canLayAll0 ds = true ∧ PyData.depthAll ds ≤ m
  | [], _ => ⟨rfl, Nat.zero_le _⟩
  | d :: ds, h => by
    obtain ⟨i1, i2⟩ := ok_all ds fun x hx => h x (List.mem_cons_of_mem _ hx)
    obtain ⟨j1, j2⟩ := h d (List.mem_cons_self ..)
    refine ⟨by rw [PyData.canLayAll0, j1, i1]; rfl, ?_⟩
    rw [PyData.depthAll]
    exact Nat.max_le.mpr ⟨j2, i2⟩
theorem ok_tup {m : Nat} {ds : List PyData} (h : ∀ d ∈ ds, Ok m d) : Ok (m + 1) (.tuple ds) := by
  obtain ⟨i1, i2⟩ := ok_all ds h
  exact ⟨by rw [PyData.canLay0]; exact i1, by rw [PyData.depth]; omega⟩
theorem ok_lst {m : Nat} {ds : List PyData} (h : ∀ d ∈ ds, Ok m d) : Ok (m + 1) (.list ds) := by
  obtain ⟨i1, i2⟩ := ok_all ds h
  exact ⟨by rw [PyData.canLay0]; exact i1, by rw [PyData.depth]; omega⟩
theorem ok_int' (m : Nat) (i : Int) : Ok m (.int i) := ⟨rfl, by rw [PyData.depth]; omega⟩
theorem ok_dat (q : Rat) : Ok 1 (dat q) := by
  unfold dat
  split
  · exact ok_int' _ _
  · refine ok_tup (m := 0) fun d hd => ?_
    rcases List.mem_cons.mp hd with rfl | hd
    · exact ok_int' _ _
    · rw [List.mem_singleton] at hd
      subst hd
      exact ok_int' _ _
def dats (w : Nat → Rat) : Nat → Nat → List PyData
  | _, 0 => []
  | k, n + 1 => dat (w k) :: dats w (k + 1) n
theorem dats_mem (w : Nat → Rat) : ∀ n k d, d ∈ dats w k n → Ok 1 d
  | 0, _, _, h => nomatch h
  | n + 1, k, d, h => by
    rcases List.mem_cons.mp h with rfl | h
    · exact ok_dat _
    · exact dats_mem w n _ d h
theorem dats_dp {K : PySem.W.Frag} {H : Hp} {w : Nat → Rat} : ∀ (xs : List V) (k : Nat), (∀ i v, xs[i]? = some v → NumAt H v (w (k + i))) → DpAll K H xs (dats w k xs.length)
  | [], _, _ => .nil
  | x :: xs, k, h => .cons (h 0 x rfl).dp (dats_dp xs (k + 1) fun i v e => by
      have := h (i + 1) v e
      rw [show k + (i + 1) = k + 1 + i by omega] at this
      exact this)
theorem Nums.dp {K : PySem.W.Frag} {H : Hp} {xs : List V} {w : Nat → Rat} (h : Nums H xs w) : DpAll K H xs (dats w 0 xs.length) := dats_dp xs 0 fun i v e => by
  rw [Nat.zero_add]
  exact h i v e
theorem ok_ws (w : Nat → Rat) (n : Nat) : Ok 2 (.tuple (dats w 0 n)) := ok_tup (dats_mem w n 0)
section
variable {P : Program} {w : World} {K : PySem.W.Frag} {mg : Str → Option Value} {base : Heap} {CW CB fI fE gI gE : Addr}
/-! ### == -/
def spWE (CW CB : Addr) : Sp := fun vs H Q _ => ∃ (a a' t : Addr) (xs : List V) (vb vl vg : V) (ws : Nat → Rat) (b li g : Rat), vs = [.ref a, .ref a'] ∧ WordsAt CW H a t xs vb vl vg ws b li g ∧
  ((∃ (t' : Addr) (xs' : List V) (vb' vl' vg' : V), xs'.length = xs.length ∧ WordsAt CW H a' t' xs' vb' vl' vg' ws b li g ∧ Q (.bl true) H) ∨ (∃ dx fs, H a' = some (.ins CB dx fs) ∧ Q (.bl false) H))
theorem scWE : FnScope ["self", "other"] ["self", "other"] (defScope (inClass (top 51) 1)) := ⟨rfl, rfl, rfl, by decide +kernel, rfl, by decide +kernel, by decide +kernel⟩
theorem ok_we {f : Addr} {fd : FuncData} (F : FnM K "__eq__" "Words.__eq__" (inClass (top 51) 1) f fd) (N : Nm mg) (T : T2 K mg CW CB fI fE gI gE) : FnOk P w K mg base CX0 1 f fd ["self", "other"] (spWE CW CB) := by
  refine F.ok scWE (fun vs H Q E h => ?_) (fun cdv A outer s H vs Q E hr h => ?_)
  · obtain ⟨a, a', t, xs, vb, vl, vg, ws, b, li, g, rfl, _⟩ := h
    rfl
  · obtain ⟨a, a', t, xs, vb, vl, vg, ws, b, li, g, rfl, ⟨⟨dx, h1⟩, h2, h3, h4, h5, h6⟩, h⟩ := h
    refine ⟨_, PSs.nox (pss_one (ps_ret (pe_and (pe_callB call_isi (by rfl) N.isi (by decide +kernel) (pa_cons (pv 1) (pa_cons (pe_glob (by rfl) T.W.gC (v := .ref CW) rfl) pa_nil))) (pe_and (pe_cmpR (op_eqD hr.units) (pe_fld (pv 0) rfl) (pe_fld (pv 1) rfl) (nomark _)) (pe_and (pe_cmpR (op_eqD hr.units) (pe_fld (pv 0) rfl) (pe_fld (pv 1) rfl) (nomark _)) (pe_and (pe_cmpR (op_eqD hr.units) (pe_fld (pv 0) rfl) (pe_fld (pv 1) rfl) (nomark _)) (pe_one (pe_cmpR (op_eqD hr.units) (pe_fld (pv 0) rfl) (pe_fld (pv 1) rfl) (nomark _))))))))), ?_⟩
    rcases h with ⟨t', xs', vb', vl', vg', hlen, ⟨⟨dx', g1⟩, g2, g3, g4, g5, g6⟩, k⟩ | ⟨dx', fs, g1, k⟩
    · have d3 := (g3.dp (K := K))
      rw [hlen] at d3
      refine ⟨_, rfl, _, _, _, _, true, rfl, .own _, T.W.ty g1, T.W.self, true, rfl, iteT ?_⟩
      refine ⟨_, rfl, a, CW, dx, _, _, rfl, h1, T.W.cl, T.aw, rfl, _, rfl, a', CW, dx', _, _, rfl, g1, T.W.cl, T.aw, rfl, _, _, .tup (SqT.of h2) h3.dp, .tup (SqT.of g2) d3, (ok_ws _ _).sh (by decide), (ok_ws _ _).sh (by decide), _, rfl, ite2 (fun _ => ?_) (fun c => absurd (ok_ws _ _).eq c)⟩
      refine ⟨_, rfl, a, CW, dx, _, _, rfl, h1, T.W.cl, T.ab, rfl, _, rfl, a', CW, dx', _, _, rfl, g1, T.W.cl, T.ab, rfl, _, _, h4.dp, g4.dp, (ok_dat _).sh (by decide), (ok_dat _).sh (by decide), _, rfl, ite2 (fun _ => ?_) (fun c => absurd (ok_dat _).eq c)⟩
      refine ⟨_, rfl, a, CW, dx, _, _, rfl, h1, T.W.cl, T.al, rfl, _, rfl, a', CW, dx', _, _, rfl, g1, T.W.cl, T.al, rfl, _, _, h5.dp, g5.dp, (ok_dat _).sh (by decide), (ok_dat _).sh (by decide), _, rfl, ite2 (fun _ => ?_) (fun c => absurd (ok_dat _).eq c)⟩
      refine ⟨_, rfl, a, CW, dx, _, _, rfl, h1, T.W.cl, T.ag, rfl, _, rfl, a', CW, dx', _, _, rfl, g1, T.W.cl, T.ag, rfl, _, _, h6.dp, g6.dp, (ok_dat _).sh (by decide), (ok_dat _).sh (by decide), ?_⟩
      show Q (.bl (PyData.eqv (dat g) (dat g))) H
      rw [(ok_dat g).eq]
      exact k
    · exact ⟨_, rfl, _, _, _, _, false, rfl, .own _, T.B.ty g1, T.kBW, false, rfl, iteF k⟩
def spBE (CB : Addr) : Sp := fun vs H Q _ => ∃ (a a' : Addr) (vw vh vw' vh' : V) (q r : Rat), vs = [.ref a, .ref a'] ∧ BlockAt CB H a vw vh q r ∧ BlockAt CB H a' vw' vh' q r ∧ Q (.bl true) H
theorem scBE : FnScope ["self", "other"] ["self", "other"] (defScope (inClass (top 52) 1)) := ⟨rfl, rfl, rfl, by decide +kernel, rfl, by decide +kernel, by decide +kernel⟩
theorem ok_be {f : Addr} {fd : FuncData} (F : FnM K "__eq__" "Block.__eq__" (inClass (top 52) 1) f fd) (N : Nm mg) (T : T2 K mg CW CB fI fE gI gE) : FnOk P w K mg base CX0 1 f fd ["self", "other"] (spBE CB) := by
  refine F.ok scBE (fun vs H Q E h => ?_) (fun cdv A outer s H vs Q E hr h => ?_)
  · obtain ⟨a, a', vw, vh, vw', vh', q, r, rfl, _⟩ := h
    rfl
  · obtain ⟨a, a', vw, vh, vw', vh', q, r, rfl, ⟨⟨dx, h1⟩, h2, h3⟩, ⟨⟨dx', g1⟩, g2, g3⟩, k⟩ := h
    refine ⟨_, PSs.nox (pss_one (ps_ret (pe_and (pe_callB call_isi (by rfl) N.isi (by decide +kernel) (pa_cons (pv 1) (pa_cons (pe_glob (by rfl) T.B.gC (v := .ref CB) rfl) pa_nil))) (pe_and (pe_cmpR (op_eqD hr.units) (pe_fld (pv 0) rfl) (pe_fld (pv 1) rfl) (nomark _)) (pe_one (pe_cmpR (op_eqD hr.units) (pe_fld (pv 0) rfl) (pe_fld (pv 1) rfl) (nomark _))))))), ?_⟩
    refine ⟨_, rfl, _, _, _, _, true, rfl, .own _, T.B.ty g1, T.B.self, true, rfl, iteT ?_⟩
    refine ⟨_, rfl, a, CB, dx, _, _, rfl, h1, T.B.cl, T.bw, rfl, _, rfl, a', CB, dx', _, _, rfl, g1, T.B.cl, T.bw, rfl, _, _, h2.dp, g2.dp, (ok_dat _).sh (by decide), (ok_dat _).sh (by decide), _, rfl, ite2 (fun _ => ?_) (fun c => absurd (ok_dat _).eq c)⟩
    refine ⟨_, rfl, a, CB, dx, _, _, rfl, h1, T.B.cl, T.bh, rfl, _, rfl, a', CB, dx', _, _, rfl, g1, T.B.cl, T.bh, rfl, _, _, h3.dp, g3.dp, (ok_dat _).sh (by decide), (ok_dat _).sh (by decide), ?_⟩
    show Q (.bl (PyData.eqv (dat r) (dat r))) H
    rw [(ok_dat r).eq]
    exact k
end
end K1

set_option Elab.async false
set_option linter.all false
set_option maxRecDepth 100000
set_option maxHeartbeats 4000000
namespace K1
open PySem PySem.Spec PyProof.Rows L2
/-! ### bounds -/
def D0 : Nat := 6000018
def B0 : Nat := 6000018000000000
theorem D0p : 0 < D0 := by decide
theorem frL {n : Nat} {q : Rat} (h : Fr D0 (n * (B0 + B0)) q) (hn : n ≤ 100) : Len q :=
  (h.mono (Nat.mul_le_mul_right _ hn)).len D0p (by decide) (by decide)
theorem fr1 {q : Rat} (h : Fr D0 B0 q) : Len q := h.len D0p (by decide) (by decide)
/-- widths and the blank -/
def FrW (ws : Nat → Rat) (b : Rat) : Prop := (∀ i, Fr D0 B0 (ws i)) ∧ Fr D0 B0 b
theorem FrW.lo {ws : Nat → Rat} {b : Rat} (h : FrW ws b) {n : Nat} (hn : n ≤ 99) (c : Nat) : Len (lo b (fun j => ws (c + j)) n) ∧ Len (lo b (fun j => ws (c + j)) n + b) ∧ Fr D0 (n * (B0 + B0)) (K1.lo b (fun j => ws (c + j)) n) := by
  have z := lo_fr D0p h.2 (fun j => h.1 (c + j)) n
  refine ⟨frL z (by omega), frL (n := n + 1) ((z.add D0p h.2).mono ?_) (by omega), z⟩
  rw [Nat.succ_mul]
  omega
theorem le_dec (q r : Rat) : decide (q.num * (r.den : Int) ≤ r.num * (q.den : Int)) = decide (q ≤ r) := decide_eq_decide.mpr (Rat.le_iff q r).symm
theorem lt_dec (q r : Rat) : decide (q.num * (r.den : Int) < r.num * (q.den : Int)) = decide (q < r) := decide_eq_decide.mpr (Rat.lt_iff q r).symm
theorem same_upd' {H0 H : Hp} {p : Addr} {o : HO} (n : H0 p = none) (s : Same H0 H) : Same H0 (upd H p o) := fun b x e => by
  rw [upd_ne (ne_of_none e n)]
  exact s b x e
theorem NumAt.updl {H : Hp} {p : Addr} {xs : List V} {o : HO} {v : V} {q : Rat} (h : NumAt H v q) (hp : H p = some (.lst xs)) : NumAt (upd H p o) v q := by
  rcases h with h | ⟨e, r, rfl, hr⟩
  · exact .inl h
  · refine .inr ⟨e, r, rfl, ?_⟩
    rw [upd_ne (fun z => by subst z; rw [hp] at hr; cases hr)]
    exact hr
section
variable {P : Program} {w : World} {K : PySem.W.Frag} {mg : Str → Option Value} {base : Heap} {CW CB fI fE gI gE : Addr}
/-- the two comparisons and the sum, told by Rat -/
theorem spLe_q {v v' : V} {q r : Rat} {H : Hp} {Q : VK} {E : XK} (h : NumAt H v q) (h' : NumAt H v' r) (l : Len q) (l' : Len r) (k : ∀ H', Same H H' → Q (.bl (decide (q ≤ r))) H') : spLe [v, v'] H Q E :=
  ⟨v, v', q.num, r.num, q.den, r.den, rfl, h.p, h'.p, l.2, l'.2, fun H' s => by
    rw [le_dec]
    exact k H' s⟩
theorem spLt_q {v v' : V} {q r : Rat} {H : Hp} {Q : VK} {E : XK} (h : NumAt H v q) (h' : NumAt H v' r) (l : Len q) (l' : Len r) (k : ∀ H', Same H H' → Q (.bl (decide (q < r))) H') : spLt [v, v'] H Q E :=
  ⟨v, v', q.num, r.num, q.den, r.den, rfl, h.p, h'.p, l.2, l'.2, fun H' s => by
    rw [lt_dec]
    exact k H' s⟩
theorem spPlus_q {v v' : V} {q r : Rat} {H : Hp} {Q : VK} {E : XK} (h : NumAt H v q) (h' : NumAt H v' r) (l : Len q) (l' : Len r) (k : ∀ H' u, Same H H' → NumAt H' u (q + r) → Q u H') : spPlus [v, v'] H Q E :=
  ⟨v, v', q.num, r.num, q.den, r.den, rfl, h.p, h'.p, l.2, l'.2, fun H' u s e => k H' u s (by rw [Rat.add_def']; exact e)⟩
/-! ### least_width, most_width -/
def spLW (CW CB : Addr) (f : (Nat → Rat) → Rat → Nat → Rat) : Sp := fun vs H Q _ => ∃ a, vs = [.ref a] ∧
  ((∃ (t : Addr) (xs : List V) (vb vl vg : V) (ws : Nat → Rat) (b li g : Rat), WordsAt CW H a t xs vb vl vg ws b li g ∧ xs.length ≤ 20 ∧ FrW ws b ∧ ∀ H' v, Same H H' → NumAt H' v (f ws b xs.length) → Q v H') ∨
   (∃ (vw vh : V) (q r : Rat), BlockAt CB H a vw vh q r ∧ ∀ H', Same H H' → Q vw H'))
theorem scLW : FnScope ["content", "widest", "width"] ["content"] (defScope (top 57)) := ⟨rfl, rfl, rfl, by decide +kernel, rfl, by decide +kernel, by decide +kernel⟩
theorem ok_lw {f fC fL : Addr} {fd dC dL : FuncData} (F : FnP K "least_width" (top 57) f fd) (N : Nm mg) (T : T2 K mg CW CB fI fE gI gE) (d_check_content : D1 P w K mg base "check_content" "content" 1 (spCkC CW CB) fC dC) (d_at_most : D2 P w K mg base "at_most" "one" "other" 2 spLe fL dL) :
    FnOk P w K mg base CX0 3 f fd ["content"] (spLW CW CB fun ws _ n => mx ws n) := by
  refine F.ok scLW (fun vs H Q E h => ?_) (fun cdv A outer s H vs Q E hr h => ?_)
  · obtain ⟨a, rfl, _⟩ := h
    rfl
  · obtain ⟨a, rfl, h⟩ := h
    refine ⟨_, PSs.nox (pss_cons (ps_expr (pe_call d_check_content.G (hr.mono (by decide)) (by rfl) d_check_content.g d_check_content.kp d_check_content.b .nil pass0 (pa_cons (pv 0) pa_nil)))
  (pss_cons (ps_if (pt_val (pe_callB call_isi (by rfl) N.isi (by decide +kernel) (pa_cons (pv 0) (pa_cons (pe_glob (by rfl) T.B.gC (v := .ref CB) rfl) pa_nil))))
    (pss_one (ps_ret (pe_fld (pv 0) rfl)))
    pss_nil)
  (pss_cons (ps_set (i := 1) scLW.nd rfl (Or.inl rfl) pe_int)
  (pss_cons (ps_for PassesOwn.never rfl (pi_tup (pe_fld (pv 0) rfl))
    (pg_name (i := 2) scLW.nd rfl (Or.inl rfl))
    (pss_one (ps_if (pt_val (pe_call d_at_most.G (hr.mono (by decide)) (by rfl) d_at_most.g d_at_most.kp d_at_most.b .nil pass0 (pa_cons (pv 1) (pa_cons (pv 2) pa_nil))))
    (pss_one (ps_set (i := 1) scLW.nd rfl (Or.inl rfl) (pv 2)))
    pss_nil)))
  (pss_one (ps_ret (pv 1))))))), ?_⟩
    rcases h with ⟨t, xs, vb, vl, vg, ws, b, li, g, hW, hn, hf, k⟩ | ⟨vw, vh, q, r, hB, k⟩
    · obtain ⟨dx, h1⟩ := hW.1
      refine ⟨_, rfl, a, dx, _, rfl, .inl h1, fun H1 s1 => ?_⟩
      refine ⟨_, rfl, _, _, _, _, false, rfl, .own _, T.W.ty (s1 _ _ h1), T.kWB, false, rfl, iteF ?_⟩
      refine ⟨_, rfl, a, CW, dx, _, _, rfl, s1 _ _ h1, T.W.cl, T.aw, rfl, t, rfl, ⟨xs, SqT.of (s1 _ _ hW.2.1)⟩, for_tup (K := K) (a := t) (xs := xs) (fun i σ H' => Same H H' ∧ ∃ u v, NumAt H' u (mx ws i) ∧ σ = [some (.ref a), some u, v]) ⟨s1, _, _, numInt 0, rfl⟩ (fun i σ H' _ h => SqT.of (h.1 _ _ hW.2.1)) ?_ ?_⟩
      · rintro i x σ H2 hi ⟨s2, u, v, hu, rfl⟩
        have hx := (hW.2.2.1 i x hi).same s2
        refine ⟨_, rfl, _, rfl, spLe_q hu hx (fr1 (mx_fr hf.1 i)) (fr1 (hf.1 i)) fun H3 s3 => ⟨_, rfl, ite2 (fun c => ?_) (fun c => ?_)⟩⟩
        · have c := of_decide_eq_true c
          refine ⟨_, rfl, s2.trans s3, _, _, ?_, rfl⟩
          show NumAt H3 x (if mx ws i ≤ ws i then ws i else mx ws i)
          rw [if_pos c]
          exact hx.same s3
        · refine ⟨s2.trans s3, _, _, ?_, rfl⟩
          show NumAt H3 u (if mx ws i ≤ ws i then ws i else mx ws i)
          rw [if_neg (fun z => c (decide_eq_true z))]
          exact hu.same s3
      · rintro σ H2 ⟨s2, u, v, hu, rfl⟩
        exact ⟨_, rfl, k _ _ s2 hu⟩
    · obtain ⟨dx, h1⟩ := hB.1
      refine ⟨_, rfl, a, dx, _, rfl, .inr h1, fun H1 s1 => ?_⟩
      refine ⟨_, rfl, _, _, _, _, true, rfl, .own _, T.B.ty (s1 _ _ h1), T.B.self, true, rfl, iteT ?_⟩
      exact ⟨_, rfl, a, CB, dx, _, _, rfl, s1 _ _ h1, T.B.cl, T.bw, rfl, k _ s1⟩
theorem scMW : FnScope ["content", "total", "index", "width"] ["content"] (defScope (top 58)) := ⟨rfl, rfl, rfl, by decide +kernel, rfl, by decide +kernel, by decide +kernel⟩
theorem ok_mw {f fC fL : Addr} {fd dC dL : FuncData} (F : FnP K "most_width" (top 58) f fd) (N : Nm mg) (T : T2 K mg CW CB fI fE gI gE) (d_check_content : D1 P w K mg base "check_content" "content" 1 (spCkC CW CB) fC dC) (d_plus : D2 P w K mg base "plus" "one" "other" 2 spPlus fL dL) :
    FnOk P w K mg base CX0 3 f fd ["content"] (spLW CW CB fun ws b n => lo b ws n) := by
  refine F.ok scMW (fun vs H Q E h => ?_) (fun cdv A outer s H vs Q E hr h => ?_)
  · obtain ⟨a, rfl, h⟩ := h
    rfl
  · obtain ⟨a, rfl, h⟩ := h
    refine ⟨_, PSs.nox (pss_cons (ps_expr (pe_call d_check_content.G (hr.mono (by decide)) (by rfl) d_check_content.g d_check_content.kp d_check_content.b .nil pass0 (pa_cons (pv 0) pa_nil)))
  (pss_cons (ps_if (pt_val (pe_callB call_isi (by rfl) N.isi (by decide +kernel) (pa_cons (pv 0) (pa_cons (pe_glob (by rfl) T.B.gC (v := .ref CB) rfl) pa_nil))))
    (pss_one (ps_ret (pe_fld (pv 0) rfl)))
    pss_nil)
  (pss_cons (ps_set (i := 1) scMW.nd rfl (Or.inl rfl) pe_int)
  (pss_cons (ps_for PassesOwn.never rfl (pi_enumT (by rfl) N.enu (pa_cons (pe_fld (pv 0) rfl) pa_nil))
    (pg_tup rfl (pgs_cons (pg_name (i := 2) scMW.nd rfl (Or.inl rfl)) (pgs_cons (pg_name (i := 3) scMW.nd rfl (Or.inl rfl)) pgs_nil)))
    (pss_cons (ps_if (pt_cmpR op_gt (pv 2) pe_int (nomark _))
    (pss_one (ps_set (i := 1) scMW.nd rfl (Or.inl rfl) (pe_call d_plus.G (hr.mono (by decide)) (by rfl) d_plus.g d_plus.kp d_plus.b .nil pass0 (pa_cons (pv 1) (pa_cons (pe_fld (pv 0) rfl) pa_nil)))))
    pss_nil)
  (pss_one (ps_set (i := 1) scMW.nd rfl (Or.inl rfl) (pe_call d_plus.G (hr.mono (by decide)) (by rfl) d_plus.g d_plus.kp d_plus.b .nil pass0 (pa_cons (pv 1) (pa_cons (pv 3) pa_nil)))))))
  (pss_one (ps_ret (pv 1))))))), ?_⟩
    rcases h with ⟨t, xs, vb, vl, vg, ws, b, li, g, hW, hn, hf, k⟩ | ⟨vw, vh, q, r, hB, k⟩
    · obtain ⟨dx, h1⟩ := hW.1
      have e0 : (fun j => ws (0 + j)) = ws := funext fun j => by rw [Nat.zero_add]
      refine ⟨_, rfl, a, dx, _, rfl, .inl h1, fun H1 s1 => ?_⟩
      refine ⟨_, rfl, _, _, _, _, false, rfl, .own _, T.W.ty (s1 _ _ h1), T.kWB, false, rfl, iteF ?_⟩
      refine ⟨_, rfl, a, CW, dx, _, _, rfl, s1 _ _ h1, T.W.cl, T.aw, rfl, t, _, rfl, SqT.of (s1 _ _ hW.2.1), for_enumT (K := K) (a := t) (xs := xs) (fun i σ H' => Same H H' ∧ ∃ u v v2, NumAt H' u (lo b ws i) ∧ σ = [some (.ref a), some u, v, v2]) ⟨s1, _, _, _, numInt 0, rfl⟩ (fun i σ H' _ h => SqT.of (h.1 _ _ hW.2.1)) ?_ ?_⟩
      · rintro i x T2 σ H2 hi ⟨s2, u, v, v2, hu, rfl⟩ nT
        have hi' := (List.getElem?_eq_some_iff.mp hi).1
        refine ⟨T2, _, rfl, SqT.of upd_same, rfl, _, _, rfl, _, _, rfl, rfl, ?_⟩
        have s3 := s2.trans (same_upd (o := .tup [.int (i : Nat), x]) nT)
        have hx := (hW.2.2.1 i x hi).same s3
        have hu := hu.same (same_upd (o := .tup [.int (i : Nat), x]) nT)
        obtain ⟨l1, l2, _⟩ := hf.lo (n := i) (by omega) 0
        rw [e0] at l1 l2
        refine ⟨_, rfl, _, _, rfl, rfl, _, rfl, ite2 (fun c => ?_) (fun c => ?_)⟩
        · have c' : i ≠ 0 := fun z => by
            subst z
            exact absurd (of_decide_eq_true c) (by decide)
          refine ⟨_, rfl, _, rfl, a, CW, dx, _, _, rfl, s3 _ _ h1, T.W.cl, T.ab, rfl, spPlus_q hu (hW.2.2.2.1.same s3) l1 (fr1 hf.2) fun H4 u4 s4 e4 => ?_⟩
          refine ⟨_, rfl, _, rfl, spPlus_q e4 (hx.same s4) l2 (fr1 (hf.1 i)) fun H5 u5 s5 e5 => ⟨(s3.trans s4).trans s5, _, _, _, ?_, rfl⟩⟩
          show NumAt H5 u5 (lo b ws i + (if i = 0 then ws 0 else b + ws i))
          rw [if_neg c', ← Rat.add_assoc]
          exact e5
        · have c' : i = 0 := by
            apply Classical.byContradiction
            intro z
            exact c (decide_eq_true (by omega))
          subst c'
          refine ⟨_, rfl, _, rfl, spPlus_q hu hx l1 (fr1 (hf.1 0)) fun H5 u5 s5 e5 => ⟨s3.trans s5, _, _, _, e5, rfl⟩⟩
      · rintro σ H2 ⟨s2, u, v, v2, hu, rfl⟩
        exact ⟨_, rfl, k _ _ s2 hu⟩
    · obtain ⟨dx, h1⟩ := hB.1
      refine ⟨_, rfl, a, dx, _, rfl, .inr h1, fun H1 s1 => ?_⟩
      refine ⟨_, rfl, _, _, _, _, true, rfl, .own _, T.B.ty (s1 _ _ h1), T.B.self, true, rfl, iteT ?_⟩
      exact ⟨_, rfl, a, CB, dx, _, _, rfl, s1 _ _ h1, T.B.cl, T.bw, rfl, k _ s1⟩
end
end K1

set_option Elab.async false
set_option linter.all false
set_option maxRecDepth 100000
set_option maxHeartbeats 4000000
namespace K5
open PySem PySem.Spec PyProof.Rows L2 K1
/-! ### any data: what the program's questions answer -/
theorem tyT {K : PySem.W.Frag} {H : Hp} {a : Addr} {xs : List V} (h : SqT K H a xs) : TyX K H (.ref a) (.type "tuple") := by
  rcases h with (h | ⟨o, h⟩) | ⟨o, its, n, h, c, _⟩
  · exact .base (.tup h)
  · exact .fTuple h
  · exact .kTuple h c
theorem tyL {K : PySem.W.Frag} {H : Hp} {a : Addr} {xs : List V} (h : SqL K H a xs) : TyX K H (.ref a) (.type "list") := by
  rcases h with (h | ⟨o, h⟩) | ⟨o, its, n, h, c, _⟩
  · exact .base (.lst h)
  · exact .base (.frz h)
  · exact .kList h c
theorem Same.seqT {K : PySem.W.Frag} {H H' : Hp} {a : Addr} {xs : List V} (e : Same H H') (h : SqT K H a xs) : SqT K H' a xs := by
  rcases h with (h | ⟨o, h⟩) | h
  · exact .inl (.inl (e _ _ h))
  · exact .inl (.inr ⟨o, e _ _ h⟩)
  · exact .inr h
mutual
theorem dpS {K : PySem.W.Frag} {H H' : Hp} (e : Same H H') : ∀ {d : PyData} {v : V}, Dp K H v d → Dp K H' v d
  | .none, _, h => by cases h; exact .non
  | .bool _, _, h => by cases h; exact .bl _
  | .int _, _, h => by cases h; exact .int _
  | .str _, _, h => by cases h; exact .str _
  | .list ds, _, h => by
    cases h with
    | lst h1 h2 => exact .lst (Same.seq e h1) (dpSA e h2)
  | .tuple ds, _, h => by
    cases h with
    | tup h1 h2 => exact .tup (Same.seqT e h1) (dpSA e h2)
  | .dict _, _, h => nomatch h
theorem dpSA {K : PySem.W.Frag} {H H' : Hp} (e : Same H H') : ∀ {ds : List PyData} {vs : List V}, DpAll K H vs ds → DpAll K H' vs ds
  | [], _, h => by cases h; exact .nil
  | _ :: _, _, h => by
    cases h with
    | cons h1 h2 => exact .cons (dpS e h1) (dpSA e h2)
end
theorem dpLen {K : PySem.W.Frag} {H : Hp} : ∀ {vs : List V} {ds : List PyData}, DpAll K H vs ds → vs.length = ds.length
  | _, _, .nil => rfl
  | _, _, .cons _ h => congrArg (· + 1) (dpLen h)
theorem dpAt {K : PySem.W.Frag} {H : Hp} : ∀ {vs : List V} {ds : List PyData} (i : Nat) {d : PyData}, DpAll K H vs ds → ds[i]? = some d → ∃ v, vs[i]? = some v ∧ Dp K H v d
  | _, _, 0, _, .cons h _, e => by cases e; exact ⟨_, rfl, h⟩
  | _, _, i + 1, _, .cons _ h, e => dpAt i h e
  | _, _, 0, _, .nil, e => nomatch e
  | _, _, _ + 1, _, .nil, e => nomatch e
def tyN : PyData → String
  | .none => "NoneType" | .bool _ => "bool" | .int _ => "int" | .str _ => "str" | .list _ => "list" | .tuple _ => "tuple" | .dict _ => "dict"
theorem dpTy {K : PySem.W.Frag} {H : Hp} {v : V} {d : PyData} (h : Dp K H v d) : TyX K H v (.type (tyN d)) := by
  cases h with
  | non => exact .base .non
  | bl b => exact .base (.bl b)
  | int i => exact .base (.int i)
  | str x => exact .base (.str x)
  | lst h1 h2 => exact tyL h1
  | tup h1 h2 => exact tyT h1
def isTy (d : PyData) (t : String) : Bool := match d with
  | .bool _ => t == "bool" || t == "int"
  | d => t == tyN d
def tys : List String := ["int", "bool", "str", "tuple", "list"]
theorem kitD {K : PySem.W.Frag} (d : PyData) {t : String} (ht : t ∈ tys) : PySem.W.kitOne K (.type (tyN d)) (.type t) = some (isTy d t) := by
  refine kit_ty ?_
  simp only [tys, List.mem_cons, List.not_mem_nil, or_false] at ht
  rcases ht with rfl | rfl | rfl | rfl | rfl <;> cases d <;> (first | rfl | (simp only [tyN, isTy]; decide +kernel))
def isInt : PyData → Bool
  | .int _ => true
  | _ => false
def isNum : PyData → Bool
  | .int _ => true
  | .tuple [.int t, .int b] => decide (2 ≤ b) && decide (Nat.gcd t.natAbs b.natAbs = 1)
  | _ => false
def topOf : PyData → Int
  | .int i => i
  | .tuple [.int t, .int _] => t
  | _ => 0
def isLen (d : PyData) : Bool := isNum d && decide (0 ≤ topOf d)
section
variable {P : Program} {w : World} {K : PySem.W.Frag} {mg : Str → Option Value} {base : Heap}
/-- a question about a value: ans d for the data d, where ok d -/
def spQ (K : PySem.W.Frag) (ok : PyData → Prop) (ans : PyData → Bool) : Sp := fun vs H Q _ => ∃ (v : V) (d : PyData), vs = [v] ∧ Dp K H v d ∧ ok d ∧ ∀ H', Same H H' → Q (.bl (ans d)) H'
def any (_ : PyData) : Prop := True
theorem scInt : FnScope ["value"] ["value"] (defScope (top 29)) := ⟨rfl, rfl, rfl, by decide +kernel, rfl, by decide +kernel, by decide +kernel⟩
theorem ok_int {f : Addr} {fd : FuncData} (F : FnP K "is_integer" (top 29) f fd) (N : Nm mg) : FnOk P w K mg base CX0 1 f fd ["value"] (spQ K any isInt) := by
  refine F.ok scInt (fun vs H Q E h => ?_) (fun cdv A outer s H vs Q E hr h => ?_)
  · obtain ⟨v, d, rfl, _⟩ := h
    rfl
  · obtain ⟨v, d, rfl, hd, _, k⟩ := h
    refine ⟨_, PSs.nox (pss_one (ps_ret (pe_and (pe_callB call_isi (by rfl) N.isi (by decide +kernel) (pa_cons (pv 0) (pa_cons (pe_bltn (v := .ty "int") (u := .type "int") (by rfl) N.tint (by decide +kernel) rfl) pa_nil))) (pe_one (pe_not (pe_callB call_isi (by rfl) N.isi (by decide +kernel) (pa_cons (pv 0) (pa_cons (pe_bltn (v := .ty "bool") (u := .type "bool") (by rfl) N.tbool (by decide +kernel) rfl) pa_nil)))))))), ?_⟩
    refine ⟨_, rfl, _, _, _, _, _, rfl, .ty _, dpTy hd, kitD d (by decide), _, rfl, ite2 (fun c => ?_) (fun c => ?_)⟩
    · refine ⟨_, rfl, _, _, _, _, _, rfl, .ty _, dpTy hd, kitD d (by decide), _, rfl, ?_⟩
      have e : (!isTy d "bool") = isInt d := by
        cases d with
        | int i => rfl
        | bool b => rfl
        | _ => exact absurd c (by simp only [isTy, tyN]; decide)
      rw [e]
      exact k _ (Same.refl _)
    · have e : isInt d = false := by
        cases d with
        | int i => exact absurd (show isTy (.int i) "int" = true by simp only [isTy, tyN]; decide) c
        | _ => rfl
      have := k _ (Same.refl H)
      rw [e] at this
      exact this
end
end K5

set_option Elab.async false
set_option linter.all false
set_option maxRecDepth 100000
set_option maxHeartbeats 4000000
namespace K5
open PySem PySem.Spec PyProof.Rows L2
open K1 (FnP top Nm Sz wm)
structure D1 (P : Program) (w : World) (K : PySem.W.Frag) (mg : Str → Option Value) (base : Heap) (x p : Str) (k : Nat) (sp : Sp) (f : Addr) (fd : FuncData) : Prop where
  G : FnOk P w K mg base CX0 k f fd [p] sp
  g : mg x = some (.ref f)
  kp : PySem.W.keepIn K (.ref f) = true
  b : Binds K fd [p] []
structure D2 (P : Program) (w : World) (K : PySem.W.Frag) (mg : Str → Option Value) (base : Heap) (x p q : Str) (k : Nat) (sp : Sp) (f : Addr) (fd : FuncData) : Prop where
  G : FnOk P w K mg base CX0 k f fd [p, q] sp
  g : mg x = some (.ref f)
  kp : PySem.W.keepIn K (.ref f) = true
  b : Binds K fd [p, q] []
structure D3 (P : Program) (w : World) (K : PySem.W.Frag) (mg : Str → Option Value) (base : Heap) (x p q r : Str) (k : Nat) (sp : Sp) (f : Addr) (fd : FuncData) : Prop where
  G : FnOk P w K mg base CX0 k f fd [p, q, r] sp
  g : mg x = some (.ref f)
  kp : PySem.W.keepIn K (.ref f) = true
  b : Binds K fd [p, q, r] []
section
variable {P : Program} {w : World} {K : PySem.W.Frag} {mg : Str → Option Value} {base : Heap}
theorem scNum : FnScope ["value"] ["value"] (defScope (top 30)) := ⟨rfl, rfl, rfl, by decide +kernel, rfl, by decide +kernel, by decide +kernel⟩
theorem isNum_len {ds : List PyData} (h : ds.length ≠ 2) : isNum (.tuple ds) = false := by
  match ds, h with
  | [], _ => rfl
  | [_], _ => cases ‹PyData› <;> rfl
  | [_, _], h => exact absurd rfl h
  | a :: b :: _ :: _, _ => cases a <;> (try rfl) <;> cases b <;> rfl
theorem isInt_of {d : PyData} (h : isInt d = true) : ∃ i, d = .int i := by
  cases d with
  | int i => exact ⟨i, rfl⟩
  | _ => exact absurd h Bool.false_ne_true
theorem isNum_no1 {x y : PyData} (h : isInt x = false) : isNum (.tuple [x, y]) = false := by
  cases x with
  | int i => exact absurd h.symm Bool.false_ne_true
  | _ => rfl
theorem isNum_no2 {x y : PyData} (h : isInt y = false) : isNum (.tuple [x, y]) = false := by
  cases y with
  | int i => exact absurd h.symm Bool.false_ne_true
  | _ => cases x <;> rfl
theorem isNum_no {d : PyData} (h : isTy d "tuple" = false) : isNum d = isInt d := by
  cases d with
  | tuple ds => exact absurd h (by simp only [isTy, tyN]; decide)
  | _ => rfl
theorem isTy_tup {d : PyData} (h : isTy d "tuple" = true) : ∃ ds, d = .tuple ds := by
  cases d with
  | tuple ds => exact ⟨ds, rfl⟩
  | _ => exact absurd h (by simp only [isTy, tyN]; decide)
/-- the class of numbers that move: no data is of it -/
structure Mom (K : PySem.W.Frag) (mg : Str → Option Value) (CM : Addr) : Prop where
  g : mg "Moment" = some (.ref CM)
  k : ∀ d : PyData, PySem.W.kitOne K (.type (tyN d)) (.ref CM) = some false
theorem ok_num {f fI CM : Addr} {fd dI : FuncData} (F : FnP K "is_number" (top 30) f fd) (N : Nm mg) (Mo : Mom K mg CM) (d_is_integer : D1 P w K mg base "is_integer" "value" 1 (spQ K any isInt) fI dI) : FnOk P w K mg base CX0 2 f fd ["value"] (spQ K any isNum) := by
  refine F.ok scNum (fun vs H Q E h => ?_) (fun cdv A outer s H vs Q E hr h => ?_)
  · obtain ⟨v, d, rfl, _⟩ := h
    rfl
  · obtain ⟨v, d, rfl, hd, _, k⟩ := h
    refine ⟨_, PSs.nox (pss_cons (ps_if (pt_not (pt_val (pe_callB call_isi (by rfl) N.isi (by decide +kernel) (pa_cons (pv 0) (pa_cons (pe_bltn (v := .ty "tuple") (u := .type "tuple") (by rfl) N.ttup (by decide +kernel) rfl) pa_nil)))))
    (pss_one (ps_ret (pe_call d_is_integer.G (hr.mono (by decide)) (by rfl) d_is_integer.g d_is_integer.kp d_is_integer.b .nil pass0 (pa_cons (pv 0) pa_nil))))
    pss_nil)
  (pss_cons (ps_if (PW.pt (pw_and (pt_cmpR op_eq (pe_callB call_len_seq (by rfl) N.len PySem.boot_len (pa_cons (pv 0) pa_nil)) pe_int (nomark _)) (pw_and1 (pt_val (pe_callB call_isi (by rfl) N.isi (by decide +kernel) (pa_cons (pe_ix ix_tup (pv 0) pe_int (fun _ _ => rfl)) (pa_cons (pe_glob (by rfl) Mo.g (v := .ref CM) rfl) pa_nil)))))))
    (pss_one (ps_ret pe_bl))
    pss_nil)
  (pss_cons (ps_if (PW.pt (pw_or (pt_cmpR op_ne (pe_callB call_len_seq (by rfl) N.len PySem.boot_len (pa_cons (pv 0) pa_nil)) pe_int (nomark _)) (pw_or (pt_not (pt_val (pe_call d_is_integer.G (hr.mono (by decide)) (by rfl) d_is_integer.g d_is_integer.kp d_is_integer.b .nil pass0 (pa_cons (pe_ix ix_tup (pv 0) pe_int (fun _ _ => rfl)) pa_nil)))) (pw_or1 (pt_not (pt_val (pe_call d_is_integer.G (hr.mono (by decide)) (by rfl) d_is_integer.g d_is_integer.kp d_is_integer.b .nil pass0 (pa_cons (pe_ix ix_tup (pv 0) pe_int (fun _ _ => rfl)) pa_nil))))))))
    (pss_one (ps_ret pe_bl))
    pss_nil)
  (pss_one (ps_ret (pe_and (pe_cmpR op_ge (pe_ix ix_tup (pv 0) pe_int (fun _ _ => rfl)) pe_int (nomark _)) (pe_one (pe_cmpR op_eq (pe_callBfun cr_gcd (by rfl) N.gcd (pa_cons (pe_ix ix_tup (pv 0) pe_int (fun _ _ => rfl)) (pa_cons (pe_ix ix_tup (pv 0) pe_int (fun _ _ => rfl)) pa_nil))) pe_int (nomark _))))))))), ?_⟩
    refine ⟨_, rfl, _, _, _, _, _, rfl, .ty _, dpTy hd, kitD d (by decide), _, rfl, ite2 (fun c => ?_) (fun c => ?_)⟩
    · have c : isTy d "tuple" = false := Bool.not_eq_true' _ ▸ c
      refine ⟨_, rfl, v, d, rfl, hd, trivial, fun H' s => ?_⟩
      rw [← isNum_no c]
      exact k _ s
    · have c : isTy d "tuple" = true := by
        cases h : isTy d "tuple" with
        | true => rfl
        | false =>
          rw [h] at c
          exact absurd rfl c
      obtain ⟨ds, rfl⟩ := isTy_tup c
      cases hd with
      | tup ht hx =>
        rename_i p xs
        have hl := dpLen hx
        refine ⟨_, rfl, p, _, rfl, .inr ht, rfl, _, rfl, ite2 (fun c4 => ?_) (fun c4 => iteF ?_)⟩
        · have c4 : V.int (xs.length : Nat) = V.int 4 := of_decide_eq_true c4
          have l4 : ds.length = 4 := by
            injection c4 with c4
            omega
          obtain ⟨x3, e3⟩ : ∃ x3, ds[3]? = some x3 := ⟨_, List.getElem?_eq_getElem (by omega)⟩
          obtain ⟨u, eu, hu⟩ := dpAt 3 hx e3
          refine ⟨_, rfl, p, _, _, u, rfl, rfl, ht, atI_nat (j := 3) eu, _, _, _, _, false, rfl, .own _, dpTy hu, Mo.k _, false, rfl, iteF ?_⟩
          have e := isNum_len (ds := ds) (by omega)
          have q := k H (Same.refl H)
          rw [e] at q
          refine ⟨_, rfl, p, _, rfl, .inr ht, rfl, _, rfl, ite2 (fun _ => iteT q) (fun c2 => absurd ?_ c2)⟩
          show (!decide (V.int (xs.length : Nat) = V.int 2)) = true
          rw [decide_eq_false (fun e => by injection e with e; omega)]
          rfl
        refine ⟨_, rfl, p, _, rfl, .inr ht, rfl, _, rfl, ite2 (fun c2 => ?_) (fun c2 => ?_)⟩
        · have : ds.length ≠ 2 := fun z => by
            rw [hl, z] at c2
            exact absurd c2 (by decide)
          have e := isNum_len this
          have q := k H (Same.refl H)
          rw [e] at q
          exact iteT q
        · have h2 : ds.length = 2 := by
            apply Classical.byContradiction
            intro z
            apply c2
            show (!decide (V.int (xs.length : Nat) = V.int 2)) = true
            rw [decide_eq_false (fun e => by injection e with e; omega)]
            rfl
          obtain ⟨x, y, rfl⟩ : ∃ x y, ds = [x, y] := by
            match ds, h2 with
            | [x, y], _ => exact ⟨x, y, rfl⟩
          obtain ⟨u, eu, hu⟩ := dpAt 0 hx rfl
          obtain ⟨u2, eu2, hu2⟩ := dpAt 1 hx rfl
          refine ⟨_, rfl, p, _, _, u, rfl, rfl, ht, atI_nat (j := 0) eu, u, x, rfl, hu, trivial, fun H1 s1 => ⟨_, rfl, ite2 (fun c3 => ?_) (fun c3 => ?_)⟩⟩
          · have c3 : isInt x = false := Bool.not_eq_true' _ ▸ c3
            have q := k H1 s1
            rw [isNum_no1 c3] at q
            exact iteT q
          · have c3 : isInt x = true := by
              cases h : isInt x with
              | true => rfl
              | false =>
                rw [h] at c3
                exact absurd rfl c3
            refine ⟨_, rfl, p, _, _, u2, rfl, rfl, Same.seqT s1 ht, atI_nat (j := 1) eu2, u2, y, rfl, dpS s1 hu2, trivial, fun H2 s2 => ⟨_, rfl, ite2 (fun c4 => ?_) (fun c4 => ?_)⟩⟩
            · have c4 : isInt y = false := Bool.not_eq_true' _ ▸ c4
              have q := k H2 (s1.trans s2)
              rw [isNum_no2 c4] at q
              exact q
            · have c4 : isInt y = true := by
                cases h : isInt y with
                | true => rfl
                | false =>
                  rw [h] at c4
                  exact absurd rfl c4
              obtain ⟨t, rfl⟩ := isInt_of c3
              obtain ⟨b, rfl⟩ := isInt_of c4
              cases hu
              cases hu2
              have s12 := s1.trans s2
              have q := k H2 s12
              refine ⟨_, rfl, p, _, _, _, rfl, rfl, Same.seqT s12 ht, atI_nat (j := 1) eu2, _, _, rfl, rfl, _, rfl, ite2 (fun c5 => ?_) (fun c5 => ?_)⟩
              · refine ⟨_, rfl, p, _, _, _, rfl, rfl, Same.seqT s12 ht, atI_nat (j := 0) eu, _, rfl, p, _, _, _, rfl, rfl, Same.seqT s12 ht, atI_nat (j := 1) eu2, _, _, rfl, rfl, ?_⟩
                have e : isNum (.tuple [.int t, .int b]) = decide (V.int ((Nat.gcd t.natAbs b.natAbs : Nat) : Int) = V.int 1) := by
                  show (decide (2 ≤ b) && decide (Nat.gcd t.natAbs b.natAbs = 1)) = _
                  have c5 : 2 ≤ b := of_decide_eq_true c5
                  rw [decide_eq_true c5, Bool.true_and]
                  exact decide_eq_decide.mpr ⟨fun z => by rw [z] <;> rfl, fun z => by injection z with z; omega⟩
                rw [e] at q
                exact q
              · have e : isNum (.tuple [.int t, .int b]) = false := by
                  show (decide (2 ≤ b) && decide (Nat.gcd t.natAbs b.natAbs = 1)) = false
                  rw [decide_eq_false (fun z => c5 (decide_eq_true z))]
                  rfl
                rw [e] at q
                exact q
end
end K5

set_option Elab.async false
set_option linter.all false
set_option maxRecDepth 100000
set_option maxHeartbeats 4000000
namespace K5
open PySem PySem.Spec PyProof.Rows L2
open K1 (FnP top Nm Sz wm)
def NumD (K : PySem.W.Frag) (H : Hp) (v : V) (t : Int) (b : Nat) : Prop := (v = .int t ∧ b = 1) ∨ ∃ p, v = .ref p ∧ SqT K H p [.int t, .int (b : Int)]
theorem NumD.same {K : PySem.W.Frag} {H H' : Hp} {v : V} {t : Int} {b : Nat} (h : NumD K H v t b) (s : Same H H') : NumD K H' v t b := by
  rcases h with h | ⟨p, e, h⟩
  · exact .inl h
  · exact .inr ⟨p, e, Same.seqT s h⟩
def botOf : PyData → Int
  | .tuple [.int _, .int b] => b
  | _ => 1
/-- numbers of no great size -/
def okL (d : PyData) : Prop := isNum d = true → (topOf d).natAbs < 2 ^ 98 ∧ (botOf d).natAbs < 2 ^ 98
theorem num_shape {d : PyData} (h : isNum d = true) : (∃ i, d = .int i) ∨ ∃ t b, d = .tuple [.int t, .int b] ∧ 2 ≤ b := by
  unfold isNum at h
  split at h
  · exact .inl ⟨_, rfl⟩
  · rename_i t b
    exact .inr ⟨t, b, rfl, of_decide_eq_true (Bool.and_eq_true_iff.mp h).1⟩
  · cases h
theorem dpNum {K : PySem.W.Frag} {H : Hp} {v : V} {d : PyData} (h : isNum d = true) (hd : Dp K H v d) : ∃ b : Nat, 0 < b ∧ (b : Int) = botOf d ∧ NumD K H v (topOf d) b := by
  rcases num_shape h with ⟨i, rfl⟩ | ⟨t, b, rfl, hb⟩
  · cases hd
    exact ⟨1, by decide, rfl, .inl ⟨rfl, rfl⟩⟩
  · obtain ⟨n, rfl⟩ := Int.eq_ofNat_of_zero_le (show 0 ≤ b by omega)
    have n0 : 0 < n := by omega
    cases hd with
    | tup ht hx =>
      cases hx with
      | cons h1 h2 =>
        cases h1
        cases h2 with
        | cons h3 h4 =>
          cases h3
          cases h4
          exact ⟨n, n0, rfl, .inr ⟨_, rfl, ht⟩⟩
section
variable {P : Program} {w : World} {K : PySem.W.Frag} {mg : Str → Option Value} {base : Heap}
def spPair (K : PySem.W.Frag) : Sp := fun vs H Q _ => ∃ (v : V) (t : Int) (b : Nat), vs = [v] ∧ NumD K H v t b ∧ ∀ H' p, Same H H' → SqT K H' p [.int t, .int (b : Int)] → Q (.ref p) H'
theorem scFrac : FnScope ["number"] ["number"] (defScope (top 32)) := ⟨rfl, rfl, rfl, by decide +kernel, rfl, by decide +kernel, by decide +kernel⟩
theorem ok_frac {f : Addr} {fd : FuncData} (F : FnP K "fraction_of" (top 32) f fd) (N : Nm mg) : FnOk P w K mg base CX0 1 f fd ["number"] (spPair K) := by
  refine F.ok scFrac (fun vs H Q E h => ?_) (fun cdv A outer s H vs Q E hr h => ?_)
  · obtain ⟨v, t, b, rfl, _⟩ := h
    rfl
  · obtain ⟨v, t, b, rfl, hv, k⟩ := h
    refine ⟨_, PSs.nox (pss_cons (ps_if (pt_val (pe_callB call_isi (by rfl) N.isi (by decide +kernel) (pa_cons (pv 0) (pa_cons (pe_bltn (v := .ty "tuple") (u := .type "tuple") (by rfl) N.ttup (by decide +kernel) rfl) pa_nil))))
    (pss_one (ps_ret (pv 0)))
    pss_nil)
  (pss_one (ps_ret (pe_tup (pa_cons (pv 0) (pa_cons pe_int pa_nil)))))), ?_⟩
    rcases hv with ⟨rfl, rfl⟩ | ⟨p, rfl, hp⟩
    · refine ⟨_, rfl, _, _, _, _, false, rfl, .ty _, .base (.int _), kit_ty (by decide +kernel), false, rfl, iteF ?_⟩
      exact ⟨_, rfl, (by show 2 ≤ sizeLine; decide), fun q nq => k _ _ (same_upd nq) (SqT.of upd_same)⟩
    · refine ⟨_, rfl, _, _, _, _, true, rfl, .ty _, tyT hp, kit_ty (by decide +kernel), true, rfl, iteT ?_⟩
      exact ⟨_, rfl, k _ _ (Same.refl H) hp⟩
def spLe (K : PySem.W.Frag) : Sp := fun vs H Q _ => ∃ (v v' : V) (t t' : Int) (b b' : Nat), vs = [v, v'] ∧ NumD K H v t b ∧ NumD K H v' t' b' ∧ Sz t b ∧ Sz t' b' ∧ ∀ H', Same H H' → Q (.bl (decide (t * b' ≤ t' * b))) H'
def spMov (K : PySem.W.Frag) : Sp := fun vs H Q _ => ∃ (v : V) (t : Int) (b : Nat), vs = [v] ∧ NumD K H v t b ∧ Q (.bl false) H
theorem scMov : FnScope ["number"] ["number"] (defScope (top 34)) := ⟨rfl, rfl, rfl, by decide +kernel, rfl, by decide +kernel, by decide +kernel⟩
theorem ok_mov {f : Addr} {fd : FuncData} (F : FnP K "is_moving" (top 34) f fd) (N : Nm mg) : FnOk P w K mg base CX0 1 f fd ["number"] (spMov K) := by
  refine F.ok scMov (fun vs H Q E h => ?_) (fun cdv A outer s H vs Q E hr h => ?_)
  · obtain ⟨v, t, b, rfl, _⟩ := h
    rfl
  · obtain ⟨v, t, b, rfl, hv, k⟩ := h
    refine ⟨_, PSs.nox (pss_one (ps_ret (pe_and (pe_callB call_isi (by rfl) N.isi (by decide +kernel) (pa_cons (pv 0) (pa_cons (pe_bltn (v := .ty "tuple") (u := .type "tuple") (by rfl) N.ttup (by decide +kernel) rfl) pa_nil))) (pe_one (pe_cmpR op_eq (pe_callB call_len_seq (by rfl) N.len PySem.boot_len (pa_cons (pv 0) pa_nil)) pe_int (nomark _)))))), ?_⟩
    rcases hv with ⟨rfl, rfl⟩ | ⟨p, rfl, hp⟩
    · exact ⟨_, rfl, _, _, _, _, false, rfl, .ty _, .base (.int _), kit_ty (by decide +kernel), false, rfl, iteF k⟩
    · refine ⟨_, rfl, _, _, _, _, true, rfl, .ty _, tyT hp, kit_ty (by decide +kernel), true, rfl, iteT ?_⟩
      exact ⟨_, rfl, p, _, rfl, .inr hp, rfl, k⟩
theorem scLe : FnScope ["one", "other", "one_top", "one_bottom", "other_top", "other_bottom"] ["one", "other"] (defScope (top 41)) := ⟨rfl, rfl, rfl, by decide +kernel, rfl, by decide +kernel, by decide +kernel⟩
theorem ok_le {f fM fP : Addr} {fd dM dP : FuncData} (F : FnP K "at_most" (top 41) f fd) (N : Nm mg) (d_is_moving : D1 P w K mg base "is_moving" "number" 1 (spMov K) fM dM) (d_fraction_of : D1 P w K mg base "fraction_of" "number" 1 (spPair K) fP dP) : FnOk P w K mg base CX0 2 f fd ["one", "other"] (spLe K) := by
  refine F.ok scLe (fun vs H Q E h => ?_) (fun cdv A outer s H vs Q E hr h => ?_)
  · obtain ⟨v, v', t, t', b, b', rfl, _⟩ := h
    rfl
  · obtain ⟨v, v', t, t', b, b', rfl, hv, hv', z, z', k⟩ := h
    refine ⟨_, PSs.nox (pss_cons (ps_if (PW.pt (pw_and (pt_val (pe_callB call_isi (by rfl) N.isi (by decide +kernel) (pa_cons (pv 0) (pa_cons (pe_bltn (v := .ty "int") (u := .type "int") (by rfl) N.tint (by decide +kernel) rfl) pa_nil)))) (pw_and1 (pt_val (pe_callB call_isi (by rfl) N.isi (by decide +kernel) (pa_cons (pv 1) (pa_cons (pe_bltn (v := .ty "int") (u := .type "int") (by rfl) N.tint (by decide +kernel) rfl) pa_nil)))))))
    (pss_one (ps_ret (pe_cmpR op_le (pv 0) (pv 1) (nomark _))))
    pss_nil)
  (pss_cons (ps_if (PW.pt (pw_or (pt_val (pe_call d_is_moving.G (hr.mono (by decide)) (by rfl) d_is_moving.g d_is_moving.kp d_is_moving.b .nil pass0 (pa_cons (pv 0) pa_nil))) (pw_or1 (pt_val (pe_call d_is_moving.G (hr.mono (by decide)) (by rfl) d_is_moving.g d_is_moving.kp d_is_moving.b .nil pass0 (pa_cons (pv 1) pa_nil))))))
    pss_never
    pss_nil)
  (pss_cons (ps_asg (pe_call d_fraction_of.G (hr.mono (by decide)) (by rfl) d_fraction_of.g d_fraction_of.kp d_fraction_of.b .nil pass0 (pa_cons (pv 0) pa_nil)) (pg_tup rfl (pgs_cons (pg_name (i := 2) scLe.nd rfl (Or.inl rfl)) (pgs_cons (pg_name (i := 3) scLe.nd rfl (Or.inl rfl)) pgs_nil))))
  (pss_cons (ps_asg (pe_call d_fraction_of.G (hr.mono (by decide)) (by rfl) d_fraction_of.g d_fraction_of.kp d_fraction_of.b .nil pass0 (pa_cons (pv 1) pa_nil)) (pg_tup rfl (pgs_cons (pg_name (i := 4) scLe.nd rfl (Or.inl rfl)) (pgs_cons (pg_name (i := 5) scLe.nd rfl (Or.inl rfl)) pgs_nil))))
  (pss_one (ps_ret (pe_cmpR op_le (pe_op op_mulW (pv 2) (pv 5)) (pe_op op_mulW (pv 4) (pv 3)) (nomark _)))))))), ?_⟩
    have hw := hv
    have hw' := hv'
    rcases hv with ⟨rfl, rfl⟩ | ⟨p, rfl, hp⟩
    · refine ⟨_, rfl, _, _, _, _, true, rfl, .ty _, .base (.int _), kit_ty (by decide +kernel), true, rfl, iteT ?_⟩
      rcases hv' with ⟨rfl, rfl⟩ | ⟨p', rfl, hp'⟩
      · refine ⟨_, rfl, _, _, _, _, true, rfl, .ty _, .base (.int _), kit_ty (by decide +kernel), true, rfl, iteT ?_⟩
        refine ⟨_, rfl, _, rfl, _, _, rfl, rfl, ?_⟩
        have q := k H (Same.refl H)
        rw [show decide (t * ((1 : Nat) : Int) ≤ t' * ((1 : Nat) : Int)) = decide (t ≤ t') from decide_eq_decide.mpr (by omega)] at q
        exact q
      · refine ⟨_, rfl, _, _, _, _, false, rfl, .ty _, tyT hp', kit_ty (by decide +kernel), false, rfl, iteF ?_⟩
        refine ⟨_, rfl, _, _, _, rfl, hw, false, rfl, iteF ?_⟩
        refine ⟨_, rfl, _, _, _, rfl, hw', false, rfl, iteF ?_⟩
        refine ⟨_, rfl, _, _, _, rfl, hw, fun H1 p1 s1 e1 => ⟨p1, _, rfl, e1, rfl, _, _, rfl, _, _, rfl, rfl, ?_⟩⟩
        refine ⟨_, rfl, _, _, _, rfl, hw'.same s1, fun H2 p2 s2 e2 => ⟨p2, _, rfl, e2, rfl, _, _, rfl, _, _, rfl, rfl, ?_⟩⟩
        exact ⟨_, rfl, _, rfl, _, _, rfl, rfl, wm z.1 z'.2.2, _, rfl, _, rfl, _, _, rfl, rfl, wm z'.1 z.2.2, _, _, rfl, rfl, k _ (s1.trans s2)⟩
    · refine ⟨_, rfl, _, _, _, _, false, rfl, .ty _, tyT hp, kit_ty (by decide +kernel), false, rfl, iteF (iteF ?_)⟩
      refine ⟨_, rfl, _, _, _, rfl, hw, false, rfl, iteF ?_⟩
      refine ⟨_, rfl, _, _, _, rfl, hw', false, rfl, iteF ?_⟩
      refine ⟨_, rfl, _, _, _, rfl, hw, fun H1 p1 s1 e1 => ⟨p1, _, rfl, e1, rfl, _, _, rfl, _, _, rfl, rfl, ?_⟩⟩
      refine ⟨_, rfl, _, _, _, rfl, hw'.same s1, fun H2 p2 s2 e2 => ⟨p2, _, rfl, e2, rfl, _, _, rfl, _, _, rfl, rfl, ?_⟩⟩
      exact ⟨_, rfl, _, rfl, _, _, rfl, rfl, wm z.1 z'.2.2, _, rfl, _, rfl, _, _, rfl, rfl, wm z'.1 z.2.2, _, _, rfl, rfl, k _ (s1.trans s2)⟩
theorem scLen : FnScope ["value"] ["value"] (defScope (top 31)) := ⟨rfl, rfl, rfl, by decide +kernel, rfl, by decide +kernel, by decide +kernel⟩
theorem ok_len {f fN fL : Addr} {fd dN dL : FuncData} (F : FnP K "is_length" (top 31) f fd) (d_is_number : D1 P w K mg base "is_number" "value" 2 (spQ K any isNum) fN dN) (d_at_most : D2 P w K mg base "at_most" "one" "other" 2 (spLe K) fL dL) : FnOk P w K mg base CX0 3 f fd ["value"] (spQ K okL isLen) := by
  refine F.ok scLen (fun vs H Q E h => ?_) (fun cdv A outer s H vs Q E hr h => ?_)
  · obtain ⟨v, d, rfl, _⟩ := h
    rfl
  · obtain ⟨v, d, rfl, hd, hl, k⟩ := h
    refine ⟨_, PSs.nox (pss_one (ps_ret (pe_and (pe_call d_is_number.G (hr.mono (by decide)) (by rfl) d_is_number.g d_is_number.kp d_is_number.b .nil pass0 (pa_cons (pv 0) pa_nil)) (pe_one (pe_call d_at_most.G (hr.mono (by decide)) (by rfl) d_at_most.g d_at_most.kp d_at_most.b .nil pass0 (pa_cons pe_int (pa_cons (pv 0) pa_nil))))))), ?_⟩
    refine ⟨_, rfl, v, d, rfl, hd, trivial, fun H1 s1 => ⟨_, rfl, ite2 (fun c => ?_) (fun c => ?_)⟩⟩
    · obtain ⟨b, b0, eb, hn⟩ := dpNum c (dpS s1 hd)
      obtain ⟨l1, l2⟩ := hl c
      refine ⟨_, rfl, .int 0, v, 0, topOf d, 1, b, rfl, .inl ⟨rfl, rfl⟩, hn, ⟨by decide, by decide, by decide⟩, ⟨l1, b0, by omega⟩, fun H2 s2 => ?_⟩
      have q := k H2 (s1.trans s2)
      have e : isLen d = decide ((0 : Int) * (b : Int) ≤ topOf d * ((1 : Nat) : Int)) := by
        unfold isLen
        rw [c, Bool.true_and]
        exact decide_eq_decide.mpr (by constructor <;> intro z <;> omega)
      rw [e] at q
      exact q
    · have e : isLen d = false := by
        unfold isLen
        cases h : isNum d with
        | true => exact absurd h c
        | false => rfl
      have q := k H1 s1
      rw [e] at q
      exact q
/-! ### words, marks, names -/
def isStr : PyData → Option Str
  | .str z => some z
  | _ => none
def isWord (d : PyData) (ws : List Str) : Bool := match d with
  | .str z => ws.any fun w => w == z
  | _ => false
def spWord (K : PySem.W.Frag) : Sp := fun vs H Q _ => ∃ (v : V) (d : PyData) (p : Addr) (ws : List Str), vs = [v, .ref p] ∧ Dp K H v d ∧ SqT K H p (ws.map V.str) ∧ Q (.bl (isWord d ws)) H
theorem scWord : FnScope ["value", "words"] ["value", "words"] (defScope (top 14)) := ⟨rfl, rfl, rfl, by decide +kernel, rfl, by decide +kernel, by decide +kernel⟩
theorem inV_str (z : Str) (ws : List Str) : inV (.str z) (ws.map V.str) = ws.any fun w => w == z := by
  unfold inV
  rw [List.any_map]
  rfl
theorem ok_word {f : Addr} {fd : FuncData} (F : FnP K "is_word" (top 14) f fd) (N : Nm mg) (hs : mg "str" = none) : FnOk P w K mg base CX0 1 f fd ["value", "words"] (spWord K) := by
  refine F.ok scWord (fun vs H Q E h => ?_) (fun cdv A outer s H vs Q E hr h => ?_)
  · obtain ⟨v, d, p, ws, rfl, _⟩ := h
    rfl
  · obtain ⟨v, d, p, ws, rfl, hd, hp, k⟩ := h
    refine ⟨_, PSs.nox (pss_one (ps_ret (pe_and (pe_callB call_isi (by rfl) N.isi (by decide +kernel) (pa_cons (pv 0) (pa_cons (pe_bltn (v := .ty "str") (u := .type "str") (by rfl) hs (by decide +kernel) rfl) pa_nil))) (pe_one (pe_cmpR op_in_seq (pv 0) (pv 1) (by rfl)))))), ?_⟩
    refine ⟨_, rfl, _, _, _, _, _, rfl, .ty _, dpTy hd, kitD d (by decide), _, rfl, ite2 (fun c => ?_) (fun c => ?_)⟩
    · obtain ⟨z, rfl⟩ : ∃ z, d = .str z := by
        cases d with
        | str z => exact ⟨z, rfl⟩
        | _ => exact absurd c (by simp only [isTy, tyN]; decide)
      cases hd
      refine ⟨_, rfl, _, rfl, p, _, rfl, .inr hp, rfl, ?_, ?_⟩
      · rw [List.all_eq_true]
        intro x hx
        obtain ⟨y, _, rfl⟩ := List.mem_map.mp hx
        rfl
      · have q := k
        rw [show isWord (.str z) ws = inV (.str z) (ws.map V.str) from (inV_str z ws).symm] at q
        exact q
    · have e : isWord d ws = false := by
        cases d with
        | str z => exact absurd (show isTy (.str z) "str" = true by simp only [isTy, tyN]; decide) c
        | _ => rfl
      rw [e] at k
      exact k
def isMark (d : PyData) (z : Str) (n : Int) : Bool := match d with
  | .tuple ds => decide ((ds.length : Int) = n) && isWord (ds.headD .none) [z]
  | _ => false
/-- is_marked(value, word, many), many from 1 on -/
def spMark (K : PySem.W.Frag) : Sp := fun vs H Q _ => ∃ (v : V) (d : PyData) (z : Str) (n : Int), vs = [v, .str z, .int n] ∧ Dp K H v d ∧ 1 ≤ n ∧ ∀ H', Same H H' → Q (.bl (isMark d z n)) H'
theorem scMark : FnScope ["value", "word", "many"] ["value", "word", "many"] (defScope (top 15)) := ⟨rfl, rfl, rfl, by decide +kernel, rfl, by decide +kernel, by decide +kernel⟩
theorem ok_mark {f fW : Addr} {fd dW : FuncData} (F : FnP K "is_marked" (top 15) f fd) (N : Nm mg) (d_is_word : D2 P w K mg base "is_word" "value" "words" 1 (spWord K) fW dW) : FnOk P w K mg base CX0 2 f fd ["value", "word", "many"] (spMark K) := by
  refine F.ok scMark (fun vs H Q E h => ?_) (fun cdv A outer s H vs Q E hr h => ?_)
  · obtain ⟨v, d, z, n, rfl, _⟩ := h
    rfl
  · obtain ⟨v, d, z, n, rfl, hd, hn, k⟩ := h
    refine ⟨_, PSs.nox (pss_one (ps_ret (pe_and (pe_callB call_isi (by rfl) N.isi (by decide +kernel) (pa_cons (pv 0) (pa_cons (pe_bltn (v := .ty "tuple") (u := .type "tuple") (by rfl) N.ttup (by decide +kernel) rfl) pa_nil))) (pe_and (pe_cmpR op_eq (pe_callB call_len_seq (by rfl) N.len PySem.boot_len (pa_cons (pv 0) pa_nil)) (pv 2) (nomark _)) (pe_one (pe_call d_is_word.G (hr.mono (by decide)) (by rfl) d_is_word.g d_is_word.kp d_is_word.b .nil pass0 (pa_cons (pe_ix ix_tup (pv 0) pe_int (fun _ _ => rfl)) (pa_cons (pe_tup (pa_cons (pv 1) pa_nil)) pa_nil)))))))), ?_⟩
    refine ⟨_, rfl, _, _, _, _, _, rfl, .ty _, dpTy hd, kitD d (by decide), _, rfl, ite2 (fun c => ?_) (fun c => ?_)⟩
    · obtain ⟨ds, rfl⟩ := isTy_tup c
      cases hd with
      | tup ht hx =>
        rename_i p xs
        have hl := dpLen hx
        refine ⟨_, rfl, p, _, rfl, .inr ht, _, rfl, rfl, _, rfl, ite2 (fun c2 => ?_) (fun c2 => ?_)⟩
        · have c2 : ((xs.length : Nat) : Int) = n := by
            have c2 : V.int ((xs.length : Nat) : Int) = V.int n := of_decide_eq_true c2
            injection c2
          cases hx with
          | nil => exact absurd c2 (by show ((0 : Nat) : Int) ≠ n; omega)
          | @cons y ys e es hy hys =>
            refine ⟨_, rfl, p, _, _, y, rfl, rfl, ht, atI_nat (j := 0) rfl, _, rfl, (by show 1 ≤ sizeLine; decide), fun q nq => ?_⟩
            have s1 := same_upd (o := .tup [.str z]) nq
            refine ⟨y, e, q, [z], rfl, dpS s1 hy, SqT.of upd_same, ?_⟩
            have r := k _ s1
            have ee : isMark (.tuple (e :: es)) z n = isWord e [z] := by
              show (decide (((e :: es).length : Int) = n) && isWord e [z]) = _
              rw [← hl, decide_eq_true c2, Bool.true_and]
            rw [ee] at r
            exact r
        · have r := k _ (Same.refl H)
          have ee : isMark (.tuple ds) z n = false := by
            show (decide ((ds.length : Int) = n) && isWord (ds.headD .none) [z]) = false
            rw [← hl, decide_eq_false (fun e => c2 (decide_eq_true (show V.int ((xs.length : Nat) : Int) = V.int n by rw [e])))]
            rfl
          rw [ee] at r
          exact r
    · have e : isMark d z n = false := by
        cases d with
        | tuple ds => exact absurd (show isTy (.tuple ds) "tuple" = true by simp only [isTy, tyN]; decide) c
        | _ => rfl
      have r := k _ (Same.refl H)
      rw [e] at r
      exact r
end
end K5

set_option Elab.async false
set_option linter.all false
set_option maxRecDepth 100000
set_option maxHeartbeats 4000000
namespace K5
open PySem PySem.Spec PyProof.Rows L2
open K1 (FnP top Nm)
/-! ### questions that only put others together -/
def itemAt (d : PyData) (i : Nat) : PyData := match d with
  | .tuple ds => ds.getD i .none
  | _ => .none
def isPart (d : PyData) : Bool := isMark d "part" 2 && isLen (itemAt d 1)
def isShare (d : PyData) : Bool := isMark d "share" 2 && isLen (itemAt d 1)
def isFixed (d : PyData) : Bool := isLen d || isPart d
def sizeWords : List Str := ["least", "most", "auto"]
def isPlain (d : PyData) : Bool := isFixed d || isWord d sizeWords
def isBetw (d : PyData) : Bool := isMark d "between" 3 && (isPlain (itemAt d 1) && (isPlain (itemAt d 2) || isShare (itemAt d 2)))
def isUpto (d : PyData) : Bool := isMark d "upto" 2 && isFixed (itemAt d 1)
def isSize (d : PyData) : Bool := isPlain d || (isShare d || (isBetw d || isUpto d))
/-- numbers in it, two deep, of no great size -/
def okS (d : PyData) : Prop := okL d ∧ ∀ i, okL (itemAt d i)
def okB (d : PyData) : Prop := okS d ∧ ∀ i, okS (itemAt d i)
theorem mark_tup {d : PyData} {z : Str} {n : Nat} (h : isMark d z (n : Int) = true) : ∃ ds, d = .tuple ds ∧ ds.length = n := by
  cases d with
  | tuple ds =>
    refine ⟨ds, rfl, ?_⟩
    have h' : (decide ((ds.length : Int) = (n : Int)) && isWord (ds.headD .none) [z]) = true := h
    have := of_decide_eq_true (Bool.and_eq_true_iff.mp h').1
    omega
  | _ => exact absurd h Bool.false_ne_true
/-- value[i], where value is marked -/
theorem dpItem {K : PySem.W.Frag} {H : Hp} {v : V} {d : PyData} {z : Str} {n : Nat} (hd : Dp K H v d) (h : isMark d z (n : Int) = true) (i : Nat) (hi : i < n) : ∃ p xs u, v = .ref p ∧ SqT K H p xs ∧ xs[i]? = some u ∧ Dp K H u (itemAt d i) := by
  obtain ⟨ds, rfl, hl⟩ := mark_tup h
  cases hd with
  | @tup p xs _ ht hx =>
    have e : ds[i]? = some (itemAt (.tuple ds) i) := by
      show ds[i]? = some (ds.getD i .none)
      rw [List.getD_eq_getElem?_getD, List.getElem?_eq_getElem (by omega)]
      rfl
    obtain ⟨u, eu, hu⟩ := dpAt i hx e
    exact ⟨p, xs, u, rfl, ht, eu, hu⟩
section
variable {P : Program} {w : World} {K : PySem.W.Frag} {mg : Str → Option Value} {base : Heap}
theorem bq {A : Prop} {a b : Bool} {Q : VK} {H : Hp} (e : a = b) (h : Q (.bl a) H) : Q (.bl b) H := e ▸ h
theorem scPart : FnScope ["value"] ["value"] (defScope (top 73)) := ⟨rfl, rfl, rfl, by decide +kernel, rfl, by decide +kernel, by decide +kernel⟩
theorem ok_part {f fM fL : Addr} {fd dM dL : FuncData} (F : FnP K "is_part" (top 73) f fd) (d_is_marked : D3 P w K mg base "is_marked" "value" "word" "many" 2 (spMark K) fM dM) (d_is_length : D1 P w K mg base "is_length" "value" 3 (spQ K okL isLen) fL dL) : FnOk P w K mg base CX0 4 f fd ["value"] (spQ K okS isPart) := by
  refine F.ok scPart (fun vs H Q E h => ?_) (fun cdv A outer s H vs Q E hr h => ?_)
  · obtain ⟨v, d, rfl, _⟩ := h
    rfl
  · obtain ⟨v, d, rfl, hd, ho, k⟩ := h
    refine ⟨_, PSs.nox (pss_one (ps_ret (pe_and (pe_call d_is_marked.G (hr.mono (by decide)) (by rfl) d_is_marked.g d_is_marked.kp d_is_marked.b .nil pass0 (pa_cons (pv 0) (pa_cons pe_str (pa_cons pe_int pa_nil)))) (pe_one (pe_call d_is_length.G (hr.mono (by decide)) (by rfl) d_is_length.g d_is_length.kp d_is_length.b .nil pass0 (pa_cons (pe_ix ix_tup (pv 0) pe_int (fun _ _ => rfl)) pa_nil)))))), ?_⟩
    refine ⟨_, rfl, v, d, "part", 2, rfl, hd, by decide, fun H1 s1 => ⟨_, rfl, ite2 (fun c => ?_) (fun c => ?_)⟩⟩
    · obtain ⟨p, xs, u, rfl, ht, eu, hu⟩ := dpItem (n := 2) (dpS s1 hd) c 1 (by decide)
      refine ⟨_, rfl, p, xs, 1, u, rfl, rfl, ht, atI_nat (j := 1) eu, u, _, rfl, hu, ho.2 1, fun H2 s2 => bq (A := True) ?_ (k H2 (s1.trans s2))⟩
      show (isMark d "part" 2 && isLen (itemAt d 1)) = _
      rw [c, Bool.true_and]
    · refine bq (A := True) ?_ (k H1 s1)
      show (isMark d "part" 2 && isLen (itemAt d 1)) = _
      rw [Bool.eq_false_iff.mpr c, Bool.false_and]
theorem scShare : FnScope ["value"] ["value"] (defScope (top 74)) := ⟨rfl, rfl, rfl, by decide +kernel, rfl, by decide +kernel, by decide +kernel⟩
theorem ok_share {f fM fL : Addr} {fd dM dL : FuncData} (F : FnP K "is_share" (top 74) f fd) (d_is_marked : D3 P w K mg base "is_marked" "value" "word" "many" 2 (spMark K) fM dM) (d_is_length : D1 P w K mg base "is_length" "value" 3 (spQ K okL isLen) fL dL) : FnOk P w K mg base CX0 4 f fd ["value"] (spQ K okS isShare) := by
  refine F.ok scShare (fun vs H Q E h => ?_) (fun cdv A outer s H vs Q E hr h => ?_)
  · obtain ⟨v, d, rfl, _⟩ := h
    rfl
  · obtain ⟨v, d, rfl, hd, ho, k⟩ := h
    refine ⟨_, PSs.nox (pss_one (ps_ret (pe_and (pe_call d_is_marked.G (hr.mono (by decide)) (by rfl) d_is_marked.g d_is_marked.kp d_is_marked.b .nil pass0 (pa_cons (pv 0) (pa_cons pe_str (pa_cons pe_int pa_nil)))) (pe_one (pe_call d_is_length.G (hr.mono (by decide)) (by rfl) d_is_length.g d_is_length.kp d_is_length.b .nil pass0 (pa_cons (pe_ix ix_tup (pv 0) pe_int (fun _ _ => rfl)) pa_nil)))))), ?_⟩
    refine ⟨_, rfl, v, d, "share", 2, rfl, hd, by decide, fun H1 s1 => ⟨_, rfl, ite2 (fun c => ?_) (fun c => ?_)⟩⟩
    · obtain ⟨p, xs, u, rfl, ht, eu, hu⟩ := dpItem (n := 2) (dpS s1 hd) c 1 (by decide)
      refine ⟨_, rfl, p, xs, 1, u, rfl, rfl, ht, atI_nat (j := 1) eu, u, _, rfl, hu, ho.2 1, fun H2 s2 => bq (A := True) ?_ (k H2 (s1.trans s2))⟩
      show (isMark d "share" 2 && isLen (itemAt d 1)) = _
      rw [c, Bool.true_and]
    · refine bq (A := True) ?_ (k H1 s1)
      show (isMark d "share" 2 && isLen (itemAt d 1)) = _
      rw [Bool.eq_false_iff.mpr c, Bool.false_and]
theorem scFixed : FnScope ["value"] ["value"] (defScope (top 75)) := ⟨rfl, rfl, rfl, by decide +kernel, rfl, by decide +kernel, by decide +kernel⟩
theorem ok_fixed {f fM fL : Addr} {fd dM dL : FuncData} (F : FnP K "is_fixed" (top 75) f fd) (d_is_length : D1 P w K mg base "is_length" "value" 3 (spQ K okL isLen) fL dL) (d_is_part : D1 P w K mg base "is_part" "value" 4 (spQ K okS isPart) fM dM) : FnOk P w K mg base CX0 5 f fd ["value"] (spQ K okS isFixed) := by
  refine F.ok scFixed (fun vs H Q E h => ?_) (fun cdv A outer s H vs Q E hr h => ?_)
  · obtain ⟨v, d, rfl, _⟩ := h
    rfl
  · obtain ⟨v, d, rfl, hd, ho, k⟩ := h
    refine ⟨_, PSs.nox (pss_one (ps_ret (pe_or (pe_call d_is_length.G (hr.mono (by decide)) (by rfl) d_is_length.g d_is_length.kp d_is_length.b .nil pass0 (pa_cons (pv 0) pa_nil)) (pe_one (pe_call d_is_part.G (hr.mono (by decide)) (by rfl) d_is_part.g d_is_part.kp d_is_part.b .nil pass0 (pa_cons (pv 0) pa_nil)))))), ?_⟩
    refine ⟨_, rfl, v, d, rfl, hd, ho.1, fun H1 s1 => ⟨_, rfl, ite2 (fun c => ?_) (fun c => ?_)⟩⟩
    · refine bq (A := True) ?_ (k H1 s1)
      show (isLen d || isPart d) = _
      rw [c, Bool.true_or]
    · refine ⟨_, rfl, v, d, rfl, dpS s1 hd, ho, fun H2 s2 => bq (A := True) ?_ (k H2 (s1.trans s2))⟩
      show (isLen d || isPart d) = _
      rw [Bool.eq_false_iff.mpr c, Bool.false_or]
theorem scPlain : FnScope ["value"] ["value"] (defScope (top 76)) := ⟨rfl, rfl, rfl, by decide +kernel, rfl, by decide +kernel, by decide +kernel⟩
theorem ok_plain {f fM fL aS : Addr} {fd dM dL : FuncData} (F : FnP K "is_plain_size" (top 76) f fd) (d_is_fixed : D1 P w K mg base "is_fixed" "value" 5 (spQ K okS isFixed) fL dL) (d_is_word : D2 P w K mg base "is_word" "value" "words" 1 (spWord K) fM dM) (gS : mg "SIZE_WORDS" = some (.ref aS)) (hS : ∀ H, SqT K H aS (sizeWords.map V.str)) :
    FnOk P w K mg base CX0 6 f fd ["value"] (spQ K okS isPlain) := by
  refine F.ok scPlain (fun vs H Q E h => ?_) (fun cdv A outer s H vs Q E hr h => ?_)
  · obtain ⟨v, d, rfl, _⟩ := h
    rfl
  · obtain ⟨v, d, rfl, hd, ho, k⟩ := h
    refine ⟨_, PSs.nox (pss_one (ps_ret (pe_or (pe_call d_is_fixed.G (hr.mono (by decide)) (by rfl) d_is_fixed.g d_is_fixed.kp d_is_fixed.b .nil pass0 (pa_cons (pv 0) pa_nil)) (pe_one (pe_call d_is_word.G (hr.mono (by decide)) (by rfl) d_is_word.g d_is_word.kp d_is_word.b .nil pass0 (pa_cons (pv 0) (pa_cons (pe_glob (by rfl) gS (v := .ref aS) rfl) pa_nil))))))), ?_⟩
    refine ⟨_, rfl, v, d, rfl, hd, ho, fun H1 s1 => ⟨_, rfl, ite2 (fun c => ?_) (fun c => ?_)⟩⟩
    · refine bq (A := True) ?_ (k H1 s1)
      show (isFixed d || isWord d sizeWords) = _
      rw [c, Bool.true_or]
    · refine ⟨_, rfl, v, d, aS, sizeWords, rfl, dpS s1 hd, hS _, bq (A := True) ?_ (k H1 s1)⟩
      show (isFixed d || isWord d sizeWords) = _
      rw [Bool.eq_false_iff.mpr c, Bool.false_or]
theorem scUpto : FnScope ["value"] ["value"] (defScope (top 78)) := ⟨rfl, rfl, rfl, by decide +kernel, rfl, by decide +kernel, by decide +kernel⟩
theorem ok_upto {f fM fL : Addr} {fd dM dL : FuncData} (F : FnP K "is_upto" (top 78) f fd) (d_is_marked : D3 P w K mg base "is_marked" "value" "word" "many" 2 (spMark K) fM dM) (d_is_fixed : D1 P w K mg base "is_fixed" "value" 5 (spQ K okS isFixed) fL dL) : FnOk P w K mg base CX0 6 f fd ["value"] (spQ K okB isUpto) := by
  refine F.ok scUpto (fun vs H Q E h => ?_) (fun cdv A outer s H vs Q E hr h => ?_)
  · obtain ⟨v, d, rfl, _⟩ := h
    rfl
  · obtain ⟨v, d, rfl, hd, ho, k⟩ := h
    refine ⟨_, PSs.nox (pss_one (ps_ret (pe_and (pe_call d_is_marked.G (hr.mono (by decide)) (by rfl) d_is_marked.g d_is_marked.kp d_is_marked.b .nil pass0 (pa_cons (pv 0) (pa_cons pe_str (pa_cons pe_int pa_nil)))) (pe_one (pe_call d_is_fixed.G (hr.mono (by decide)) (by rfl) d_is_fixed.g d_is_fixed.kp d_is_fixed.b .nil pass0 (pa_cons (pe_ix ix_tup (pv 0) pe_int (fun _ _ => rfl)) pa_nil)))))), ?_⟩
    refine ⟨_, rfl, v, d, "upto", 2, rfl, hd, by decide, fun H1 s1 => ⟨_, rfl, ite2 (fun c => ?_) (fun c => ?_)⟩⟩
    · obtain ⟨p, xs, u, rfl, ht, eu, hu⟩ := dpItem (n := 2) (dpS s1 hd) c 1 (by decide)
      refine ⟨_, rfl, p, xs, 1, u, rfl, rfl, ht, atI_nat (j := 1) eu, u, _, rfl, hu, ho.2 1, fun H2 s2 => bq (A := True) ?_ (k H2 (s1.trans s2))⟩
      show (isMark d "upto" 2 && isFixed (itemAt d 1)) = _
      rw [c, Bool.true_and]
    · refine bq (A := True) ?_ (k H1 s1)
      show (isMark d "upto" 2 && isFixed (itemAt d 1)) = _
      rw [Bool.eq_false_iff.mpr c, Bool.false_and]
theorem scBetw : FnScope ["value"] ["value"] (defScope (top 77)) := ⟨rfl, rfl, rfl, by decide +kernel, rfl, by decide +kernel, by decide +kernel⟩
theorem ok_betw {f fM fL fS : Addr} {fd dM dL dS : FuncData} (F : FnP K "is_between" (top 77) f fd) (d_is_marked : D3 P w K mg base "is_marked" "value" "word" "many" 2 (spMark K) fM dM) (d_is_plain_size : D1 P w K mg base "is_plain_size" "value" 6 (spQ K okS isPlain) fL dL) (d_is_share : D1 P w K mg base "is_share" "value" 4 (spQ K okS isShare) fS dS) :
    FnOk P w K mg base CX0 7 f fd ["value"] (spQ K okB isBetw) := by
  refine F.ok scBetw (fun vs H Q E h => ?_) (fun cdv A outer s H vs Q E hr h => ?_)
  · obtain ⟨v, d, rfl, _⟩ := h
    rfl
  · obtain ⟨v, d, rfl, hd, ho, k⟩ := h
    refine ⟨_, PSs.nox (pss_cons (ps_if (PW.pt (pw_or (pt_not (pt_val (pe_call d_is_marked.G (hr.mono (by decide)) (by rfl) d_is_marked.g d_is_marked.kp d_is_marked.b .nil pass0 (pa_cons (pv 0) (pa_cons pe_str (pa_cons pe_int pa_nil)))))) (pw_or1 (pt_not (pt_val (pe_call d_is_plain_size.G (hr.mono (by decide)) (by rfl) d_is_plain_size.g d_is_plain_size.kp d_is_plain_size.b .nil pass0 (pa_cons (pe_ix ix_tup (pv 0) pe_int (fun _ _ => rfl)) pa_nil)))))))
    (pss_one (ps_ret pe_bl))
    pss_nil)
  (pss_one (ps_ret (pe_or (pe_call d_is_plain_size.G (hr.mono (by decide)) (by rfl) d_is_plain_size.g d_is_plain_size.kp d_is_plain_size.b .nil pass0 (pa_cons (pe_ix ix_tup (pv 0) pe_int (fun _ _ => rfl)) pa_nil)) (pe_one (pe_call d_is_share.G (hr.mono (by decide)) (by rfl) d_is_share.g d_is_share.kp d_is_share.b .nil pass0 (pa_cons (pe_ix ix_tup (pv 0) pe_int (fun _ _ => rfl)) pa_nil))))))), ?_⟩
    have ed : isBetw d = (isMark d "between" 3 && (isPlain (itemAt d 1) && (isPlain (itemAt d 2) || isShare (itemAt d 2)))) := rfl
    refine ⟨_, rfl, v, d, "between", 3, rfl, hd, by decide, fun H1 s1 => ⟨_, rfl, ite2 (fun c => ?_) (fun c => ?_)⟩⟩
    · have c : isMark d "between" 3 = false := Bool.not_eq_true' _ ▸ c
      exact iteT (bq (A := True) (by rw [ed, c, Bool.false_and]) (k H1 s1))
    · have c : isMark d "between" 3 = true := by
        cases h : isMark d "between" 3 with
        | true => rfl
        | false =>
          rw [h] at c
          exact absurd rfl c
      obtain ⟨p, xs, u, rfl, ht, eu, hu⟩ := dpItem (n := 3) (dpS s1 hd) c 1 (by decide)
      obtain ⟨p', xs', u2, e2, ht', eu2, hu2⟩ := dpItem (n := 3) (dpS s1 hd) c 2 (by decide)
      cases e2
      refine ⟨_, rfl, p, xs, 1, u, rfl, rfl, ht, atI_nat (j := 1) eu, u, _, rfl, hu, ho.2 1, fun H2 s2 => ⟨_, rfl, ite2 (fun c2 => ?_) (fun c2 => ?_)⟩⟩
      · have c2 : isPlain (itemAt d 1) = false := Bool.not_eq_true' _ ▸ c2
        exact bq (A := True) (by rw [ed, c, c2, Bool.false_and, Bool.and_false]) (k H2 (s1.trans s2))
      · have c2 : isPlain (itemAt d 1) = true := by
          cases h : isPlain (itemAt d 1) with
          | true => rfl
          | false =>
            rw [h] at c2
            exact absurd rfl c2
        refine ⟨_, rfl, p, xs', 2, u2, rfl, rfl, Same.seqT s2 ht', atI_nat (j := 2) eu2, u2, _, rfl, dpS s2 hu2, ho.2 2, fun H3 s3 => ⟨_, rfl, ite2 (fun c3 => ?_) (fun c3 => ?_)⟩⟩
        · exact bq (A := True) (by rw [ed, c, c2, c3]; rfl) (k H3 ((s1.trans s2).trans s3))
        · refine ⟨_, rfl, p, xs', 2, u2, rfl, rfl, Same.seqT (s2.trans s3) ht', atI_nat (j := 2) eu2, u2, _, rfl, dpS (s2.trans s3) hu2, ho.2 2, fun H4 s4 => bq (A := True) ?_ (k H4 (((s1.trans s2).trans s3).trans s4))⟩
          rw [ed, c, c2, Bool.eq_false_iff.mpr c3]
          rfl
theorem scSize : FnScope ["value"] ["value"] (defScope (top 79)) := ⟨rfl, rfl, rfl, by decide +kernel, rfl, by decide +kernel, by decide +kernel⟩
theorem ok_size {f f1 f2 f3 f4 : Addr} {fd d1 d2 d3 d4 : FuncData} (F : FnP K "is_size" (top 79) f fd) (d_is_plain_size : D1 P w K mg base "is_plain_size" "value" 6 (spQ K okS isPlain) f1 d1) (d_is_share : D1 P w K mg base "is_share" "value" 4 (spQ K okS isShare) f2 d2) (d_is_between : D1 P w K mg base "is_between" "value" 7 (spQ K okB isBetw) f3 d3) (d_is_upto : D1 P w K mg base "is_upto" "value" 6 (spQ K okB isUpto) f4 d4) :
    FnOk P w K mg base CX0 8 f fd ["value"] (spQ K okB isSize) := by
  refine F.ok scSize (fun vs H Q E h => ?_) (fun cdv A outer s H vs Q E hr h => ?_)
  · obtain ⟨v, d, rfl, _⟩ := h
    rfl
  · obtain ⟨v, d, rfl, hd, ho, k⟩ := h
    refine ⟨_, PSs.nox (pss_one (ps_ret (pe_or (pe_call d_is_plain_size.G (hr.mono (by decide)) (by rfl) d_is_plain_size.g d_is_plain_size.kp d_is_plain_size.b .nil pass0 (pa_cons (pv 0) pa_nil)) (pe_or (pe_call d_is_share.G (hr.mono (by decide)) (by rfl) d_is_share.g d_is_share.kp d_is_share.b .nil pass0 (pa_cons (pv 0) pa_nil)) (pe_or (pe_call d_is_between.G (hr.mono (by decide)) (by rfl) d_is_between.g d_is_between.kp d_is_between.b .nil pass0 (pa_cons (pv 0) pa_nil)) (pe_one (pe_call d_is_upto.G (hr.mono (by decide)) (by rfl) d_is_upto.g d_is_upto.kp d_is_upto.b .nil pass0 (pa_cons (pv 0) pa_nil)))))))), ?_⟩
    have ed : isSize d = (isPlain d || (isShare d || (isBetw d || isUpto d))) := rfl
    refine ⟨_, rfl, v, d, rfl, hd, ho.1, fun H1 s1 => ⟨_, rfl, ite2 (fun c => bq (A := True) (by rw [ed, c, Bool.true_or]) (k H1 s1)) (fun c => ?_)⟩⟩
    refine ⟨_, rfl, v, d, rfl, dpS s1 hd, ho.1, fun H2 s2 => ⟨_, rfl, ite2 (fun c2 => bq (A := True) (by rw [ed, c2, Bool.true_or, Bool.or_true]) (k H2 (s1.trans s2))) (fun c2 => ?_)⟩⟩
    have s12 := s1.trans s2
    refine ⟨_, rfl, v, d, rfl, dpS s12 hd, ho, fun H3 s3 => ⟨_, rfl, ite2 (fun c3 => bq (A := True) (by rw [ed, c3, Bool.true_or, Bool.or_true, Bool.or_true]) (k H3 (s12.trans s3))) (fun c3 => ?_)⟩⟩
    have s13 := s12.trans s3
    exact ⟨_, rfl, v, d, rfl, dpS s13 hd, ho, fun H4 s4 => bq (A := True) (by rw [ed, Bool.eq_false_iff.mpr c, Bool.eq_false_iff.mpr c2, Bool.eq_false_iff.mpr c3]; rfl) (k H4 (s13.trans s4))⟩
end
end K5

set_option Elab.async false
set_option linter.all false
set_option maxRecDepth 100000
set_option maxHeartbeats 4000000
namespace K5
open PySem PySem.Spec PyProof.Rows L2
open K1 (FnP top Nm Sz wm dat)
/-! ### numbers as so many 1728ths -/
theorem NumD.dat {K : PySem.W.Frag} {H : Hp} {v : V} {q : Rat} (h : Dp K H v (dat q)) : NumD K H v q.num q.den := by
  unfold K1.dat at h
  by_cases e : q.den = 1
  · rw [if_pos e] at h
    cases h
    exact .inl ⟨rfl, e⟩
  · rw [if_neg e] at h
    cases h with
    | tup ht hx =>
      cases hx with
      | cons h1 h2 =>
        cases h1
        cases h2 with
        | cons h3 h4 =>
          cases h3
          cases h4
          exact .inr ⟨_, rfl, ht⟩
def nq (n : Int) : PyData := dat (mkRat n 1728)
abbrev U (K : PySem.W.Frag) (H : Hp) (v : V) (n : Int) : Prop := Dp K H v (nq n)
theorem nq_int (i : Int) : nq (1728 * i) = .int i := by
  have e : mkRat (1728 * i) 1728 = (i : Rat) := by
    have h : mkRat (1728 * i) 1728 = mkRat i 1 := (Rat.mkRat_eq_iff (by decide) (by decide)).mpr (by omega)
    rw [h]
    exact Rat.mkRat_one i
  unfold nq
  rw [e]
  unfold K1.dat
  rw [if_pos (Rat.den_intCast ..), Rat.num_intCast]
theorem U.int {K : PySem.W.Frag} {H : Hp} (i : Int) : U K H (.int i) (1728 * i) := by
  show Dp K H _ (nq (1728 * i))
  rw [nq_int]
  exact .int i
theorem U.same {K : PySem.W.Frag} {H H' : Hp} {v : V} {n : Int} (h : U K H v n) (s : Same H H') : U K H' v n := dpS s h
theorem nq_cross (n : Int) : (mkRat n 1728).num * 1728 = n * ((mkRat n 1728).den : Int) := by
  have h := Rat.mkRat_self (mkRat n 1728)
  exact (Rat.mkRat_eq_iff (Nat.ne_of_gt (mkRat n 1728).den_pos) (by decide)).mp h
theorem nq_den (n : Int) : 0 < (mkRat n 1728).den ∧ (mkRat n 1728).den ≤ 1728 := by
  refine ⟨(mkRat n 1728).den_pos, ?_⟩
  rw [K1.mk_den (by decide)]
  exact Nat.div_le_self _ _
abbrev Bn (n : Int) : Prop := -1000000000000000000 ≤ n ∧ n ≤ 1000000000000000000
theorem nq_sz {n : Int} (h : Bn n) : Sz (mkRat n 1728).num (mkRat n 1728).den := by
  have h1 := nq_cross n
  obtain ⟨d0, d1⟩ := nq_den n
  refine ⟨?_, d0, Nat.lt_of_le_of_lt d1 (by decide)⟩
  have h2 : (mkRat n 1728).num.natAbs ≤ n.natAbs := by
    rw [K1.mk_num (by decide)]
    exact Int.natAbs_ediv_le_natAbs _ _
  omega
theorem cross_le {a b n m p q : Int} (h1 : a * 1728 = n * p) (h2 : b * 1728 = m * q) (p0 : 0 < p) (q0 : 0 < q) : (a * q ≤ b * p) ↔ n ≤ m := by
  have e1 : a * q * 1728 = n * (p * q) := by rw [Int.mul_right_comm, h1, Int.mul_assoc]
  have e2 : b * p * 1728 = m * (p * q) := by rw [Int.mul_right_comm, h2, Int.mul_assoc, Int.mul_comm q p]
  have pq : 0 < p * q := Int.mul_pos p0 q0
  constructor
  · intro h
    exact Int.le_of_mul_le_mul_right (by omega) pq
  · intro h
    have := Int.mul_le_mul_of_nonneg_right h (Int.le_of_lt pq)
    omega
theorem nq_le (n m : Int) : decide ((mkRat n 1728).num * ((mkRat m 1728).den : Int) ≤ (mkRat m 1728).num * ((mkRat n 1728).den : Int)) = decide (n ≤ m) :=
  decide_eq_decide.mpr (cross_le (nq_cross n) (nq_cross m) (Int.natCast_pos.mpr (nq_den n).1) (Int.natCast_pos.mpr (nq_den m).1))
def plusR (t : Int) (b : Nat) (t' : Int) (b' : Nat) : Rat := mkRat (t * b' + t' * b) (b * b')
def minusR (t : Int) (b : Nat) (t' : Int) (b' : Nat) : Rat := mkRat (t * b' - t' * b) (b * b')
def timesR (t : Int) (b : Nat) (t' : Int) (b' : Nat) : Rat := mkRat (t * t') (b * b')
theorem nq_eqv {x : Int} {p q : Nat} {r : Int} (p0 : 0 < p) (q0 : 0 < q) (h : x * 1728 = r * ((p : Int) * (q : Int))) : mkRat x (p * q) = mkRat r 1728 := by
  refine (Rat.mkRat_eq_iff (Nat.ne_of_gt (Nat.mul_pos p0 q0)) (by decide)).mpr ?_
  rw [Int.natCast_mul]
  exact h
theorem nq_plus (n m : Int) : plusR (mkRat n 1728).num (mkRat n 1728).den (mkRat m 1728).num (mkRat m 1728).den = mkRat (n + m) 1728 := by
  have h1 := nq_cross n
  have h2 := nq_cross m
  refine nq_eqv (nq_den n).1 (nq_den m).1 ?_
  generalize ((mkRat n 1728).den : Int) = p at *
  generalize ((mkRat m 1728).den : Int) = q at *
  generalize (mkRat n 1728).num = a at *
  generalize (mkRat m 1728).num = b at *
  have e1 : a * q * 1728 = n * (p * q) := by rw [Int.mul_right_comm, h1, Int.mul_assoc]
  have e2 : b * p * 1728 = m * (p * q) := by rw [Int.mul_right_comm, h2, Int.mul_assoc, Int.mul_comm q p]
  rw [Int.add_mul, e1, e2, Int.add_mul]
theorem nq_minus (n m : Int) : minusR (mkRat n 1728).num (mkRat n 1728).den (mkRat m 1728).num (mkRat m 1728).den = mkRat (n - m) 1728 := by
  have h1 := nq_cross n
  have h2 := nq_cross m
  refine nq_eqv (nq_den n).1 (nq_den m).1 ?_
  generalize ((mkRat n 1728).den : Int) = p at *
  generalize ((mkRat m 1728).den : Int) = q at *
  generalize (mkRat n 1728).num = a at *
  generalize (mkRat m 1728).num = b at *
  have e1 : a * q * 1728 = n * (p * q) := by rw [Int.mul_right_comm, h1, Int.mul_assoc]
  have e2 : b * p * 1728 = m * (p * q) := by rw [Int.mul_right_comm, h2, Int.mul_assoc, Int.mul_comm q p]
  rw [Int.sub_mul, e1, e2, Int.sub_mul]
theorem nq_times {n m r : Int} (h : n * m = 1728 * r) : timesR (mkRat n 1728).num (mkRat n 1728).den (mkRat m 1728).num (mkRat m 1728).den = mkRat r 1728 := by
  have h1 := nq_cross n
  have h2 := nq_cross m
  refine nq_eqv (nq_den n).1 (nq_den m).1 ?_
  generalize ((mkRat n 1728).den : Int) = p at *
  generalize ((mkRat m 1728).den : Int) = q at *
  generalize (mkRat n 1728).num = a at *
  generalize (mkRat m 1728).num = b at *
  have e : (a * b * 1728) * 1728 = (r * (p * q)) * 1728 := by
    rw [show a * b * 1728 * 1728 = (a * 1728) * (b * 1728) by
      rw [Int.mul_right_comm a b, Int.mul_assoc (a * 1728)]]
    rw [h1, h2, show n * p * (m * q) = (n * m) * (p * q) by
      rw [Int.mul_assoc, Int.mul_left_comm p m q, ← Int.mul_assoc]]
    rw [h, Int.mul_assoc 1728, Int.mul_comm 1728]
  omega
theorem nq_num (n : Int) : isNum (nq n) = true := by
  unfold nq K1.dat
  by_cases e : (mkRat n 1728).den = 1
  · rw [if_pos e]
    rfl
  · rw [if_neg e]
    show (decide (2 ≤ ((mkRat n 1728).den : Int)) && decide (Nat.gcd (mkRat n 1728).num.natAbs ((mkRat n 1728).den : Int).natAbs = 1)) = true
    rw [decide_eq_true (K1.red2 e), Int.natAbs_natCast, decide_eq_true (mkRat n 1728).reduced]
    rfl
theorem nq_top (n : Int) : topOf (nq n) = (mkRat n 1728).num ∧ botOf (nq n) = ((mkRat n 1728).den : Int) := by
  unfold nq K1.dat
  by_cases e : (mkRat n 1728).den = 1
  · rw [if_pos e]
    exact ⟨rfl, by rw [e]; rfl⟩
  · rw [if_neg e]
    exact ⟨rfl, rfl⟩
theorem nq_okL {n : Int} (h : Bn n) : okL (nq n) := fun _ => by
  rw [(nq_top n).1, (nq_top n).2, Int.natAbs_natCast]
  exact ⟨(nq_sz h).1, (nq_sz h).2.2⟩
theorem nq_len (n : Int) : isLen (nq n) = decide (0 ≤ n) := by
  unfold isLen
  rw [nq_num, Bool.true_and, (nq_top n).1]
  refine decide_eq_decide.mpr ?_
  have h := nq_cross n
  have d0 : 0 < ((mkRat n 1728).den : Int) := Int.natCast_pos.mpr (nq_den n).1
  generalize ((mkRat n 1728).den : Int) = p at *
  generalize (mkRat n 1728).num = a at *
  constructor
  · intro z
    exact Int.le_of_mul_le_mul_right (a := p) (by rw [Int.zero_mul]; omega) d0
  · intro z
    have := Int.mul_le_mul_of_nonneg_right z (Int.le_of_lt d0)
    rw [Int.zero_mul] at this
    omega
section
variable {P : Program} {w : World} {K : PySem.W.Frag} {mg : Str → Option Value} {base : Heap}
def spAr (K : PySem.W.Frag) (R : Int → Nat → Int → Nat → Rat) : Sp := fun vs H Q _ => ∃ (v v' : V) (t t' : Int) (b b' : Nat), vs = [v, v'] ∧ NumD K H v t b ∧ NumD K H v' t' b' ∧ Sz t b ∧ Sz t' b' ∧ ∀ H' u, Same H H' → Dp K H' u (dat (R t b t' b')) → Q u H'
theorem scPlus : FnScope ["one", "other", "one_top", "one_bottom", "other_top", "other_bottom"] ["one", "other"] (defScope (top 44)) := ⟨rfl, rfl, rfl, by decide +kernel, rfl, by decide +kernel, by decide +kernel⟩
theorem ok_plus {f fM fP fN : Addr} {fd dM dP dN : FuncData} (F : FnP K "plus" (top 44) f fd) (N : Nm mg) (d_is_moving : D1 P w K mg base "is_moving" "number" 1 (spMov K) fM dM) (d_fraction_of : D1 P w K mg base "fraction_of" "number" 1 (spPair K) fP dP) (d_number_of : K1.D2 P w K mg base "number_of" "top" "bottom" 1 K1.spMkN fN dN) : FnOk P w K mg base CX0 2 f fd ["one", "other"] (spAr K plusR) := by
  refine F.ok scPlus (fun vs H Q E h => ?_) (fun cdv A outer s H vs Q E hr h => ?_)
  · obtain ⟨v, v', t, t', b, b', rfl, _⟩ := h
    rfl
  · obtain ⟨v, v', t, t', b, b', rfl, hv, hv', z, z', k⟩ := h
    refine ⟨_, PSs.nox (pss_cons (ps_if (PW.pt (pw_and (pt_val (pe_callB call_isi (by rfl) N.isi (by decide +kernel) (pa_cons (pv 0) (pa_cons (pe_bltn (v := .ty "int") (u := .type "int") (by rfl) N.tint (by decide +kernel) rfl) pa_nil)))) (pw_and1 (pt_val (pe_callB call_isi (by rfl) N.isi (by decide +kernel) (pa_cons (pv 1) (pa_cons (pe_bltn (v := .ty "int") (u := .type "int") (by rfl) N.tint (by decide +kernel) rfl) pa_nil)))))))
    (pss_one (ps_ret (pe_op op_add (pv 0) (pv 1))))
    pss_nil)
  (pss_cons (ps_if (PW.pt (pw_or (pt_val (pe_call d_is_moving.G (hr.mono (by decide)) (by rfl) d_is_moving.g d_is_moving.kp d_is_moving.b .nil pass0 (pa_cons (pv 0) pa_nil))) (pw_or1 (pt_val (pe_call d_is_moving.G (hr.mono (by decide)) (by rfl) d_is_moving.g d_is_moving.kp d_is_moving.b .nil pass0 (pa_cons (pv 1) pa_nil))))))
    pss_never
    pss_nil)
  (pss_cons (ps_asg (pe_call d_fraction_of.G (hr.mono (by decide)) (by rfl) d_fraction_of.g d_fraction_of.kp d_fraction_of.b .nil pass0 (pa_cons (pv 0) pa_nil)) (pg_tup rfl (pgs_cons (pg_name (i := 2) scPlus.nd rfl (Or.inl rfl)) (pgs_cons (pg_name (i := 3) scPlus.nd rfl (Or.inl rfl)) pgs_nil))))
  (pss_cons (ps_asg (pe_call d_fraction_of.G (hr.mono (by decide)) (by rfl) d_fraction_of.g d_fraction_of.kp d_fraction_of.b .nil pass0 (pa_cons (pv 1) pa_nil)) (pg_tup rfl (pgs_cons (pg_name (i := 4) scPlus.nd rfl (Or.inl rfl)) (pgs_cons (pg_name (i := 5) scPlus.nd rfl (Or.inl rfl)) pgs_nil))))
  (pss_one (ps_ret (pe_call d_number_of.G (hr.mono (by decide)) (by rfl) d_number_of.g d_number_of.kp d_number_of.b .nil pass0 (pa_cons (pe_op op_add (pe_op op_mulW (pv 2) (pv 5)) (pe_op op_mulW (pv 4) (pv 3))) (pa_cons (pe_op op_mulW (pv 3) (pv 5)) pa_nil))))))))), ?_⟩
    have hw := hv
    have hw' := hv'
    have tail : ∀ {H1 H2 : Hp}, Same H H1 → Same H1 H2 → K1.spMkN [.int (t * b' + t' * b), .int ((b : Int) * (b' : Int))] H2 Q E := fun s1 s2 =>
      ⟨t * b' + t' * b, b * b', by rw [Int.natCast_mul], (z.bot z').1, (z.bot z').2, fun H3 v3 s3 e3 => k _ _ ((s1.trans s2).trans s3) e3.dp⟩
    rcases hv with ⟨rfl, rfl⟩ | ⟨p, rfl, hp⟩
    · refine ⟨_, rfl, _, _, _, _, true, rfl, .ty _, .base (.int _), kit_ty (by decide +kernel), true, rfl, iteT ?_⟩
      rcases hv' with ⟨rfl, rfl⟩ | ⟨p', rfl, hp'⟩
      · refine ⟨_, rfl, _, _, _, _, true, rfl, .ty _, .base (.int _), kit_ty (by decide +kernel), true, rfl, iteT ?_⟩
        refine ⟨_, rfl, _, rfl, _, _, rfl, rfl, ?_⟩
        refine k _ _ (Same.refl H) ?_
        show Dp K H _ (dat (mkRat (t * ((1 : Nat) : Int) + t' * ((1 : Nat) : Int)) (1 * 1)))
        rw [show t * ((1 : Nat) : Int) + t' * ((1 : Nat) : Int) = t + t' by omega]
        exact (K1.mk_one _).dp
      · refine ⟨_, rfl, _, _, _, _, false, rfl, .ty _, tyT hp', kit_ty (by decide +kernel), false, rfl, iteF ?_⟩
        refine ⟨_, rfl, _, _, _, rfl, hw, false, rfl, iteF ?_⟩
        refine ⟨_, rfl, _, _, _, rfl, hw', false, rfl, iteF ?_⟩
        refine ⟨_, rfl, _, _, _, rfl, hw, fun H1 p1 s1 e1 => ⟨p1, _, rfl, e1, rfl, _, _, rfl, _, _, rfl, rfl, ?_⟩⟩
        refine ⟨_, rfl, _, _, _, rfl, hw'.same s1, fun H2 p2 s2 e2 => ⟨p2, _, rfl, e2, rfl, _, _, rfl, _, _, rfl, rfl, ?_⟩⟩
        exact ⟨_, rfl, _, rfl, _, _, rfl, rfl, wm z.1 z'.2.2, _, rfl, _, rfl, _, _, rfl, rfl, wm z'.1 z.2.2, _, _, rfl, rfl, _, rfl, _, rfl, _, _, rfl, rfl, wm z.2.2 z'.2.2, tail s1 s2⟩
    · refine ⟨_, rfl, _, _, _, _, false, rfl, .ty _, tyT hp, kit_ty (by decide +kernel), false, rfl, iteF (iteF ?_)⟩
      refine ⟨_, rfl, _, _, _, rfl, hw, false, rfl, iteF ?_⟩
      refine ⟨_, rfl, _, _, _, rfl, hw', false, rfl, iteF ?_⟩
      refine ⟨_, rfl, _, _, _, rfl, hw, fun H1 p1 s1 e1 => ⟨p1, _, rfl, e1, rfl, _, _, rfl, _, _, rfl, rfl, ?_⟩⟩
      refine ⟨_, rfl, _, _, _, rfl, hw'.same s1, fun H2 p2 s2 e2 => ⟨p2, _, rfl, e2, rfl, _, _, rfl, _, _, rfl, rfl, ?_⟩⟩
      exact ⟨_, rfl, _, rfl, _, _, rfl, rfl, wm z.1 z'.2.2, _, rfl, _, rfl, _, _, rfl, rfl, wm z'.1 z.2.2, _, _, rfl, rfl, _, rfl, _, rfl, _, _, rfl, rfl, wm z.2.2 z'.2.2, tail s1 s2⟩
theorem scMinus : FnScope ["one", "other", "one_top", "one_bottom", "other_top", "other_bottom"] ["one", "other"] (defScope (top 45)) := ⟨rfl, rfl, rfl, by decide +kernel, rfl, by decide +kernel, by decide +kernel⟩
theorem ok_minus {f fM fP fN : Addr} {fd dM dP dN : FuncData} (F : FnP K "minus" (top 45) f fd) (N : Nm mg) (d_is_moving : D1 P w K mg base "is_moving" "number" 1 (spMov K) fM dM) (d_fraction_of : D1 P w K mg base "fraction_of" "number" 1 (spPair K) fP dP) (d_number_of : K1.D2 P w K mg base "number_of" "top" "bottom" 1 K1.spMkN fN dN) : FnOk P w K mg base CX0 2 f fd ["one", "other"] (spAr K minusR) := by
  refine F.ok scMinus (fun vs H Q E h => ?_) (fun cdv A outer s H vs Q E hr h => ?_)
  · obtain ⟨v, v', t, t', b, b', rfl, _⟩ := h
    rfl
  · obtain ⟨v, v', t, t', b, b', rfl, hv, hv', z, z', k⟩ := h
    refine ⟨_, PSs.nox (pss_cons (ps_if (PW.pt (pw_and (pt_val (pe_callB call_isi (by rfl) N.isi (by decide +kernel) (pa_cons (pv 0) (pa_cons (pe_bltn (v := .ty "int") (u := .type "int") (by rfl) N.tint (by decide +kernel) rfl) pa_nil)))) (pw_and1 (pt_val (pe_callB call_isi (by rfl) N.isi (by decide +kernel) (pa_cons (pv 1) (pa_cons (pe_bltn (v := .ty "int") (u := .type "int") (by rfl) N.tint (by decide +kernel) rfl) pa_nil)))))))
    (pss_one (ps_ret (pe_op op_sub (pv 0) (pv 1))))
    pss_nil)
  (pss_cons (ps_if (PW.pt (pw_or (pt_val (pe_call d_is_moving.G (hr.mono (by decide)) (by rfl) d_is_moving.g d_is_moving.kp d_is_moving.b .nil pass0 (pa_cons (pv 0) pa_nil))) (pw_or1 (pt_val (pe_call d_is_moving.G (hr.mono (by decide)) (by rfl) d_is_moving.g d_is_moving.kp d_is_moving.b .nil pass0 (pa_cons (pv 1) pa_nil))))))
    pss_never
    pss_nil)
  (pss_cons (ps_asg (pe_call d_fraction_of.G (hr.mono (by decide)) (by rfl) d_fraction_of.g d_fraction_of.kp d_fraction_of.b .nil pass0 (pa_cons (pv 0) pa_nil)) (pg_tup rfl (pgs_cons (pg_name (i := 2) scMinus.nd rfl (Or.inl rfl)) (pgs_cons (pg_name (i := 3) scMinus.nd rfl (Or.inl rfl)) pgs_nil))))
  (pss_cons (ps_asg (pe_call d_fraction_of.G (hr.mono (by decide)) (by rfl) d_fraction_of.g d_fraction_of.kp d_fraction_of.b .nil pass0 (pa_cons (pv 1) pa_nil)) (pg_tup rfl (pgs_cons (pg_name (i := 4) scMinus.nd rfl (Or.inl rfl)) (pgs_cons (pg_name (i := 5) scMinus.nd rfl (Or.inl rfl)) pgs_nil))))
  (pss_one (ps_ret (pe_call d_number_of.G (hr.mono (by decide)) (by rfl) d_number_of.g d_number_of.kp d_number_of.b .nil pass0 (pa_cons (pe_op op_sub (pe_op op_mulW (pv 2) (pv 5)) (pe_op op_mulW (pv 4) (pv 3))) (pa_cons (pe_op op_mulW (pv 3) (pv 5)) pa_nil))))))))), ?_⟩
    have hw := hv
    have hw' := hv'
    have tail : ∀ {H1 H2 : Hp}, Same H H1 → Same H1 H2 → K1.spMkN [.int (t * b' - t' * b), .int ((b : Int) * (b' : Int))] H2 Q E := fun s1 s2 =>
      ⟨t * b' - t' * b, b * b', by rw [Int.natCast_mul], (z.bot z').1, (z.bot z').2, fun H3 v3 s3 e3 => k _ _ ((s1.trans s2).trans s3) e3.dp⟩
    rcases hv with ⟨rfl, rfl⟩ | ⟨p, rfl, hp⟩
    · refine ⟨_, rfl, _, _, _, _, true, rfl, .ty _, .base (.int _), kit_ty (by decide +kernel), true, rfl, iteT ?_⟩
      rcases hv' with ⟨rfl, rfl⟩ | ⟨p', rfl, hp'⟩
      · refine ⟨_, rfl, _, _, _, _, true, rfl, .ty _, .base (.int _), kit_ty (by decide +kernel), true, rfl, iteT ?_⟩
        refine ⟨_, rfl, _, rfl, _, _, rfl, rfl, ?_⟩
        refine k _ _ (Same.refl H) ?_
        show Dp K H _ (dat (mkRat (t * ((1 : Nat) : Int) - t' * ((1 : Nat) : Int)) (1 * 1)))
        rw [show t * ((1 : Nat) : Int) - t' * ((1 : Nat) : Int) = t - t' by omega]
        exact (K1.mk_one _).dp
      · refine ⟨_, rfl, _, _, _, _, false, rfl, .ty _, tyT hp', kit_ty (by decide +kernel), false, rfl, iteF ?_⟩
        refine ⟨_, rfl, _, _, _, rfl, hw, false, rfl, iteF ?_⟩
        refine ⟨_, rfl, _, _, _, rfl, hw', false, rfl, iteF ?_⟩
        refine ⟨_, rfl, _, _, _, rfl, hw, fun H1 p1 s1 e1 => ⟨p1, _, rfl, e1, rfl, _, _, rfl, _, _, rfl, rfl, ?_⟩⟩
        refine ⟨_, rfl, _, _, _, rfl, hw'.same s1, fun H2 p2 s2 e2 => ⟨p2, _, rfl, e2, rfl, _, _, rfl, _, _, rfl, rfl, ?_⟩⟩
        exact ⟨_, rfl, _, rfl, _, _, rfl, rfl, wm z.1 z'.2.2, _, rfl, _, rfl, _, _, rfl, rfl, wm z'.1 z.2.2, _, _, rfl, rfl, _, rfl, _, rfl, _, _, rfl, rfl, wm z.2.2 z'.2.2, tail s1 s2⟩
    · refine ⟨_, rfl, _, _, _, _, false, rfl, .ty _, tyT hp, kit_ty (by decide +kernel), false, rfl, iteF (iteF ?_)⟩
      refine ⟨_, rfl, _, _, _, rfl, hw, false, rfl, iteF ?_⟩
      refine ⟨_, rfl, _, _, _, rfl, hw', false, rfl, iteF ?_⟩
      refine ⟨_, rfl, _, _, _, rfl, hw, fun H1 p1 s1 e1 => ⟨p1, _, rfl, e1, rfl, _, _, rfl, _, _, rfl, rfl, ?_⟩⟩
      refine ⟨_, rfl, _, _, _, rfl, hw'.same s1, fun H2 p2 s2 e2 => ⟨p2, _, rfl, e2, rfl, _, _, rfl, _, _, rfl, rfl, ?_⟩⟩
      exact ⟨_, rfl, _, rfl, _, _, rfl, rfl, wm z.1 z'.2.2, _, rfl, _, rfl, _, _, rfl, rfl, wm z'.1 z.2.2, _, _, rfl, rfl, _, rfl, _, rfl, _, _, rfl, rfl, wm z.2.2 z'.2.2, tail s1 s2⟩
theorem scTimes : FnScope ["one", "other", "one_top", "one_bottom", "other_top", "other_bottom"] ["one", "other"] (defScope (top 46)) := ⟨rfl, rfl, rfl, by decide +kernel, rfl, by decide +kernel, by decide +kernel⟩
theorem ok_times {f fM fP fN : Addr} {fd dM dP dN : FuncData} (F : FnP K "times" (top 46) f fd) (N : Nm mg) (d_is_moving : D1 P w K mg base "is_moving" "number" 1 (spMov K) fM dM) (d_fraction_of : D1 P w K mg base "fraction_of" "number" 1 (spPair K) fP dP) (d_number_of : K1.D2 P w K mg base "number_of" "top" "bottom" 1 K1.spMkN fN dN) : FnOk P w K mg base CX0 2 f fd ["one", "other"] (spAr K timesR) := by
  refine F.ok scTimes (fun vs H Q E h => ?_) (fun cdv A outer s H vs Q E hr h => ?_)
  · obtain ⟨v, v', t, t', b, b', rfl, _⟩ := h
    rfl
  · obtain ⟨v, v', t, t', b, b', rfl, hv, hv', z, z', k⟩ := h
    refine ⟨_, PSs.nox (pss_cons (ps_if (PW.pt (pw_and (pt_val (pe_callB call_isi (by rfl) N.isi (by decide +kernel) (pa_cons (pv 0) (pa_cons (pe_bltn (v := .ty "int") (u := .type "int") (by rfl) N.tint (by decide +kernel) rfl) pa_nil)))) (pw_and1 (pt_val (pe_callB call_isi (by rfl) N.isi (by decide +kernel) (pa_cons (pv 1) (pa_cons (pe_bltn (v := .ty "int") (u := .type "int") (by rfl) N.tint (by decide +kernel) rfl) pa_nil)))))))
    (pss_one (ps_ret (pe_op op_mulW (pv 0) (pv 1))))
    pss_nil)
  (pss_cons (ps_if (pt_val (pe_call d_is_moving.G (hr.mono (by decide)) (by rfl) d_is_moving.g d_is_moving.kp d_is_moving.b .nil pass0 (pa_cons (pv 0) pa_nil)))
    pss_never
    pss_nil)
  (pss_cons (ps_if (pt_val (pe_call d_is_moving.G (hr.mono (by decide)) (by rfl) d_is_moving.g d_is_moving.kp d_is_moving.b .nil pass0 (pa_cons (pv 1) pa_nil)))
    pss_never
    pss_nil)
  (pss_cons (ps_asg (pe_call d_fraction_of.G (hr.mono (by decide)) (by rfl) d_fraction_of.g d_fraction_of.kp d_fraction_of.b .nil pass0 (pa_cons (pv 0) pa_nil)) (pg_tup rfl (pgs_cons (pg_name (i := 2) scTimes.nd rfl (Or.inl rfl)) (pgs_cons (pg_name (i := 3) scTimes.nd rfl (Or.inl rfl)) pgs_nil))))
  (pss_cons (ps_asg (pe_call d_fraction_of.G (hr.mono (by decide)) (by rfl) d_fraction_of.g d_fraction_of.kp d_fraction_of.b .nil pass0 (pa_cons (pv 1) pa_nil)) (pg_tup rfl (pgs_cons (pg_name (i := 4) scTimes.nd rfl (Or.inl rfl)) (pgs_cons (pg_name (i := 5) scTimes.nd rfl (Or.inl rfl)) pgs_nil))))
  (pss_one (ps_ret (pe_call d_number_of.G (hr.mono (by decide)) (by rfl) d_number_of.g d_number_of.kp d_number_of.b .nil pass0 (pa_cons (pe_op op_mulW (pv 2) (pv 4)) (pa_cons (pe_op op_mulW (pv 3) (pv 5)) pa_nil)))))))))), ?_⟩
    have hw := hv
    have hw' := hv'
    have tail : ∀ {H1 H2 : Hp}, Same H H1 → Same H1 H2 → K1.spMkN [.int (t * t'), .int ((b : Int) * (b' : Int))] H2 Q E := fun s1 s2 =>
      ⟨t * t', b * b', by rw [Int.natCast_mul], (z.bot z').1, (z.bot z').2, fun H3 v3 s3 e3 => k _ _ ((s1.trans s2).trans s3) e3.dp⟩
    rcases hv with ⟨rfl, rfl⟩ | ⟨p, rfl, hp⟩
    · refine ⟨_, rfl, _, _, _, _, true, rfl, .ty _, .base (.int _), kit_ty (by decide +kernel), true, rfl, iteT ?_⟩
      rcases hv' with ⟨rfl, rfl⟩ | ⟨p', rfl, hp'⟩
      · refine ⟨_, rfl, _, _, _, _, true, rfl, .ty _, .base (.int _), kit_ty (by decide +kernel), true, rfl, iteT ?_⟩
        refine ⟨_, rfl, _, rfl, _, _, rfl, rfl, wm z.1 z'.1, ?_⟩
        exact k _ _ (Same.refl H) (K1.mk_one _).dp
      · refine ⟨_, rfl, _, _, _, _, false, rfl, .ty _, tyT hp', kit_ty (by decide +kernel), false, rfl, iteF ?_⟩
        refine ⟨_, rfl, _, _, _, rfl, hw, false, rfl, iteF ?_⟩
        refine ⟨_, rfl, _, _, _, rfl, hw', false, rfl, iteF ?_⟩
        refine ⟨_, rfl, _, _, _, rfl, hw, fun H1 p1 s1 e1 => ⟨p1, _, rfl, e1, rfl, _, _, rfl, _, _, rfl, rfl, ?_⟩⟩
        refine ⟨_, rfl, _, _, _, rfl, hw'.same s1, fun H2 p2 s2 e2 => ⟨p2, _, rfl, e2, rfl, _, _, rfl, _, _, rfl, rfl, ?_⟩⟩
        exact ⟨_, rfl, _, rfl, _, _, rfl, rfl, wm z.1 z'.1, _, rfl, _, rfl, _, _, rfl, rfl, wm z.2.2 z'.2.2, tail s1 s2⟩
    · refine ⟨_, rfl, _, _, _, _, false, rfl, .ty _, tyT hp, kit_ty (by decide +kernel), false, rfl, iteF (iteF ?_)⟩
      refine ⟨_, rfl, _, _, _, rfl, hw, false, rfl, iteF ?_⟩
      refine ⟨_, rfl, _, _, _, rfl, hw', false, rfl, iteF ?_⟩
      refine ⟨_, rfl, _, _, _, rfl, hw, fun H1 p1 s1 e1 => ⟨p1, _, rfl, e1, rfl, _, _, rfl, _, _, rfl, rfl, ?_⟩⟩
      refine ⟨_, rfl, _, _, _, rfl, hw'.same s1, fun H2 p2 s2 e2 => ⟨p2, _, rfl, e2, rfl, _, _, rfl, _, _, rfl, rfl, ?_⟩⟩
      exact ⟨_, rfl, _, rfl, _, _, rfl, rfl, wm z.1 z'.1, _, rfl, _, rfl, _, _, rfl, rfl, wm z.2.2 z'.2.2, tail s1 s2⟩
/-! by 1728ths -/
def spLeU (K : PySem.W.Frag) : Sp := fun vs H Q _ => ∃ (v v' : V) (n m : Int), vs = [v, v'] ∧ U K H v n ∧ U K H v' m ∧ Bn n ∧ Bn m ∧ ∀ H', Same H H' → Q (.bl (decide (n ≤ m))) H'
/-- of two numbers one -/
def spMM (K : PySem.W.Frag) (f : Int → Int → Int) : Sp := fun vs H Q _ => ∃ (v v' : V) (n m : Int), vs = [v, v'] ∧ U K H v n ∧ U K H v' m ∧ Bn n ∧ Bn m ∧ ∀ H' u, Same H H' → U K H' u (f n m) → Q u H'
def spTm2 (K : PySem.W.Frag) : Sp := fun vs H Q _ => ∃ (v v' : V) (n m r : Int), vs = [v, v'] ∧ U K H v n ∧ U K H v' m ∧ Bn n ∧ Bn m ∧ n * m = 1728 * r ∧ ∀ H' u, Same H H' → U K H' u r → Q u H'
variable {f : Addr} {fd : FuncData} {k : Nat}
theorem ok_leU (F : FnOk P w K mg base CX0 k f fd ["one", "other"] (spLe K)) : FnOk P w K mg base CX0 k f fd ["one", "other"] (spLeU K) := F.imp fun vs H Q E h => by
  obtain ⟨v, v', n, m, rfl, h, h', b, b', q⟩ := h
  exact ⟨v, v', _, _, _, _, rfl, NumD.dat h, NumD.dat h', nq_sz b, nq_sz b', fun H' s => by
    rw [nq_le]
    exact q H' s⟩
theorem ok_plusU (F : FnOk P w K mg base CX0 k f fd ["one", "other"] (spAr K plusR)) : FnOk P w K mg base CX0 k f fd ["one", "other"] (spMM K (· + ·)) := F.imp fun vs H Q E h => by
  obtain ⟨v, v', n, m, rfl, h, h', b, b', q⟩ := h
  exact ⟨v, v', _, _, _, _, rfl, NumD.dat h, NumD.dat h', nq_sz b, nq_sz b', fun H' u s e => q H' u s (by rw [nq_plus] at e; exact e)⟩
theorem ok_minusU (F : FnOk P w K mg base CX0 k f fd ["one", "other"] (spAr K minusR)) : FnOk P w K mg base CX0 k f fd ["one", "other"] (spMM K (· - ·)) := F.imp fun vs H Q E h => by
  obtain ⟨v, v', n, m, rfl, h, h', b, b', q⟩ := h
  exact ⟨v, v', _, _, _, _, rfl, NumD.dat h, NumD.dat h', nq_sz b, nq_sz b', fun H' u s e => q H' u s (by rw [nq_minus] at e; exact e)⟩
theorem ok_timesU (F : FnOk P w K mg base CX0 k f fd ["one", "other"] (spAr K timesR)) : FnOk P w K mg base CX0 k f fd ["one", "other"] (spTm2 K) := F.imp fun vs H Q E h => by
  obtain ⟨v, v', n, m, r, rfl, h, h', b, b', e, q⟩ := h
  exact ⟨v, v', _, _, _, _, rfl, NumD.dat h, NumD.dat h', nq_sz b, nq_sz b', fun H' u s z => q H' u s (by rw [nq_times e] at z; exact z)⟩
theorem scLess : FnScope ["one", "other"] ["one", "other"] (defScope (top 42)) := ⟨rfl, rfl, rfl, by decide +kernel, rfl, by decide +kernel, by decide +kernel⟩
theorem ok_less {f fL : Addr} {fd dL : FuncData} (F : FnP K "lesser" (top 42) f fd) (d_at_most : D2 P w K mg base "at_most" "one" "other" 2 (spLeU K) fL dL) : FnOk P w K mg base CX0 3 f fd ["one", "other"] (spMM K min) := by
  refine F.ok scLess (fun vs H Q E h => ?_) (fun cdv A outer s H vs Q E hr h => ?_)
  · obtain ⟨v, v', n, m, rfl, _⟩ := h
    rfl
  · obtain ⟨v, v', n, m, rfl, h1, h2, b1, b2, k⟩ := h
    refine ⟨_, PSs.nox (pss_one (ps_ret (pe_ifExp (pt_val (pe_call d_at_most.G (hr.mono (by decide)) (by rfl) d_at_most.g d_at_most.kp d_at_most.b .nil pass0 (pa_cons (pv 0) (pa_cons (pv 1) pa_nil)))) (pv 0) (pv 1)))), ?_⟩
    refine ⟨_, rfl, _, rfl, v, v', n, m, rfl, h1, h2, b1, b2, fun H1 s1 => ⟨_, rfl, ite2 (fun c => ?_) (fun c => ?_)⟩⟩
    · have c : n ≤ m := of_decide_eq_true c
      refine ⟨_, rfl, k _ _ s1 ?_⟩
      rw [show min n m = n by omega]
      exact h1.same s1
    · have c : ¬ n ≤ m := fun z => c (decide_eq_true z)
      refine ⟨_, rfl, k _ _ s1 ?_⟩
      rw [show min n m = m by omega]
      exact h2.same s1
theorem scGrt : FnScope ["one", "other"] ["one", "other"] (defScope (top 43)) := ⟨rfl, rfl, rfl, by decide +kernel, rfl, by decide +kernel, by decide +kernel⟩
theorem ok_grt {f fL : Addr} {fd dL : FuncData} (F : FnP K "greater" (top 43) f fd) (d_at_most : D2 P w K mg base "at_most" "one" "other" 2 (spLeU K) fL dL) : FnOk P w K mg base CX0 3 f fd ["one", "other"] (spMM K max) := by
  refine F.ok scGrt (fun vs H Q E h => ?_) (fun cdv A outer s H vs Q E hr h => ?_)
  · obtain ⟨v, v', n, m, rfl, _⟩ := h
    rfl
  · obtain ⟨v, v', n, m, rfl, h1, h2, b1, b2, k⟩ := h
    refine ⟨_, PSs.nox (pss_one (ps_ret (pe_ifExp (pt_val (pe_call d_at_most.G (hr.mono (by decide)) (by rfl) d_at_most.g d_at_most.kp d_at_most.b .nil pass0 (pa_cons (pv 1) (pa_cons (pv 0) pa_nil)))) (pv 0) (pv 1)))), ?_⟩
    refine ⟨_, rfl, _, rfl, v', v, m, n, rfl, h2, h1, b2, b1, fun H1 s1 => ⟨_, rfl, ite2 (fun c => ?_) (fun c => ?_)⟩⟩
    · have c : m ≤ n := of_decide_eq_true c
      refine ⟨_, rfl, k _ _ s1 ?_⟩
      rw [show max n m = n by omega]
      exact h1.same s1
    · have c : ¬ m ≤ n := fun z => c (decide_eq_true z)
      refine ⟨_, rfl, k _ _ s1 ?_⟩
      rw [show max n m = m by omega]
      exact h2.same s1
/-! sums -/
def sumI (ns : List Int) : Int := ns.foldl (· + ·) 0
theorem sumI_snoc (ns : List Int) (n : Int) : sumI (ns ++ [n]) = sumI ns + n := by
  unfold sumI
  rw [List.foldl_append]
  rfl
theorem sumI_le (M : Int) (hM : 0 ≤ M) : ∀ (ns : List Int) (c : Int) (k : Nat), (∀ n ∈ ns, -M ≤ n ∧ n ≤ M) → -(M * (k : Int)) ≤ c ∧ c ≤ M * (k : Int) → -(M * ((ns.length + k : Nat) : Int)) ≤ ns.foldl (· + ·) c ∧ ns.foldl (· + ·) c ≤ M * ((ns.length + k : Nat) : Int)
  | [], c, k, _, h => by
    rw [List.length_nil, Nat.zero_add]
    exact h
  | n :: ns, c, k, h, hc => by
    obtain ⟨h3, h4⟩ := h n (List.mem_cons_self ..)
    have e : M * ((k + 1 : Nat) : Int) = M * (k : Int) + M := by
      rw [Int.natCast_add, Int.mul_add]
      show _ + M * 1 = _
      rw [Int.mul_one]
    have := sumI_le M hM ns (c + n) (k + 1) (fun x hx => h x (List.mem_cons_of_mem _ hx)) (by rw [e]; omega)
    rw [List.length_cons, show ns.length + 1 + k = ns.length + (k + 1) by omega]
    exact this
abbrev Bl (ns : List Int) : Prop := ns.length ≤ 60 ∧ ∀ n ∈ ns, -10000000000000 ≤ n ∧ n ≤ 10000000000000
theorem Bl.sum {ns : List Int} (h : Bl ns) (j : Nat) : -1000000000000000 ≤ sumI (ns.take j) ∧ sumI (ns.take j) ≤ 1000000000000000 := by
  have h12 := sumI_le 10000000000000 (by decide) (ns.take j) 0 0 (fun n hn => h.2 n (List.mem_of_mem_take hn)) (by decide)
  have l : (ns.take j).length ≤ 60 := by rw [List.length_take]; exact Nat.le_trans (Nat.min_le_right _ _) h.1
  have h1 : -(10000000000000 * (((ns.take j).length + 0 : Nat) : Int)) ≤ sumI (ns.take j) := h12.1
  have h2 : sumI (ns.take j) ≤ 10000000000000 * (((ns.take j).length + 0 : Nat) : Int) := h12.2
  have l2 : (((ns.take j).length + 0 : Nat) : Int) ≤ 60 := by omega
  generalize (((ns.take j).length + 0 : Nat) : Int) = x at h1 h2 l2
  omega
theorem Bl.all {ns : List Int} (h : Bl ns) : -1000000000000000 ≤ sumI ns ∧ sumI ns ≤ 1000000000000000 := by
  have := h.sum ns.length
  rw [List.take_length] at this
  exact this
def spTt (K : PySem.W.Frag) : Sp := fun vs H Q _ => ∃ (p : Addr) (xs : List V) (ns : List Int), vs = [.ref p] ∧ SqL K H p xs ∧ DpAll K H xs (ns.map nq) ∧ Bl ns ∧ ∀ H' u, Same H H' → U K H' u (sumI ns) → Q u H'
theorem scTot : FnScope ["numbers", "reached", "number"] ["numbers"] (defScope (top 47)) := ⟨rfl, rfl, rfl, by decide +kernel, rfl, by decide +kernel, by decide +kernel⟩
theorem ok_tot {f fP : Addr} {fd dP : FuncData} (F : FnP K "total" (top 47) f fd) (d_plus : D2 P w K mg base "plus" "one" "other" 2 (spMM K (· + ·)) fP dP) : FnOk P w K mg base CX0 3 f fd ["numbers"] (spTt K) := by
  refine F.ok scTot (fun vs H Q E h => ?_) (fun cdv A outer s H vs Q E hr h => ?_)
  · obtain ⟨p, xs, ns, rfl, _⟩ := h
    rfl
  · obtain ⟨p, xs, ns, rfl, hp, hx, hb, k⟩ := h
    refine ⟨_, PSs.nox (pss_cons (ps_set (i := 1) scTot.nd rfl (Or.inl rfl) pe_int)
  (pss_cons (ps_for PassesOwn.never rfl (pi_list (pv 0))
    (pg_name (i := 2) scTot.nd rfl (Or.inl rfl))
    (pss_one (ps_set (i := 1) scTot.nd rfl (Or.inl rfl) (pe_call d_plus.G (hr.mono (by decide)) (by rfl) d_plus.g d_plus.kp d_plus.b .nil pass0 (pa_cons (pv 1) (pa_cons (pv 2) pa_nil))))))
  (pss_one (ps_ret (pv 1))))), ?_⟩
    have hl : xs.length = ns.length := by rw [dpLen hx, List.length_map]
    refine ⟨_, rfl, p, rfl, ⟨xs, hp⟩, for_list (K := K) (a := p) (xs := xs) (fun i σ H' => Same H H' ∧ ∃ u v, U K H' u (sumI (ns.take i)) ∧ σ = [some (.ref p), some u, v]) ⟨Same.refl H, _, _, U.int 0, rfl⟩ (fun i σ H' _ h => h.1.seq hp) ?_ ?_⟩
    · rintro i x σ H2 hi ⟨s2, u, v, hu, rfl⟩
      have hi' := (List.getElem?_eq_some_iff.mp hi).1
      have en : ns[i]? = some (ns[i]'(by omega)) := List.getElem?_eq_getElem _
      obtain ⟨x', ex, hxi⟩ := dpAt i hx (d := nq (ns[i]'(by omega))) (by rw [List.getElem?_map, en]; rfl)
      rw [hi] at ex
      cases ex
      have bs := hb.sum i
      have bn := hb.2 _ (List.getElem_mem (by omega : i < ns.length))
      refine ⟨_, rfl, _, rfl, _, _, _, _, rfl, hu, dpS s2 hxi, by omega, by omega, fun H3 u3 s3 h3 => ?_⟩
      refine ⟨s2.trans s3, u3, _, ?_, rfl⟩
      rw [List.take_succ, en]
      show U K H3 u3 (sumI (ns.take i ++ [_]))
      rw [sumI_snoc]
      exact h3
    · rintro σ H2 ⟨s2, u, v, hu, rfl⟩
      refine ⟨_, rfl, k _ _ s2 ?_⟩
      rw [hl, List.take_length] at hu
      exact hu
/-- with_gaps -/
def gapsI (ns : List Int) (g : Int) : Int := sumI ns + ((ns.length - 1 : Nat) : Int) * g
def spWG (K : PySem.W.Frag) : Sp := fun vs H Q _ => ∃ (p : Addr) (xs : List V) (ns : List Int) (v : V) (g : Int), vs = [.ref p, v] ∧ SqL K H p xs ∧ DpAll K H xs (ns.map nq) ∧ Bl ns ∧ U K H v g ∧ 0 ≤ g ∧ g ≤ 10000000000000 ∧ ∀ H' u, Same H H' → U K H' u (gapsI ns g) → Q u H'
theorem scWG : FnScope ["numbers", "gap"] ["numbers", "gap"] (defScope (top 48)) := ⟨rfl, rfl, rfl, by decide +kernel, rfl, by decide +kernel, by decide +kernel⟩
theorem ok_wg {f fP fT fM : Addr} {fd dP dT dM : FuncData} (F : FnP K "with_gaps" (top 48) f fd) (N : Nm mg) (hmax : mg "max" = none) (d_plus : D2 P w K mg base "plus" "one" "other" 2 (spMM K (· + ·)) fP dP) (d_total : D1 P w K mg base "total" "numbers" 3 (spTt K) fT dT) (d_times : D2 P w K mg base "times" "one" "other" 2 (spTm2 K) fM dM) : FnOk P w K mg base CX0 4 f fd ["numbers", "gap"] (spWG K) := by
  refine F.ok scWG (fun vs H Q E h => ?_) (fun cdv A outer s H vs Q E hr h => ?_)
  · obtain ⟨p, xs, ns, v, g, rfl, _⟩ := h
    rfl
  · obtain ⟨p, xs, ns, v, g, rfl, hp, hx, hb, hg, g0, g1, k⟩ := h
    refine ⟨_, PSs.nox (pss_one (ps_ret (pe_call d_plus.G (hr.mono (by decide)) (by rfl) d_plus.g d_plus.kp d_plus.b .nil pass0 (pa_cons (pe_call d_total.G (hr.mono (by decide)) (by rfl) d_total.g d_total.kp d_total.b .nil pass0 (pa_cons (pv 0) pa_nil)) (pa_cons (pe_call d_times.G (hr.mono (by decide)) (by rfl) d_times.g d_times.kp d_times.b .nil pass0 (pa_cons (pe_callB (call_max2 rfl) (by rfl) hmax (by decide +kernel) (pa_cons (pe_op op_sub (pe_callB call_len_seq (by rfl) N.len PySem.boot_len (pa_cons (pv 0) pa_nil)) pe_int) (pa_cons pe_int pa_nil))) (pa_cons (pv 1) pa_nil))) pa_nil))))), ?_⟩
    have hl : xs.length = ns.length := by rw [dpLen hx, List.length_map]
    refine ⟨_, rfl, p, xs, ns, rfl, hp, hx, hb, fun H1 u1 s1 h1 => ?_⟩
    refine ⟨_, rfl, p, xs, rfl, .inl (s1.seq hp), _, _, rfl, rfl, _, _, rfl, ?_⟩
    have em : (if ((0 : Int) > ((xs.length : Nat) : Int) - 1) then (0 : Int) else ((xs.length : Nat) : Int) - 1) = ((ns.length - 1 : Nat) : Int) := by
      rw [hl]
      split <;> omega
    have l60 := hb.1
    have ba := hb.all
    have bm : ((ns.length - 1 : Nat) : Int) ≤ 60 := by omega
    have b0 : 0 ≤ ((ns.length - 1 : Nat) : Int) := Int.natCast_nonneg _
    unfold gapsI at k
    generalize ((ns.length - 1 : Nat) : Int) = L at em bm b0 k
    have hL : 0 ≤ L * g ∧ L * g ≤ 600000000000000 := by
      refine ⟨Int.mul_nonneg b0 g0, ?_⟩
      have h3 : L * g ≤ 60 * 10000000000000 := Int.mul_le_mul bm g1 g0 (by decide)
      omega
    rw [em]
    refine ⟨_, rfl, .int L, v, 1728 * L, g, L * g, rfl, U.int L, dpS s1 hg, by omega, by omega, by rw [Int.mul_assoc], fun H2 u2 s2 h2 => ?_⟩
    exact ⟨u1, u2, sumI ns, L * g, rfl, dpS s2 h1, h2, by omega, by omega, fun H3 u3 s3 h3 => k H3 u3 ((s1.trans s2).trans s3) h3⟩
end
end K5

set_option Elab.async false
set_option linter.all false
set_option maxRecDepth 100000
set_option maxHeartbeats 4000000
namespace K5
open PySem PySem.Spec PyProof.Rows L2
open K1 (FnP top Nm Sz wm dat)
/-! ### items made -/
theorem same_upd' {H0 H : Hp} {p : Addr} {o : HO} (n : H0 p = none) (s : Same H0 H) : Same H0 (upd H p o) := fun b x e => by
  rw [upd_ne (ne_of_none e n)]
  exact s b x e
theorem take_snoc {ds : List PyData} {i : Nat} {e : PyData} (h : ds[i]? = some e) (f : PyData → V) : (ds.take (i + 1)).map f = (ds.take i).map f ++ [f e] := by
  rw [List.take_succ, h, List.map_append]
  rfl
theorem dpSnoc {K : PySem.W.Frag} {H : Hp} : ∀ {vs us : List V} {ds es : List PyData}, DpAll K H vs ds → DpAll K H us es → DpAll K H (vs ++ us) (ds ++ es)
  | _, _, _, _, .nil, h2 => h2
  | _, _, _, _, .cons h h1, h2 => .cons h (dpSnoc h1 h2)
theorem none_of {H G : Hp} {q : Addr} (s : Same H G) (h : G q = none) : H q = none := by
  cases e : H q with
  | none => rfl
  | some o =>
    rw [s _ _ e] at h
    cases h
/-- all but a keep what they hold -/
def Keep (a : Addr) (H H' : Hp) : Prop := ∀ b o, b ≠ a → H b = some o → H' b = some o
theorem Keep.of {a : Addr} {H H' : Hp} (s : Same H H') : Keep a H H' := fun b o _ e => s b o e
theorem Keep.trans {a : Addr} {H H1 H2 : Hp} (s : Keep a H H1) (t : Keep a H1 H2) : Keep a H H2 := fun b o n e => t b o n (s b o n e)
theorem Keep.upd {a : Addr} {H H1 : Hp} {o : HO} (s : Keep a H H1) : Keep a H (upd H1 a o) := fun b o' n e => by
  rw [upd_ne n]
  exact s b o' n e
theorem dT {p : Prop} [Decidable p] (h : p) : V.bl (decide p) = V.bl true := by rw [decide_eq_true h]
abbrev FnM (K : PySem.W.Frag) (m q : Str) (st : Stmt) (dvs : List V) (kws : List (Str × V)) (f : Addr) (fd : FuncData) : Prop := FunD K m q (defArgs st) (defBody st) (defScope st) dvs kws f fd
def inames : List Str := ["content", "order", "column", "row", "margins", "width", "height", "least_width", "greatest_width", "least_height", "greatest_height", "justify", "align"]
structure TI (K : PySem.W.Frag) (mg : Str → Option Value) (x : Str) (C fI : Addr) (ns : List Str) : Prop where
  gC : mg x = some (.ref C)
  cl : Cls K C
  mkC : Mk K C fI
  cls : PySem.W.findIn K (.ref C) "__class__" = some (some (.builtin "object.__class__"))
  mro : PySem.W.mroIn K C (.type "object") = some true
  gget : PySem.W.specialIn K (.builtin "object.__class__") "__get__" = some (some (.builtin "getset_descriptor.__get__"))
  gtk : PySem.W.takesIn K (.builtin "object.__class__") = some true
  self : PySem.W.kitOne K (.ref C) (.ref C) = some true
  na : ∀ y ∈ ns, NoAttr K C y
theorem TI.ty {K : PySem.W.Frag} {mg : Str → Option Value} {x : Str} {C fI : Addr} {ns : List Str} (T : TI K mg x C fI ns) {H : Hp} {a dx : Addr} {fs : List (Str × V)} (e : H a = some (.ins C dx fs)) : TyX K H (.ref a) (.ref C) := .base (.ins e T.cl T.cls T.gget T.gtk T.mro)
/-- an item's data, but for its content: margins above, right, below, left; sizes -/
structure Im where
  a : Int
  b : Int
  c : Int
  d : Int
  w : Option Int
  h : Option Int
  lw : Option Int
  gw : Option Int
  lh : Option Int
  gh : Option Int
def oq : Option Int → PyData
  | none => .none
  | some n => nq n
def Im.ms (i : Im) : List PyData := [nq i.a, nq i.b, nq i.c, nq i.d]
def Im.ds (i : Im) : List PyData := [.int 0, .tuple [.none, .none], .tuple [.none, .none], .tuple i.ms, oq i.w, oq i.h, oq i.lw, oq i.gw, oq i.lh, oq i.gh, .none, .none]
abbrev Bm (n : Int) : Prop := -1000000000000 ≤ n ∧ n ≤ 1000000000000
abbrev Bo (o : Option Int) : Prop := ∀ n, o = some n → 0 ≤ n ∧ n ≤ 1000000000000
structure OkIm (i : Im) : Prop where
  a : Bm i.a
  b : Bm i.b
  c : Bm i.c
  d : Bm i.d
  w : Bo i.w
  h : Bo i.h
  lw : Bo i.lw
  gw : Bo i.gw
  lh : Bo i.lh
  gh : Bo i.gh
section
variable {P : Program} {w : World} {K : PySem.W.Frag} {mg : Str → Option Value} {base : Heap} {CW CB CP CI fI : Addr}
def spNo : Sp := fun _ _ _ _ => False
theorem ok_no {k : Nat} {f : Addr} {fd : FuncData} {ps : List Str} : FnOk P w K mg base CX0 k f fd ps spNo := ⟨fun _ _ _ _ h => h.elim, fun _ _ _ _ _ _ _ _ _ _ _ _ _ h => h.elim⟩
def spCG : Sp := fun vs H Q _ => ∃ (x : V) (b : Bool), vs = [x, .bl b] ∧ b = true ∧ Q .non H
theorem scCI : FnScope ["part", "is_right"] ["part", "is_right"] (defScope (top 105)) := ⟨rfl, rfl, rfl, by decide +kernel, rfl, by decide +kernel, by decide +kernel⟩
theorem ok_ci {f : Addr} {fd : FuncData} (F : FnP K "check_item" (top 105) f fd) (N : Nm mg) : FnOk P w K mg base CX0 1 f fd ["part", "is_right"] spCG := by
  refine F.ok scCI (fun vs H Q E h => ?_) (fun cdv A outer s H vs Q E hr h => ?_)
  · obtain ⟨x, b, rfl, _⟩ := h
    rfl
  · obtain ⟨x, b, rfl, rfl, k⟩ := h
    refine ⟨_, PSs.nox (pss_one (ps_if (pt_not (pt_val (pv 1)))
    pss_never
    pss_nil)), ?_⟩
    exact ⟨_, rfl, true, rfl, iteF k⟩
def spTl (K : PySem.W.Frag) : Sp := fun vs H Q _ => ∃ (v : V) (o : Option Int), vs = [v] ∧ Dp K H v (oq o) ∧ Bo o ∧ ∀ H', Same H H' → Q (.bl true) H'
theorem scTl : FnScope ["value"] ["value"] (defScope (top 107)) := ⟨rfl, rfl, rfl, by decide +kernel, rfl, by decide +kernel, by decide +kernel⟩
theorem ok_tl {f f1 : Addr} {fd d1 : FuncData} (F : FnP K "is_told_length" (top 107) f fd) (d_is_length : D1 P w K mg base "is_length" "value" 3 (spQ K okL isLen) f1 d1) : FnOk P w K mg base CX0 4 f fd ["value"] (spTl K) := by
  refine F.ok scTl (fun vs H Q E h => ?_) (fun cdv A outer s H vs Q E hr h => ?_)
  · obtain ⟨v, o, rfl, _⟩ := h
    rfl
  · obtain ⟨v, o, rfl, hv, ho, k⟩ := h
    refine ⟨_, PSs.nox (pss_one (ps_ret (pe_or (pe_cmp (pc_isN (pv 0)) rfl) (pe_one (pe_call d_is_length.G (hr.mono (by decide)) (by rfl) d_is_length.g d_is_length.kp d_is_length.b .nil pass0 (pa_cons (pv 0) pa_nil)))))), ?_⟩
    cases o with
    | none =>
      cases hv
      exact ⟨_, rfl, true, rfl, iteT (k _ (Same.refl H))⟩
    | some n =>
      obtain ⟨n0, n1⟩ := ho n rfl
      have hv : U K H v n := hv
      have fin : ∀ H', Same H H' → Q (.bl (isLen (nq n))) H' := fun H' s => by
        rw [nq_len, decide_eq_true n0]
        exact k H' s
      rcases NumD.dat hv with ⟨rfl, _⟩ | ⟨p, rfl, _⟩
      · exact ⟨_, rfl, false, rfl, iteF ⟨_, rfl, _, nq n, rfl, hv, nq_okL (by omega), fin⟩⟩
      · exact ⟨_, rfl, false, rfl, iteF ⟨_, rfl, _, nq n, rfl, hv, nq_okL (by omega), fin⟩⟩
/-- edges: none told -/
def spEd (K : PySem.W.Frag) : Sp := fun vs H Q _ => vs = [.non] ∧ Q (.bl true) H
theorem scEd : FnScope ["value"] ["value"] (defScope (top 66)) := ⟨rfl, rfl, rfl, by decide +kernel, rfl, by decide +kernel, by decide +kernel⟩
theorem ok_ed {f f1 f2 f3 f4 : Addr} {fd d1 d2 d3 d4 : FuncData} (F : FnP K "is_edge" (top 66) f fd) (N : Nm mg) (d_is_line_count : D1 P w K mg base "is_line_count" "value" 1 spNo f1 d1) (d_is_name : D1 P w K mg base "is_name" "value" 1 spNo f2 d2) (d_is_marked : D3 P w K mg base "is_marked" "value" "word" "many" 2 (spMark K) f3 d3) :
    FnOk P w K mg base CX0 3 f fd ["value"] (spEd K) := by
  refine F.ok scEd (fun vs H Q E h => ?_) (fun cdv A outer s H vs Q E hr h => ?_)
  · obtain ⟨rfl, _⟩ := h
    rfl
  · obtain ⟨rfl, k⟩ := h
    refine ⟨_, PSs.nox (pss_cons (ps_if (PW.pt (pw_or (pt_cmp (pc_isN (pv 0))) (pw_or (pt_val (pe_call d_is_line_count.G (hr.mono (by decide)) (by rfl) d_is_line_count.g d_is_line_count.kp d_is_line_count.b .nil pass0 (pa_cons (pv 0) pa_nil))) (pw_or1 (pt_val (pe_call d_is_name.G (hr.mono (by decide)) (by rfl) d_is_name.g d_is_name.kp d_is_name.b .nil pass0 (pa_cons (pv 0) pa_nil)))))))
    (pss_one (ps_ret pe_bl))
    pss_nil)
  (pss_cons (ps_if (pt_val (pe_call d_is_marked.G (hr.mono (by decide)) (by rfl) d_is_marked.g d_is_marked.kp d_is_marked.b .nil pass0 (pa_cons (pv 0) (pa_cons pe_str (pa_cons pe_int pa_nil)))))
    pss_never
    pss_nil)
  (pss_cons (ps_if (pt_val (pe_call d_is_marked.G (hr.mono (by decide)) (by rfl) d_is_marked.g d_is_marked.kp d_is_marked.b .nil pass0 (pa_cons (pv 0) (pa_cons pe_str (pa_cons pe_int pa_nil)))))
    pss_never
    pss_nil)
  (pss_one (ps_ret (pe_and (pe_callB call_isi (by rfl) N.isi (by decide +kernel) (pa_cons (pv 0) (pa_cons (pe_bltn (v := .ty "tuple") (u := .type "tuple") (by rfl) N.ttup (by decide +kernel) rfl) pa_nil))) (pe_and (pe_cmpR op_eq (pe_callB call_len_seq (by rfl) N.len PySem.boot_len (pa_cons (pv 0) pa_nil)) pe_int (nomark _)) (pe_and (pe_call d_is_name.G (hr.mono (by decide)) (by rfl) d_is_name.g d_is_name.kp d_is_name.b .nil pass0 (pa_cons (pe_ix ix_tup (pv 0) pe_int (fun _ _ => rfl)) pa_nil)) (pe_one (pe_call d_is_line_count.G (hr.mono (by decide)) (by rfl) d_is_line_count.g d_is_line_count.kp d_is_line_count.b .nil pass0 (pa_cons (pe_ix ix_tup (pv 0) pe_int (fun _ _ => rfl)) pa_nil))))))))))), ?_⟩
    exact ⟨_, rfl, true, rfl, iteT k⟩
def spEs (K : PySem.W.Frag) : Sp := fun vs H Q _ => ∃ v, vs = [v] ∧ Dp K H v (.tuple [.none, .none]) ∧ Q (.bl true) H
theorem scEs : FnScope ["value"] ["value"] (defScope (top 67)) := ⟨rfl, rfl, rfl, by decide +kernel, rfl, by decide +kernel, by decide +kernel⟩
theorem ok_es {f f1 : Addr} {fd d1 : FuncData} (F : FnP K "are_edges" (top 67) f fd) (N : Nm mg) (d_is_edge : D1 P w K mg base "is_edge" "value" 3 (spEd K) f1 d1) : FnOk P w K mg base CX0 4 f fd ["value"] (spEs K) := by
  refine F.ok scEs (fun vs H Q E h => ?_) (fun cdv A outer s H vs Q E hr h => ?_)
  · obtain ⟨v, rfl, _⟩ := h
    rfl
  · obtain ⟨v, rfl, hv, k⟩ := h
    refine ⟨_, PSs.nox (pss_one (ps_ret (pe_and (pe_callB call_isi (by rfl) N.isi (by decide +kernel) (pa_cons (pv 0) (pa_cons (pe_bltn (v := .ty "tuple") (u := .type "tuple") (by rfl) N.ttup (by decide +kernel) rfl) pa_nil))) (pe_and (pe_cmpR op_eq (pe_callB call_len_seq (by rfl) N.len PySem.boot_len (pa_cons (pv 0) pa_nil)) pe_int (nomark _)) (pe_and (pe_call d_is_edge.G (hr.mono (by decide)) (by rfl) d_is_edge.g d_is_edge.kp d_is_edge.b .nil pass0 (pa_cons (pe_ix ix_tup (pv 0) pe_int (fun _ _ => rfl)) pa_nil)) (pe_one (pe_call d_is_edge.G (hr.mono (by decide)) (by rfl) d_is_edge.g d_is_edge.kp d_is_edge.b .nil pass0 (pa_cons (pe_ix ix_tup (pv 0) pe_int (fun _ _ => rfl)) pa_nil)))))))), ?_⟩
    cases hv with
    | @tup p xs _ ht hx =>
      cases hx with
      | cons h1 hx =>
        cases hx with
        | cons h2 hx =>
          cases hx
          cases h1
          cases h2
          refine ⟨_, rfl, _, _, _, _, true, rfl, .ty _, tyT ht, kit_ty (by decide +kernel), true, rfl, iteT ?_⟩
          refine ⟨_, rfl, p, _, rfl, .inr ht, rfl, true, rfl, iteT ?_⟩
          refine ⟨_, rfl, p, _, _, _, rfl, rfl, ht, atI_nat (j := 0) rfl, rfl, true, rfl, iteT ?_⟩
          exact ⟨_, rfl, p, _, _, _, rfl, rfl, ht, atI_nat (j := 1) rfl, rfl, k⟩
def spMg (K : PySem.W.Frag) : Sp := fun vs H Q _ => ∃ (v : V) (i : Im), vs = [v] ∧ Dp K H v (.tuple i.ms) ∧ ∀ H', Same H H' → Q (.bl true) H'
theorem scMg : FnScope ["value", "margin"] ["value"] (defScope (top 106)) := ⟨rfl, rfl, rfl, by decide +kernel, rfl, by decide +kernel, by decide +kernel⟩
theorem ok_mg {f f1 : Addr} {fd d1 : FuncData} (F : FnP K "are_margins" (top 106) f fd) (N : Nm mg) (hall : mg "all" = none) (d_is_number : D1 P w K mg base "is_number" "value" 2 (spQ K any isNum) f1 d1) : FnOk P w K mg base CX0 3 f fd ["value"] (spMg K) := by
  refine F.ok scMg (fun vs H Q E h => ?_) (fun cdv A outer s H vs Q E hr h => ?_)
  · obtain ⟨v, i, rfl, _⟩ := h
    rfl
  · obtain ⟨v, i, rfl, hv, k⟩ := h
    refine ⟨_, PSs.nox (pss_one (ps_ret (pe_and (pe_callB call_isi (by rfl) N.isi (by decide +kernel) (pa_cons (pv 0) (pa_cons (pe_bltn (v := .ty "tuple") (u := .type "tuple") (by rfl) N.ttup (by decide +kernel) rfl) pa_nil))) (pe_and (pe_cmpR op_eq (pe_callB call_len_seq (by rfl) N.len PySem.boot_len (pa_cons (pv 0) pa_nil)) pe_int (nomark _)) (pe_one (pe_callB (cr_all rfl) (by rfl) hall (by decide +kernel) (pa_cons (pe_lc (own := [("margin", 1)]) (g := gName 1) (tt := tYes) rfl scMg.nd (pi_tup (pv 0)) (blkOk_by (own := [("margin", 1)]) (N := ["value", "margin"]) (sc := defScope (top 106)) (by decide +kernel)) (fun _ _ _ _ _ => (pg_name (i := 1) scMg.nd rfl (Or.inl rfl))) (fun _ _ _ _ _ => pts_nil) (fun _ _ _ _ _ => (pe_call d_is_number.G (hr.mono (by decide)) (by rfl) d_is_number.g d_is_number.kp d_is_number.b .nil pass0 (pa_cons (pv 1) pa_nil)))) pa_nil))))))), ?_⟩
    have ea : i.ms.all isNum = true := by
      show [nq i.a, nq i.b, nq i.c, nq i.d].all isNum = true
      simp only [List.all_cons, List.all_nil, nq_num, Bool.and_self]
    have l4 : i.ms.length = 4 := rfl
    generalize i.ms = ds at hv ea l4
    cases hv with
    | @tup p xs _ ht hx =>
      have hl := dpLen hx
      refine ⟨_, rfl, _, _, _, _, true, rfl, .ty _, tyT ht, kit_ty (by decide +kernel), true, rfl, iteT ?_⟩
      refine ⟨_, rfl, p, _, rfl, .inr ht, rfl, _, rfl, ite2 (fun _ => ?_) (fun c => absurd (decide_eq_true (show V.int (xs.length : Nat) = V.int 4 by rw [hl, l4] <;> rfl)) c)⟩
      refine ⟨_, rfl, p, rfl, ⟨xs, ht⟩, fun D nD => ?_⟩
      refine lc_tup (K := K) (a := p) (xs := xs) (fun i H' => Same H H' ∧ H' D = some (.lst ((ds.take i).map fun e => V.bl (isNum e)))) ⟨same_upd nD, upd_same⟩ (fun i H' _ h => Same.seqT h.1 ht) ?_ ?_
      · rintro i x H2 hi ⟨s2, hD⟩
        have hi' := (List.getElem?_eq_some_iff.mp hi).1
        have he : ds[i]? = some (ds[i]'(by omega)) := List.getElem?_eq_getElem _
        obtain ⟨u, eu, hu⟩ := dpAt i hx he
        rw [hi] at eu
        cases eu
        refine ⟨rfl, iteT (B := Same H H2 ∧ H2 D = some (.lst ((ds.take (i + 1)).map fun e => V.bl (isNum e)))) ?_⟩
        refine ⟨_, rfl, x, _, rfl, dpS s2 hu, trivial, fun H3 s3 => ⟨_, s3 _ _ hD, ?_, same_upd' nD (s2.trans s3), by rw [upd_same, take_snoc he]⟩⟩
        rw [List.length_map, List.length_take]
        exact Nat.lt_of_le_of_lt (Nat.le_trans (Nat.min_le_right _ _) (by omega : ds.length ≤ 4)) (by decide)
      · rintro H2 ⟨s2, hD⟩
        rw [hl, List.take_length] at hD
        refine ⟨D, ds.map isNum, rfl, SqL.of (by rw [List.map_map]; exact hD), bq (A := True) ?_ (k H2 s2)⟩
        show true = (ds.map isNum).all id
        rw [List.all_map]
        exact ea.symm
/-- the content is of one of two classes -/
def ConAt (CW CB : Addr) (H : Hp) (c : Addr) : Prop := ∃ dx fs, H c = some (.ins CW dx fs) ∨ H c = some (.ins CB dx fs)
theorem ConAt.same {H H' : Hp} {c : Addr} (h : ConAt CW CB H c) (s : Same H H') : ConAt CW CB H' c := by
  obtain ⟨dx, fs, h | h⟩ := h
  · exact ⟨dx, fs, .inl (s _ _ h)⟩
  · exact ⟨dx, fs, .inr (s _ _ h)⟩
/-- what isinstance of the three classes wants -/
structure Kinds (K : PySem.W.Frag) (mg : Str → Option Value) (CW CB CP : Addr) : Prop where
  gW : mg "Words" = some (.ref CW)
  gB : mg "Block" = some (.ref CB)
  gP : mg "Page" = some (.ref CP)
  WB : PySem.W.kitOne K (.ref CW) (.ref CB) = some false
  WP : PySem.W.kitOne K (.ref CW) (.ref CP) = some false
  BW : PySem.W.kitOne K (.ref CB) (.ref CW) = some false
  BP : PySem.W.kitOne K (.ref CB) (.ref CP) = some false
theorem kitA3 {t c d e : Value} {b r q : Bool} (h1 : PySem.W.kitOne K t c = some b) (h2 : PySem.W.kitOne K t d = some r) (h3 : PySem.W.kitOne K t e = some q) (h : (b || (r || q)) = true) : PySem.W.kitAny K t [c, d, e] = some true := by
  refine kitAny_cons h1 (fun e => ?_) (fun _ => rfl)
  subst e
  exact K1.kitA h2 h3 h
variable {gI fW fWE gB fBE : Addr}
def spII (K : PySem.W.Frag) (CW CB CI : Addr) : Sp := fun vs H Q _ => ∃ (a dx c : Addr) (xs : List V) (i : Im), vs = .ref a :: .ref c :: xs ∧ H a = some (.ins CI dx []) ∧ ConAt CW CB H c ∧ DpAll K H xs i.ds ∧ OkIm i ∧ ∀ H', Keep a H H' → H' a = some (.ins CI dx (inames.zip (.ref c :: xs))) → Q .non H'
theorem scII : FnScope ["self", "content", "order", "column", "row", "margins", "width", "height", "least_width", "greatest_width", "least_height", "greatest_height", "justify", "align"] ["self", "content", "order", "column", "row", "margins", "width", "height", "least_width", "greatest_width", "least_height", "greatest_height", "justify", "align"] (defScope (inClass (top 100) 0)) := ⟨rfl, rfl, rfl, by decide +kernel, rfl, by decide +kernel, by decide +kernel⟩
theorem ok_ii {f f1 f2 f3 f4 f5 : Addr} {fd d1 d2 d3 d4 d5 fd0 : FuncData} {dvs : List V} {kws : List (Str × V)} (F : FnM K "__init__" "Item.__init__" (inClass (top 100) 0) dvs kws f fd) (N : Nm mg) (T : TI K mg "Item" CI fI inames) (T2 : K1.T2 K mg CW CB fW fWE gB fBE) (Kd : Kinds K mg CW CB CP)
    (d_check_item : D2 P w K mg base "check_item" "part" "is_right" 1 spCG f1 d1) (d_is_integer : D1 P w K mg base "is_integer" "value" 1 (spQ K any isInt) f2 d2) (d_are_edges : D1 P w K mg base "are_edges" "value" 4 (spEs K) f3 d3)
    (d_are_margins : D1 P w K mg base "are_margins" "value" 3 (spMg K) f4 d4) (d_is_told_length : D1 P w K mg base "is_told_length" "value" 4 (spTl K) f5 d5) (d_is_word : D2 P w K mg base "is_word" "value" "words" 1 spNo gI fd0) (aA aD : Addr) (gA : mg "WAYS_ACROSS" = some (.ref aA)) (gD : mg "WAYS_DOWN" = some (.ref aD)) :
    FnOk P w K mg base CX0 5 f fd ("self" :: inames) (spII K CW CB CI) := by
  refine F.ok scII (fun vs H Q E h => ?_) (fun cdv A outer s H vs Q E hr h => ?_)
  · obtain ⟨a, dx, c, xs, i, rfl, _, _, hx, _⟩ := h
    show xs.length + 1 + 1 = 14
    rw [dpLen hx]
    rfl
  · obtain ⟨a, dx, c, xs, i, rfl, ha, hc, hx, ok, k⟩ := h
    refine ⟨_, PSs.nox (pss_cons (ps_expr (pe_call d_check_item.G (hr.mono (by decide)) (by rfl) d_check_item.g d_check_item.kp d_check_item.b .nil pass0 (pa_cons pe_str (pa_cons (pe_callB call_isiT (by rfl) N.isi (by decide +kernel) (pa_cons (pv 1) (pa_cons (pe_tup (pa_cons (pe_glob (by rfl) Kd.gW (v := .ref CW) rfl) (pa_cons (pe_glob (by rfl) Kd.gB (v := .ref CB) rfl) (pa_cons (pe_glob (by rfl) Kd.gP (v := .ref CP) rfl) pa_nil)))) pa_nil))) pa_nil))))
  (pss_cons (ps_expr (pe_call d_check_item.G (hr.mono (by decide)) (by rfl) d_check_item.g d_check_item.kp d_check_item.b .nil pass0 (pa_cons pe_str (pa_cons (pe_call d_is_integer.G (hr.mono (by decide)) (by rfl) d_is_integer.g d_is_integer.kp d_is_integer.b .nil pass0 (pa_cons (pv 2) pa_nil)) pa_nil))))
  (pss_cons (ps_expr (pe_call d_check_item.G (hr.mono (by decide)) (by rfl) d_check_item.g d_check_item.kp d_check_item.b .nil pass0 (pa_cons pe_str (pa_cons (pe_call d_are_edges.G (hr.mono (by decide)) (by rfl) d_are_edges.g d_are_edges.kp d_are_edges.b .nil pass0 (pa_cons (pv 3) pa_nil)) pa_nil))))
  (pss_cons (ps_expr (pe_call d_check_item.G (hr.mono (by decide)) (by rfl) d_check_item.g d_check_item.kp d_check_item.b .nil pass0 (pa_cons pe_str (pa_cons (pe_call d_are_edges.G (hr.mono (by decide)) (by rfl) d_are_edges.g d_are_edges.kp d_are_edges.b .nil pass0 (pa_cons (pv 4) pa_nil)) pa_nil))))
  (pss_cons (ps_expr (pe_call d_check_item.G (hr.mono (by decide)) (by rfl) d_check_item.g d_check_item.kp d_check_item.b .nil pass0 (pa_cons pe_str (pa_cons (pe_call d_are_margins.G (hr.mono (by decide)) (by rfl) d_are_margins.g d_are_margins.kp d_are_margins.b .nil pass0 (pa_cons (pv 5) pa_nil)) pa_nil))))
  (pss_cons (ps_expr (pe_call d_check_item.G (hr.mono (by decide)) (by rfl) d_check_item.g d_check_item.kp d_check_item.b .nil pass0 (pa_cons pe_str (pa_cons (pe_call d_is_told_length.G (hr.mono (by decide)) (by rfl) d_is_told_length.g d_is_told_length.kp d_is_told_length.b .nil pass0 (pa_cons (pv 6) pa_nil)) pa_nil))))
  (pss_cons (ps_expr (pe_call d_check_item.G (hr.mono (by decide)) (by rfl) d_check_item.g d_check_item.kp d_check_item.b .nil pass0 (pa_cons pe_str (pa_cons (pe_call d_is_told_length.G (hr.mono (by decide)) (by rfl) d_is_told_length.g d_is_told_length.kp d_is_told_length.b .nil pass0 (pa_cons (pv 7) pa_nil)) pa_nil))))
  (pss_cons (ps_expr (pe_call d_check_item.G (hr.mono (by decide)) (by rfl) d_check_item.g d_check_item.kp d_check_item.b .nil pass0 (pa_cons pe_str (pa_cons (pe_call d_is_told_length.G (hr.mono (by decide)) (by rfl) d_is_told_length.g d_is_told_length.kp d_is_told_length.b .nil pass0 (pa_cons (pv 8) pa_nil)) pa_nil))))
  (pss_cons (ps_expr (pe_call d_check_item.G (hr.mono (by decide)) (by rfl) d_check_item.g d_check_item.kp d_check_item.b .nil pass0 (pa_cons pe_str (pa_cons (pe_call d_is_told_length.G (hr.mono (by decide)) (by rfl) d_is_told_length.g d_is_told_length.kp d_is_told_length.b .nil pass0 (pa_cons (pv 9) pa_nil)) pa_nil))))
  (pss_cons (ps_expr (pe_call d_check_item.G (hr.mono (by decide)) (by rfl) d_check_item.g d_check_item.kp d_check_item.b .nil pass0 (pa_cons pe_str (pa_cons (pe_call d_is_told_length.G (hr.mono (by decide)) (by rfl) d_is_told_length.g d_is_told_length.kp d_is_told_length.b .nil pass0 (pa_cons (pv 10) pa_nil)) pa_nil))))
  (pss_cons (ps_expr (pe_call d_check_item.G (hr.mono (by decide)) (by rfl) d_check_item.g d_check_item.kp d_check_item.b .nil pass0 (pa_cons pe_str (pa_cons (pe_call d_is_told_length.G (hr.mono (by decide)) (by rfl) d_is_told_length.g d_is_told_length.kp d_is_told_length.b .nil pass0 (pa_cons (pv 11) pa_nil)) pa_nil))))
  (pss_cons (ps_expr (pe_call d_check_item.G (hr.mono (by decide)) (by rfl) d_check_item.g d_check_item.kp d_check_item.b .nil pass0 (pa_cons pe_str (pa_cons (pe_or (pe_cmp (pc_isN (pv 12)) rfl) (pe_one (pe_call d_is_word.G (hr.mono (by decide)) (by rfl) d_is_word.g d_is_word.kp d_is_word.b .nil pass0 (pa_cons (pv 12) (pa_cons (pe_glob (by rfl) gA (v := .ref aA) rfl) pa_nil))))) pa_nil))))
  (pss_cons (ps_expr (pe_call d_check_item.G (hr.mono (by decide)) (by rfl) d_check_item.g d_check_item.kp d_check_item.b .nil pass0 (pa_cons pe_str (pa_cons (pe_or (pe_cmp (pc_isN (pv 13)) rfl) (pe_one (pe_call d_is_word.G (hr.mono (by decide)) (by rfl) d_is_word.g d_is_word.kp d_is_word.b .nil pass0 (pa_cons (pv 13) (pa_cons (pe_glob (by rfl) gD (v := .ref aD) rfl) pa_nil))))) pa_nil))))
  (pss_cons (ps_fld (pv 0) (pv 1) rfl)
  (pss_cons (ps_fld (pv 0) (pv 2) rfl)
  (pss_cons (ps_fld (pv 0) (pv 3) rfl)
  (pss_cons (ps_fld (pv 0) (pv 4) rfl)
  (pss_cons (ps_fld (pv 0) (pv 5) rfl)
  (pss_cons (ps_fld (pv 0) (pv 6) rfl)
  (pss_cons (ps_fld (pv 0) (pv 7) rfl)
  (pss_cons (ps_fld (pv 0) (pv 8) rfl)
  (pss_cons (ps_fld (pv 0) (pv 9) rfl)
  (pss_cons (ps_fld (pv 0) (pv 10) rfl)
  (pss_cons (ps_fld (pv 0) (pv 11) rfl)
  (pss_cons (ps_fld (pv 0) (pv 12) rfl)
  (pss_one (ps_fld (pv 0) (pv 13) rfl))))))))))))))))))))))))))), ?_⟩
    have hx : DpAll K H xs [.int 0, .tuple [.none, .none], .tuple [.none, .none], .tuple i.ms, oq i.w, oq i.h, oq i.lw, oq i.gw, oq i.lh, oq i.gh, .none, .none] := hx
    cases hx with
    | @cons v1 xs _ _ h1 hx =>
      cases hx with
      | @cons v2 xs _ _ h2 hx =>
        cases hx with
        | @cons v3 xs _ _ h3 hx =>
          cases hx with
          | @cons v4 xs _ _ h4 hx =>
            cases hx with
            | @cons v5 xs _ _ h5 hx =>
              cases hx with
              | @cons v6 xs _ _ h6 hx =>
                cases hx with
                | @cons v7 xs _ _ h7 hx =>
                  cases hx with
                  | @cons v8 xs _ _ h8 hx =>
                    cases hx with
                    | @cons v9 xs _ _ h9 hx =>
                      cases hx with
                      | @cons v10 xs _ _ h10 hx =>
                        cases hx with
                        | @cons v11 xs _ _ h11 hx =>
                          cases hx with
                          | @cons v12 xs _ _ h12 hx =>
                            cases hx
                            cases h1
                            cases h11
                            cases h12
                            refine ⟨_, rfl, (by show 3 ≤ sizeLine; decide), fun z nz => ?_⟩
                            have s0 := same_upd (o := .tup [.ref CW, .ref CB, .ref CP]) nz
                            have tyk : ∃ t, TyX K (L2.upd H z (.tup [.ref CW, .ref CB, .ref CP])) (.ref c) t ∧ PySem.W.kitAny K t [.ref CW, .ref CB, .ref CP] = some true := by
                              obtain ⟨dc, fs, hc | hc⟩ := hc
                              · exact ⟨_, T2.W.ty (s0 _ _ hc), kitA3 T2.W.self Kd.WB Kd.WP rfl⟩
                              · exact ⟨_, T2.B.ty (s0 _ _ hc), kitA3 Kd.BW T2.B.self Kd.BP rfl⟩
                            obtain ⟨ty, hty, hk⟩ := tyk
                            refine ⟨_, z, _, _, _, true, rfl, upd_same, .cons (.own _) (.cons (.own _) (.cons (.own _) .nil)), hty, hk, _, _, rfl, rfl, ?_⟩
                            refine ⟨_, rfl, .int 0, .int 0, rfl, .int _, trivial, fun H1 s1 => ⟨_, _, rfl, rfl, ?_⟩⟩
                            have s1 := s0.trans s1
                            refine ⟨_, rfl, v2, rfl, dpS s1 h2, _, _, rfl, rfl, ?_⟩
                            refine ⟨_, rfl, v3, rfl, dpS s1 h3, _, _, rfl, rfl, ?_⟩
                            refine ⟨_, rfl, v4, i, rfl, dpS s1 h4, fun H2 s2 => ⟨_, _, rfl, rfl, ?_⟩⟩
                            have s2 := s1.trans s2
                            refine ⟨_, rfl, v5, i.w, rfl, dpS s2 h5, ok.w, fun H3 s3 => ⟨_, _, rfl, rfl, ?_⟩⟩
                            have s3 := s2.trans s3
                            refine ⟨_, rfl, v6, i.h, rfl, dpS s3 h6, ok.h, fun H4 s4 => ⟨_, _, rfl, rfl, ?_⟩⟩
                            have s4 := s3.trans s4
                            refine ⟨_, rfl, v7, i.lw, rfl, dpS s4 h7, ok.lw, fun H5 s5 => ⟨_, _, rfl, rfl, ?_⟩⟩
                            have s5 := s4.trans s5
                            refine ⟨_, rfl, v8, i.gw, rfl, dpS s5 h8, ok.gw, fun H6 s6 => ⟨_, _, rfl, rfl, ?_⟩⟩
                            have s6 := s5.trans s6
                            refine ⟨_, rfl, v9, i.lh, rfl, dpS s6 h9, ok.lh, fun H7 s7 => ⟨_, _, rfl, rfl, ?_⟩⟩
                            have s7 := s6.trans s7
                            refine ⟨_, rfl, v10, i.gh, rfl, dpS s7 h10, ok.gh, fun H8 s8 => ⟨_, _, rfl, rfl, ?_⟩⟩
                            have s8 := s7.trans s8
                            refine ⟨_, rfl, true, rfl, iteT ⟨_, _, rfl, rfl, ?_⟩⟩
                            refine ⟨_, rfl, true, rfl, iteT ⟨_, _, rfl, rfl, ?_⟩⟩
                            refine ⟨_, rfl, _, rfl, a, CI, dx, _, rfl, s8 _ _ ha, T.cl, T.na "content" (by decide), (by show 0 < 1000; decide), ?_⟩
                            refine ⟨_, rfl, _, rfl, a, CI, dx, _, rfl, upd_same, T.cl, T.na "order" (by decide), (by show 1 < 1000; decide), ?_⟩
                            refine ⟨_, rfl, _, rfl, a, CI, dx, _, rfl, upd_same, T.cl, T.na "column" (by decide), (by show 2 < 1000; decide), ?_⟩
                            refine ⟨_, rfl, _, rfl, a, CI, dx, _, rfl, upd_same, T.cl, T.na "row" (by decide), (by show 3 < 1000; decide), ?_⟩
                            refine ⟨_, rfl, _, rfl, a, CI, dx, _, rfl, upd_same, T.cl, T.na "margins" (by decide), (by show 4 < 1000; decide), ?_⟩
                            refine ⟨_, rfl, _, rfl, a, CI, dx, _, rfl, upd_same, T.cl, T.na "width" (by decide), (by show 5 < 1000; decide), ?_⟩
                            refine ⟨_, rfl, _, rfl, a, CI, dx, _, rfl, upd_same, T.cl, T.na "height" (by decide), (by show 6 < 1000; decide), ?_⟩
                            refine ⟨_, rfl, _, rfl, a, CI, dx, _, rfl, upd_same, T.cl, T.na "least_width" (by decide), (by show 7 < 1000; decide), ?_⟩
                            refine ⟨_, rfl, _, rfl, a, CI, dx, _, rfl, upd_same, T.cl, T.na "greatest_width" (by decide), (by show 8 < 1000; decide), ?_⟩
                            refine ⟨_, rfl, _, rfl, a, CI, dx, _, rfl, upd_same, T.cl, T.na "least_height" (by decide), (by show 9 < 1000; decide), ?_⟩
                            refine ⟨_, rfl, _, rfl, a, CI, dx, _, rfl, upd_same, T.cl, T.na "greatest_height" (by decide), (by show 10 < 1000; decide), ?_⟩
                            refine ⟨_, rfl, _, rfl, a, CI, dx, _, rfl, upd_same, T.cl, T.na "justify" (by decide), (by show 11 < 1000; decide), ?_⟩
                            refine ⟨_, rfl, _, rfl, a, CI, dx, _, rfl, upd_same, T.cl, T.na "align" (by decide), (by show 12 < 1000; decide), ?_⟩
                            exact k _ (((((((((((((Keep.of s8).upd).upd).upd).upd).upd).upd).upd).upd).upd).upd).upd).upd).upd upd_same
end
end K5

set_option Elab.async false
set_option linter.all false
set_option maxRecDepth 100000
set_option maxHeartbeats 4000000
/-! o.f as a target of its own, a, b = x with attributes -/
namespace L2
open PySem PySem.Spec PyProof.Rows
def gFld (K : PySem.W.Frag) (ta : TE) (f : Str) : TG := fun v σ H Q => ta σ H fun x H1 => ∃ a C dx fs, x = .ref a ∧ H1 a = some (.ins C dx fs) ∧ Cls K C ∧ NoAttr K C f ∧ fs.length < 1000 ∧ Q σ (upd H1 a (.ins C dx (putF f v fs)))
theorem pg_fld {X : Cx} {o : Expr} {f : Str} {pos : Pos} {ta : TE} (ho : PE X o ta) : PG X (.Attribute o f pos) (gFld X.K ta f) := by
  refine ⟨fun pins s σ H v u Q I r h => ?_⟩
  rw [assign_Attribute]
  refine wpAny_bind (wpAny_holding (thn (ho.run pins s σ H _ I h) fun ov s1 ⟨x, H1, I1, r1, q1⟩ => ?_))
  obtain ⟨a, C, dx, fs, ex, ea, c, n, l, q2⟩ := q1
  subst ex
  obtain rfl : ov = Value.ref a := r1
  refine wpAny_bind (wpAny_standAt (wpAny_bind (wpAny_holding (setattr_ok I1 ea c n l r fun s3 I3 => ?_))))
  exact wpAny_release ⟨σ, _, I3, q2⟩
end L2
namespace K5
open PySem PySem.Spec PyProof.Rows L2
open K1 (FnP top Nm Sz wm dat)
/-! ### lows, highs -/
inductive Pv where
  | wd (z : Str)
  | num (n : Int)
  | part (n : Int)
  | shr (n : Int)
def Pv.d : Pv → PyData
  | .wd z => .str z
  | .num n => nq n
  | .part n => .tuple [.str "part", nq n]
  | .shr n => .tuple [.str "share", nq n]
def Pv.bd : Pv → Option Int → Str × Option Int
  | .wd z, _ => (z, none)
  | .num n, _ => ("fixed", some n)
  | .part _, none => ("auto", none)
  | .part n, some w => ("fixed", some (n * w / 1728))
  | .shr n, _ => ("share", some n)
def OkPv (ow : Option Int) : Pv → Prop
  | .wd z => z ∈ sizeWords
  | .num n => 0 ≤ n ∧ n ≤ 1000000000000
  | .part n => 0 ≤ n ∧ n ≤ 1000000 ∧ ∀ w, ow = some w → ∃ r, n * w = 1728 * r ∧ 0 ≤ r ∧ r ≤ 1000000000000
  | .shr n => 0 ≤ n ∧ n ≤ 1000000000000
inductive Sv where
  | pl (p : Pv)
  | bt (l h : Pv)
  | up (p : Pv)
def Sv.d : Sv → PyData
  | .pl p => p.d
  | .bt l h => .tuple [.str "between", l.d, h.d]
  | .up p => .tuple [.str "upto", p.d]
structure Bd where
  lw : Str
  lo : Option Int
  hw : Str
  hi : Option Int
  sh : Option Int
  cap : Option Int
def mkBd (l h : Str × Option Int) (c : Option Int) : Bd := if h.1 = "share" then ⟨l.1, l.2, h.1, none, h.2, c⟩ else ⟨l.1, l.2, h.1, h.2, none, c⟩
def Sv.bd (ow : Option Int) : Sv → Bd
  | .bt l h => mkBd (l.bd ow) (h.bd ow) none
  | .up p => mkBd ("auto", none) ("most", none) (p.bd ow).2
  | .pl p => mkBd (if (p.bd ow).1 = "share" then ("auto", none) else p.bd ow) (p.bd ow) none
def isLp : Pv → Prop
  | .num _ => True
  | .part _ => True
  | _ => False
def isNs : Pv → Prop
  | .shr _ => False
  | _ => True
def OkSv (ow : Option Int) : Sv → Prop
  | .pl p => OkPv ow p
  | .bt l h => OkPv ow l ∧ isNs l ∧ OkPv ow h
  | .up p => OkPv ow p ∧ isLp p
theorem nq_mark (n : Int) (z : Str) (k : Int) : isMark (nq n) z k = false := by
  unfold nq K1.dat
  by_cases e : (mkRat n 1728).den = 1
  · rw [if_pos e]
    rfl
  · rw [if_neg e]
    show (decide _ && false) = false
    rw [Bool.and_false]
theorem nq_str (n : Int) : isTy (nq n) "str" = false := by
  unfold nq K1.dat
  by_cases e : (mkRat n 1728).den = 1
  · rw [if_pos e]
    simp only [isTy, tyN]; decide
  · rw [if_neg e]
    simp only [isTy, tyN]; decide
def bnames : List Str := ["low_word", "low", "high_word", "high", "share", "cap"]
def Bd.ds (b : Bd) : List PyData := [.str b.lw, oq b.lo, .str b.hw, oq b.hi, oq b.sh, oq b.cap]
def BdAt (K : PySem.W.Frag) (C : Addr) (H : Hp) (a : Addr) (b : Bd) : Prop := ∃ dx vs, H a = some (.ins C dx (bnames.zip vs)) ∧ DpAll K H vs b.ds
theorem BdAt.same {K : PySem.W.Frag} {C : Addr} {H H' : Hp} {a : Addr} {b : Bd} (h : BdAt K C H a b) (s : Same H H') : BdAt K C H' a b := by
  obtain ⟨dx, vs, h1, h2⟩ := h
  exact ⟨dx, vs, s _ _ h1, dpSA s h2⟩
/-- what is no instance keeps its data when one is written -/
theorem seqT_kn {K : PySem.W.Frag} {a C dx : Addr} {fs : List (Str × V)} {H H' : Hp} {p : Addr} {xs : List V} (s : Keep a H H') (ha : H a = some (.ins C dx fs)) (h : SqT K H p xs) : SqT K H' p xs := by
  rcases h with (h | ⟨o, h⟩) | h
  · exact .inl (.inl (s _ _ (fun e => by rw [e, ha] at h; cases h) h))
  · exact .inl (.inr ⟨o, s _ _ (fun e => by rw [e, ha] at h; cases h) h⟩)
  · exact .inr h
theorem seqL_kn {K : PySem.W.Frag} {a C dx : Addr} {fs : List (Str × V)} {H H' : Hp} {p : Addr} {xs : List V} (s : Keep a H H') (ha : H a = some (.ins C dx fs)) (h : SqL K H p xs) : SqL K H' p xs := by
  rcases h with (h | ⟨o, h⟩) | h
  · exact .inl (.inl (s _ _ (fun e => by rw [e, ha] at h; cases h) h))
  · exact .inl (.inr ⟨o, s _ _ (fun e => by rw [e, ha] at h; cases h) h⟩)
  · exact .inr h
mutual
theorem dpN {K : PySem.W.Frag} {a C dx : Addr} {fs : List (Str × V)} {H H' : Hp} (e : Keep a H H') (ha : H a = some (.ins C dx fs)) : ∀ {d : PyData} {v : V}, Dp K H v d → Dp K H' v d
  | .none, _, h => by cases h; exact .non
  | .bool _, _, h => by cases h; exact .bl _
  | .int _, _, h => by cases h; exact .int _
  | .str _, _, h => by cases h; exact .str _
  | .list ds, _, h => by
    cases h with
    | lst h1 h2 => exact .lst (seqL_kn e ha h1) (dpNA e ha h2)
  | .tuple ds, _, h => by
    cases h with
    | tup h1 h2 => exact .tup (seqT_kn e ha h1) (dpNA e ha h2)
  | .dict _, _, h => nomatch h
theorem dpNA {K : PySem.W.Frag} {a C dx : Addr} {fs : List (Str × V)} {H H' : Hp} (e : Keep a H H') (ha : H a = some (.ins C dx fs)) : ∀ {ds : List PyData} {vs : List V}, DpAll K H vs ds → DpAll K H' vs ds
  | [], _, h => by cases h; exact .nil
  | _ :: _, _, h => by
    cases h with
    | cons h1 h2 => exact .cons (dpN e ha h1) (dpNA e ha h2)
end
structure DM (P : Program) (w : World) (K : PySem.W.Frag) (mg : Str → Option Value) (base : Heap) (x : Str) (ps : List Str) (k : Nat) (sp : Sp) (C f : Addr) (fd : FuncData) : Prop where
  M : Mk K C f
  G : FnOk P w K mg base CX0 k f fd ps sp
  gC : mg x = some (.ref C)
  b : Binds K fd ps []
section
variable {P : Program} {w : World} {K : PySem.W.Frag} {mg : Str → Option Value} {base : Heap} {CB fI : Addr}
/-- Bounds(low, high, cap) -/
def spBI (K : PySem.W.Frag) (CB : Addr) : Sp := fun vs H Q _ => ∃ (a dx p q : Addr) (x : V) (l h : Str × Option Int) (c : Option Int) (u1 u2 : V), vs = [.ref a, .ref p, .ref q, x] ∧ H a = some (.ins CB dx []) ∧ SqT K H p [.str l.1, u1] ∧ Dp K H u1 (oq l.2) ∧ SqT K H q [.str h.1, u2] ∧ Dp K H u2 (oq h.2) ∧ Dp K H x (oq c) ∧
  ∀ H', Keep a H H' → BdAt K CB H' a (mkBd l h c) → Q .non H'
theorem scBI : FnScope ["self", "low", "high", "cap"] ["self", "low", "high", "cap"] (defScope (inClass (top 113) 0)) := ⟨rfl, rfl, rfl, by decide +kernel, rfl, by decide +kernel, by decide +kernel⟩
theorem ok_bi {f : Addr} {fd : FuncData} {dvs : List V} {kws : List (Str × V)} (F : FnM K "__init__" "Bounds.__init__" (inClass (top 113) 0) dvs kws f fd) (T : TI K mg "Bounds" CB fI bnames) : FnOk P w K mg base CX0 1 f fd ["self", "low", "high", "cap"] (spBI K CB) := by
  refine F.ok scBI (fun vs H Q E h => ?_) (fun cdv A outer s H vs Q E hr h => ?_)
  · obtain ⟨a, dx, p, q, x, l, h, c, u1, u2, rfl, _⟩ := h
    rfl
  · obtain ⟨a, dx, p, q, x, ⟨l1, l2⟩, ⟨h1, h2⟩, c, u1, u2, rfl, ha, hp, hu1, hq, hu2, hx, k⟩ := h
    refine ⟨_, PSs.nox (pss_cons (ps_asg (pv 1) (pg_tup rfl (pgs_cons (pg_fld (pv 0)) (pgs_cons (pg_fld (pv 0)) pgs_nil))))
  (pss_cons (ps_asg (pv 2) (pg_tup rfl (pgs_cons (pg_fld (pv 0)) (pgs_cons (pg_fld (pv 0)) pgs_nil))))
  (pss_cons (ps_fld (pv 0) pe_non rfl)
  (pss_cons (ps_fld (pv 0) (pv 3) rfl)
  (pss_one (ps_if (pt_cmpR op_eq (pe_fld (pv 0) rfl) pe_str (nomark _))
    (pss_cons (ps_fld (pv 0) (pe_fld (pv 0) rfl) rfl)
  (pss_one (ps_fld (pv 0) pe_non rfl)))
    pss_nil)))))), ?_⟩
    have na : ∀ y ∈ bnames, NoAttr K CB y := T.na
    refine ⟨_, rfl, p, _, rfl, hp, rfl, _, _, rfl, _, rfl, a, CB, dx, _, rfl, ha, T.cl, na "low_word" (by decide), (by show 0 < 1000; decide), _, _, rfl, _, rfl, a, CB, dx, _, rfl, upd_same, T.cl, na "low" (by decide), (by show 1 < 1000; decide), rfl, ?_⟩
    have k1 : Keep a H (upd (upd H a (.ins CB dx [("low_word", .str l1)])) a (.ins CB dx [("low_word", .str l1), ("low", u1)])) := ((Keep.of (Same.refl H)).upd).upd
    refine ⟨_, rfl, q, _, rfl, seqT_kn k1 ha hq, rfl, _, _, rfl, _, rfl, a, CB, dx, _, rfl, upd_same, T.cl, na "high_word" (by decide), (by show 2 < 1000; decide), _, _, rfl, _, rfl, a, CB, dx, _, rfl, upd_same, T.cl, na "high" (by decide), (by show 3 < 1000; decide), rfl, ?_⟩
    refine ⟨_, rfl, a, CB, dx, _, rfl, upd_same, T.cl, na "share" (by decide), (by show 4 < 1000; decide), ?_⟩
    refine ⟨_, rfl, _, rfl, a, CB, dx, _, rfl, upd_same, T.cl, na "cap" (by decide), (by show 5 < 1000; decide), ?_⟩
    refine ⟨_, rfl, a, CB, dx, _, _, rfl, upd_same, T.cl, na "high_word" (by decide), rfl, rfl, _, rfl, ite2 (fun c => ?_) (fun c => ?_)⟩
    · have c : V.str h1 = V.str "share" := of_decide_eq_true c
      injection c with c
      subst c
      refine ⟨_, rfl, a, CB, dx, _, _, rfl, upd_same, T.cl, na "high" (by decide), rfl, _, rfl, a, CB, dx, _, rfl, upd_same, T.cl, na "share" (by decide), (by show 6 < 1000; decide), ?_⟩
      refine ⟨_, rfl, a, CB, dx, _, rfl, upd_same, T.cl, na "high" (by decide), (by show 6 < 1000; decide), ?_⟩
      refine k _ k1.upd.upd.upd.upd.upd.upd ⟨dx, [.str l1, u1, .str "share", .non, u2, x], upd_same, ?_⟩
      have kf := fun (o1 o2 o3 o4 o5 o6 : HO) => (((((k1.upd (o := o1)).upd (o := o2)).upd (o := o3)).upd (o := o4)).upd (o := o5)).upd (o := o6)
      unfold mkBd
      rw [if_pos rfl]
      exact .cons (.str _) (.cons (dpN (kf _ _ _ _ _ _) ha hu1) (.cons (.str _) (.cons .non (.cons (dpN (kf _ _ _ _ _ _) ha hu2) (.cons (dpN (kf _ _ _ _ _ _) ha hx) .nil)))))
    · have c : h1 ≠ "share" := fun e => c (decide_eq_true (by rw [e]))
      refine k _ k1.upd.upd.upd.upd ⟨dx, [.str l1, u1, .str h1, u2, .non, x], upd_same, ?_⟩
      have kf := fun (o1 o2 o3 o4 : HO) => (((k1.upd (o := o1)).upd (o := o2)).upd (o := o3)).upd (o := o4)
      unfold mkBd
      rw [if_neg c]
      exact .cons (.str _) (.cons (dpN (kf _ _ _ _) ha hu1) (.cons (.str _) (.cons (dpN (kf _ _ _ _) ha hu2) (.cons .non (.cons (dpN (kf _ _ _ _) ha hx) .nil)))))
end
end K5

set_option Elab.async false
set_option linter.all false
set_option maxRecDepth 100000
set_option maxHeartbeats 4000000
namespace K5
open PySem PySem.Spec PyProof.Rows L2
open K1 (FnP top Nm Sz wm dat)
theorem Keep.same {a : Addr} {H H0 H1 : Hp} (s : Keep a H H1) (n : H0 a = none) (z : Same H0 H) : Same H0 H1 := fun b o e => s b o (ne_of_none e n) (z b o e)
theorem part_mark (n : Int) : isMark (.tuple [.str "part", nq n]) "part" 2 = true := by
  show (decide ((2 : Int) = 2) && isWord (.str "part") ["part"]) = true
  decide +kernel
theorem share_mark (n : Int) : isMark (.tuple [.str "share", nq n]) "share" 2 = true := by
  show (decide ((2 : Int) = 2) && isWord (.str "share") ["share"]) = true
  decide +kernel
theorem part_noshare (n : Int) : isMark (.tuple [.str "part", nq n]) "share" 2 = false := by
  show (decide ((2 : Int) = 2) && isWord (.str "part") ["share"]) = false
  decide +kernel
theorem oq_non {K : PySem.W.Frag} {H : Hp} {u : V} {n : Int} (h : Dp K H u (oq (some n))) : decide (u = .non) = false := by
  rcases NumD.dat (q := mkRat n 1728) h with ⟨rfl, _⟩ | ⟨p, rfl, _⟩
  · rfl
  · rfl
def lpB : Option Int → Str × Option Int
  | none => ("auto", none)
  | some m => ("fixed", some m)
theorem lp_bd {p : Pv} {ow : Option Int} (h : isLp p) : p.bd ow = lpB (p.bd ow).2 := by
  cases p with
  | num n => rfl
  | part n => cases ow <;> rfl
  | wd z => exact h.elim
  | shr n => exact h.elim
section
variable {P : Program} {w : World} {K : PySem.W.Frag} {mg : Str → Option Value} {base : Heap} {CB fI : Addr}
def spLi (K : PySem.W.Frag) : Sp := fun vs H Q _ => ∃ (v wv : V) (p : Pv) (ow : Option Int), vs = [v, wv] ∧ Dp K H v p.d ∧ isLp p ∧ OkPv ow p ∧ Dp K H wv (oq ow) ∧ Bo ow ∧ ∀ H' u, Same H H' → Dp K H' u (oq (p.bd ow).2) → Q u H'
theorem scLi : FnScope ["value", "whole"] ["value", "whole"] (defScope (top 114)) := ⟨rfl, rfl, rfl, by decide +kernel, rfl, by decide +kernel, by decide +kernel⟩
theorem ok_li {f f1 f2 : Addr} {fd d1 d2 : FuncData} (F : FnP K "length_in" (top 114) f fd) (d_is_marked : D3 P w K mg base "is_marked" "value" "word" "many" 2 (spMark K) f1 d1) (d_times : D2 P w K mg base "times" "one" "other" 2 (spTm2 K) f2 d2) : FnOk P w K mg base CX0 3 f fd ["value", "whole"] (spLi K) := by
  refine F.ok scLi (fun vs H Q E h => ?_) (fun cdv A outer s H vs Q E hr h => ?_)
  · obtain ⟨v, wv, p, ow, rfl, _⟩ := h
    rfl
  · obtain ⟨v, wv, p, ow, rfl, hv, hl, ok, hw, bo, k⟩ := h
    refine ⟨_, PSs.nox (pss_cons (ps_if (pt_not (pt_val (pe_call d_is_marked.G (hr.mono (by decide)) (by rfl) d_is_marked.g d_is_marked.kp d_is_marked.b .nil pass0 (pa_cons (pv 0) (pa_cons pe_str (pa_cons pe_int pa_nil))))))
    (pss_one (ps_ret (pv 0)))
    pss_nil)
  (pss_one (ps_ret (pe_ifExp (pt_cmp (pc_isN (pv 1))) pe_non (pe_call d_times.G (hr.mono (by decide)) (by rfl) d_times.g d_times.kp d_times.b .nil pass0 (pa_cons (pe_ix ix_tup (pv 0) pe_int (fun _ _ => rfl)) (pa_cons (pv 1) pa_nil))))))), ?_⟩
    refine ⟨_, rfl, v, p.d, "part", 2, rfl, hv, by decide, fun H1 s1 => ⟨_, rfl, ?_⟩⟩
    cases p with
    | wd z => exact hl.elim
    | shr n => exact hl.elim
    | num n =>
      refine ite2 (fun _ => ?_) (fun c => absurd (show (!isMark (nq n) "part" 2) = true by rw [nq_mark]; rfl) c)
      exact ⟨_, rfl, k _ _ s1 (dpS s1 hv)⟩
    | part n =>
      refine ite2 (fun c => absurd (show (!isMark (.tuple [.str "part", nq n]) "part" 2) = true from c) (by rw [part_mark]; decide)) (fun _ => ?_)
      cases ow with
      | none =>
        cases hw
        exact ⟨_, rfl, true, rfl, iteT (k _ _ s1 .non)⟩
      | some w =>
        refine ⟨_, rfl, false, congrArg V.bl (oq_non hw), iteF ?_⟩
        obtain ⟨n0, n1, hr'⟩ := ok
        obtain ⟨r, er, r0, r1⟩ := hr' w rfl
        obtain ⟨w0, w1⟩ := bo w rfl
        cases hv with
        | @tup q xs _ ht hx =>
          cases hx with
          | cons h1 hx =>
            cases hx with
            | @cons u _ _ _ h2 hx =>
              cases hx
              refine ⟨_, rfl, q, _, _, u, rfl, rfl, Same.seqT s1 ht, atI_nat (j := 1) rfl, _, rfl, u, wv, n, w, r, rfl, dpS s1 h2, dpS s1 hw, by omega, by omega, er, fun H2 u2 s2 hu2 => k _ _ (s1.trans s2) ?_⟩
              show Dp K H2 u2 (oq (some (n * w / 1728)))
              rw [er, Int.mul_ediv_cancel_left r (by decide : (1728 : Int) ≠ 0)]
              exact hu2
def spBo (K : PySem.W.Frag) : Sp := fun vs H Q _ => ∃ (v wv : V) (p : Pv) (ow : Option Int), vs = [v, wv] ∧ Dp K H v p.d ∧ OkPv ow p ∧ Dp K H wv (oq ow) ∧ Bo ow ∧ ∀ H' t u, Same H H' → SqT K H' t [.str (p.bd ow).1, u] → Dp K H' u (oq (p.bd ow).2) → Q (.ref t) H'
theorem scBo : FnScope ["value", "whole", "length"] ["value", "whole"] (defScope (top 115)) := ⟨rfl, rfl, rfl, by decide +kernel, rfl, by decide +kernel, by decide +kernel⟩
theorem ok_bo {f f1 f2 : Addr} {fd d1 d2 : FuncData} (F : FnP K "bound_of" (top 115) f fd) (N : Nm mg) (hs : mg "str" = none) (d_is_marked : D3 P w K mg base "is_marked" "value" "word" "many" 2 (spMark K) f1 d1) (d_length_in : D2 P w K mg base "length_in" "value" "whole" 3 (spLi K) f2 d2) : FnOk P w K mg base CX0 4 f fd ["value", "whole"] (spBo K) := by
  refine F.ok scBo (fun vs H Q E h => ?_) (fun cdv A outer s H vs Q E hr h => ?_)
  · obtain ⟨v, wv, p, ow, rfl, _⟩ := h
    rfl
  · obtain ⟨v, wv, p, ow, rfl, hv, ok, hw, bo, k⟩ := h
    refine ⟨_, PSs.nox (pss_cons (ps_if (pt_val (pe_callB call_isi (by rfl) N.isi (by decide +kernel) (pa_cons (pv 0) (pa_cons (pe_bltn (v := .ty "str") (u := .type "str") (by rfl) hs (by decide +kernel) rfl) pa_nil))))
    (pss_one (ps_ret (pe_tup (pa_cons (pv 0) (pa_cons pe_non pa_nil)))))
    pss_nil)
  (pss_cons (ps_if (pt_val (pe_call d_is_marked.G (hr.mono (by decide)) (by rfl) d_is_marked.g d_is_marked.kp d_is_marked.b .nil pass0 (pa_cons (pv 0) (pa_cons pe_str (pa_cons pe_int pa_nil)))))
    (pss_one (ps_ret (pe_tup (pa_cons pe_str (pa_cons (pe_ix ix_tup (pv 0) pe_int (fun _ _ => rfl)) pa_nil)))))
    pss_nil)
  (pss_cons (ps_set (i := 2) scBo.nd rfl (Or.inl rfl) (pe_call d_length_in.G (hr.mono (by decide)) (by rfl) d_length_in.g d_length_in.kp d_length_in.b .nil pass0 (pa_cons (pv 0) (pa_cons (pv 1) pa_nil))))
  (pss_one (ps_ret (pe_ifExp (pt_cmp (pc_isN (pv 2))) (pe_tup (pa_cons pe_str (pa_cons pe_non pa_nil))) (pe_tup (pa_cons pe_str (pa_cons (pv 2) pa_nil))))))))), ?_⟩
    have len : ∀ (p : Pv) (H1 : Hp), isLp p → OkPv ow p → Same H H1 → Dp K H1 v p.d → (∀ H' t u, Same H1 H' → SqT K H' t [.str (p.bd ow).1, u] → Dp K H' u (oq (p.bd ow).2) → Q (.ref t) H') → True := fun _ _ _ _ _ _ _ => trivial
    clear len
    cases p with
    | wd z =>
      cases hv
      refine ⟨_, rfl, _, _, _, _, true, rfl, .ty _, .base (.str _), kit_ty (by decide +kernel), true, rfl, iteT ?_⟩
      exact ⟨_, rfl, (by show 2 ≤ sizeLine; decide), fun t nt => k _ t .non (same_upd nt) (SqT.of upd_same) .non⟩
    | shr n =>
      refine ⟨_, rfl, _, _, _, _, false, rfl, .ty _, dpTy hv, kitD _ (by decide), false, rfl, iteF ?_⟩
      refine ⟨_, rfl, v, _, "share", 2, rfl, hv, by decide, fun H1 s1 => ⟨_, rfl, ite2 (fun _ => ?_) (fun c => absurd (share_mark n) c)⟩⟩
      cases hv with
      | @tup q xs _ ht hx =>
        cases hx with
        | cons h1 hx =>
          cases hx with
          | @cons u _ _ _ h2 hx =>
            cases hx
            refine ⟨_, rfl, q, _, _, u, rfl, rfl, Same.seqT s1 ht, atI_nat (j := 1) rfl, (by show 2 ≤ sizeLine; decide), fun t nt => ?_⟩
            have st := same_upd (o := .tup [.str "share", u]) nt
            exact k _ t u (s1.trans st) (SqT.of upd_same) (dpS (s1.trans st) h2)
    | num n =>
      refine ⟨_, rfl, _, _, _, _, _, rfl, .ty _, dpTy hv, kitD _ (by decide), _, rfl, ite2 (fun c => absurd c (by show ¬ isTy (nq n) "str" = true; rw [nq_str]; decide)) (fun _ => ?_)⟩
      refine ⟨_, rfl, v, _, "share", 2, rfl, hv, by decide, fun H1 s1 => ⟨_, rfl, ite2 (fun c => absurd c (by show ¬ isMark (nq n) "share" 2 = true; rw [nq_mark]; decide)) (fun _ => ?_)⟩⟩
      refine ⟨_, rfl, _, rfl, v, wv, .num n, ow, rfl, dpS s1 hv, trivial, ok, dpS s1 hw, bo, fun H2 u s2 hu => ?_⟩
      refine ⟨_, rfl, false, congrArg V.bl (oq_non (n := n) hu), iteF ⟨_, rfl, (by show 2 ≤ sizeLine; decide), fun t nt => ?_⟩⟩
      have st := same_upd (o := .tup [.str "fixed", u]) nt
      exact k _ t u ((s1.trans s2).trans st) (SqT.of upd_same) (dpS st hu)
    | part n =>
      refine ⟨_, rfl, _, _, _, _, false, rfl, .ty _, dpTy hv, kitD _ (by decide), false, rfl, iteF ?_⟩
      refine ⟨_, rfl, v, _, "share", 2, rfl, hv, by decide, fun H1 s1 => ⟨_, rfl, ite2 (fun c => absurd c (by show ¬ isMark (.tuple [.str "part", nq n]) "share" 2 = true; rw [part_noshare]; decide)) (fun _ => ?_)⟩⟩
      refine ⟨_, rfl, _, rfl, v, wv, .part n, ow, rfl, dpS s1 hv, trivial, ok, dpS s1 hw, bo, fun H2 u s2 hu => ?_⟩
      cases ow with
      | none =>
        cases hu
        refine ⟨_, rfl, true, rfl, iteT ⟨(by show 2 ≤ sizeLine; decide), fun t nt => ?_⟩⟩
        have st := same_upd (o := .tup [.str "auto", .non]) nt
        exact k _ t .non ((s1.trans s2).trans st) (SqT.of upd_same) .non
      | some w =>
        refine ⟨_, rfl, false, congrArg V.bl (oq_non (n := n * w / 1728) hu), iteF ⟨_, rfl, (by show 2 ≤ sizeLine; decide), fun t nt => ?_⟩⟩
        have st := same_upd (o := .tup [.str "fixed", u]) nt
        exact k _ t u ((s1.trans s2).trans st) (SqT.of upd_same) (dpS st hu)
def spBs (K : PySem.W.Frag) (CB : Addr) : Sp := fun vs H Q _ => ∃ (v wv : V) (sv : Sv) (ow : Option Int), vs = [v, wv] ∧ Dp K H v sv.d ∧ OkSv ow sv ∧ Dp K H wv (oq ow) ∧ Bo ow ∧ ∀ H' a, Same H H' → BdAt K CB H' a (sv.bd ow) → Q (.ref a) H'
theorem made_same {H : Hp} {x dx C : Addr} (nx : H x = none) (nd : H dx = none) : Same H (upd (upd H dx (.own x)) x (.ins C dx [])) := same_upd' nx (same_upd nd)
theorem Pv.mark {p : Pv} {z : Str} {k : Int} (h1 : z ≠ "part") (h2 : z ≠ "share") : isMark p.d z k = false := by
  cases p with
  | wd y => rfl
  | num n => exact nq_mark n z k
  | part n =>
    show (decide _ && ([z].any fun w => w == ("part" : Str))) = false
    rw [List.any_cons, List.any_nil, beq_eq_false_iff_ne.mpr h1]
    exact Bool.and_false _
  | shr n =>
    show (decide _ && ([z].any fun w => w == ("share" : Str))) = false
    rw [List.any_cons, List.any_nil, beq_eq_false_iff_ne.mpr h2]
    exact Bool.and_false _
theorem scBs : FnScope ["size", "whole", "high"] ["size", "whole"] (defScope (top 116)) := ⟨rfl, rfl, rfl, by decide +kernel, rfl, by decide +kernel, by decide +kernel⟩
theorem ok_bs {f f1 f2 f3 f4 : Addr} {fd d1 d2 d3 d4 : FuncData} (F : FnP K "bounds_of" (top 116) f fd) (d_is_marked : D3 P w K mg base "is_marked" "value" "word" "many" 2 (spMark K) f1 d1) (d_length_in : D2 P w K mg base "length_in" "value" "whole" 3 (spLi K) f2 d2) (d_bound_of : D2 P w K mg base "bound_of" "value" "whole" 4 (spBo K) f3 d3) (d_Bounds : DM P w K mg base "Bounds" ["self", "low", "high", "cap"] 1 (spBI K CB) CB f4 d4) :
    FnOk P w K mg base CX0 5 f fd ["size", "whole"] (spBs K CB) := by
  refine F.ok scBs (fun vs H Q E h => ?_) (fun cdv A outer s H vs Q E hr h => ?_)
  · obtain ⟨v, wv, sv, ow, rfl, _⟩ := h
    rfl
  · obtain ⟨v, wv, sv, ow, rfl, hv, ok, hw, bo, k⟩ := h
    refine ⟨_, PSs.nox (pss_cons (ps_if (pt_val (pe_call d_is_marked.G (hr.mono (by decide)) (by rfl) d_is_marked.g d_is_marked.kp d_is_marked.b .nil pass0 (pa_cons (pv 0) (pa_cons pe_str (pa_cons pe_int pa_nil)))))
    (pss_one (ps_ret (pe_make d_Bounds.M d_Bounds.G (hr.mono (by decide)) (by rfl) d_Bounds.gC d_Bounds.b .nil pass0 (pa_cons (pe_call d_bound_of.G (hr.mono (by decide)) (by rfl) d_bound_of.g d_bound_of.kp d_bound_of.b .nil pass0 (pa_cons (pe_ix ix_tup (pv 0) pe_int (fun _ _ => rfl)) (pa_cons (pv 1) pa_nil))) (pa_cons (pe_call d_bound_of.G (hr.mono (by decide)) (by rfl) d_bound_of.g d_bound_of.kp d_bound_of.b .nil pass0 (pa_cons (pe_ix ix_tup (pv 0) pe_int (fun _ _ => rfl)) (pa_cons (pv 1) pa_nil))) (pa_cons pe_non pa_nil))))))
    pss_nil)
  (pss_cons (ps_if (pt_val (pe_call d_is_marked.G (hr.mono (by decide)) (by rfl) d_is_marked.g d_is_marked.kp d_is_marked.b .nil pass0 (pa_cons (pv 0) (pa_cons pe_str (pa_cons pe_int pa_nil)))))
    (pss_one (ps_ret (pe_make d_Bounds.M d_Bounds.G (hr.mono (by decide)) (by rfl) d_Bounds.gC d_Bounds.b .nil pass0 (pa_cons (pe_tup (pa_cons pe_str (pa_cons pe_non pa_nil))) (pa_cons (pe_tup (pa_cons pe_str (pa_cons pe_non pa_nil))) (pa_cons (pe_call d_length_in.G (hr.mono (by decide)) (by rfl) d_length_in.g d_length_in.kp d_length_in.b .nil pass0 (pa_cons (pe_ix ix_tup (pv 0) pe_int (fun _ _ => rfl)) (pa_cons (pv 1) pa_nil))) pa_nil))))))
    pss_nil)
  (pss_cons (ps_set (i := 2) scBs.nd rfl (Or.inl rfl) (pe_call d_bound_of.G (hr.mono (by decide)) (by rfl) d_bound_of.g d_bound_of.kp d_bound_of.b .nil pass0 (pa_cons (pv 0) (pa_cons (pv 1) pa_nil))))
  (pss_one (ps_ret (pe_make d_Bounds.M d_Bounds.G (hr.mono (by decide)) (by rfl) d_Bounds.gC d_Bounds.b .nil pass0 (pa_cons (pe_ifExp (pt_cmpR op_eq (pe_ix ix_tup (pv 2) pe_int (fun _ _ => rfl)) pe_str (nomark _)) (pe_tup (pa_cons pe_str (pa_cons pe_non pa_nil))) (pv 2)) (pa_cons (pv 2) (pa_cons pe_non pa_nil))))))))), ?_⟩
    cases sv with
    | bt l h =>
      obtain ⟨o1, o2, o3⟩ := ok
      refine ⟨_, rfl, v, _, "between", 3, rfl, hv, by decide, fun H1 s1 => ⟨_, rfl, ite2 (fun _ => ?_) (fun c => absurd (show isMark (.tuple [.str "between", l.d, h.d]) "between" 3 = true by show (decide ((3 : Int) = 3) && isWord (.str "between") ["between"]) = true; decide +kernel) c)⟩⟩
      cases hv with
      | @tup q xs _ ht hx =>
        cases hx with
        | cons h1 hx =>
          cases hx with
          | @cons u1 _ _ _ h2 hx =>
            cases hx with
            | @cons u2 _ _ _ h3 hx =>
              cases hx
              refine ⟨_, rfl, q, _, _, u1, rfl, rfl, Same.seqT s1 ht, atI_nat (j := 1) rfl, _, rfl, u1, wv, l, ow, rfl, dpS s1 h2, o1, dpS s1 hw, bo, fun H2 t2 x2 s2 ht2 hx2 => ?_⟩
              have s12 := s1.trans s2
              refine ⟨_, rfl, q, _, _, u2, rfl, rfl, Same.seqT s12 ht, atI_nat (j := 2) rfl, _, rfl, u2, wv, h, ow, rfl, dpS s12 h3, o3, dpS s12 hw, bo, fun H3 t3 x3 s3 ht3 hx3 => ?_⟩
              have s13 := s12.trans s3
              refine fun x dx nx nd ne => ?_
              have sm := made_same (C := CB) nx nd
              exact ⟨x, dx, t2, t3, .non, l.bd ow, h.bd ow, none, x2, x3, rfl, upd_same, Same.seqT (s3.trans sm) ht2, dpS (s3.trans sm) hx2, Same.seqT sm ht3, dpS sm hx3, .non, fun H' kp hb => ⟨rfl, k H' x (kp.same (none_of s13 nx) (s13.trans sm)) hb⟩⟩
    | up p =>
      obtain ⟨o1, o2⟩ := ok
      refine ⟨_, rfl, v, _, "between", 3, rfl, hv, by decide, fun H1 s1 => ⟨_, rfl, ite2 (fun c => absurd (show isMark (.tuple [.str "upto", p.d]) "between" 3 = true from c) (by show ¬ (decide ((2 : Int) = 3) && isWord (.str "upto") ["between"]) = true; decide +kernel)) (fun _ => ?_)⟩⟩
      refine ⟨_, rfl, v, _, "upto", 2, rfl, dpS s1 hv, by decide, fun H2 s2 => ⟨_, rfl, ite2 (fun _ => ?_) (fun c => absurd (show isMark (.tuple [.str "upto", p.d]) "upto" 2 = true by show (decide ((2 : Int) = 2) && isWord (.str "upto") ["upto"]) = true; decide +kernel) c)⟩⟩
      have s12 := s1.trans s2
      cases hv with
      | @tup q xs _ ht hx =>
        cases hx with
        | cons h1 hx =>
          cases hx with
          | @cons u1 _ _ _ h2 hx =>
            cases hx
            refine ⟨(by show 2 ≤ sizeLine; decide), fun t1 n1 => ⟨(by show 2 ≤ sizeLine; decide), fun t2 n2 => ?_⟩⟩
            have z1 := same_upd (o := .tup [.str "auto", .non]) n1
            have z2 := same_upd (o := .tup [.str "most", .non]) n2
            have s14 := (s12.trans z1).trans z2
            refine ⟨_, rfl, q, _, _, u1, rfl, rfl, Same.seqT s14 ht, atI_nat (j := 1) rfl, _, rfl, u1, wv, p, ow, rfl, dpS s14 h2, o2, o1, dpS s14 hw, bo, fun H5 u5 s5 hu5 => ?_⟩
            have s15 := s14.trans s5
            refine fun x dx nx nd ne => ?_
            have sm := made_same (C := CB) nx nd
            exact ⟨x, dx, t1, t2, u5, ("auto", none), ("most", none), (p.bd ow).2, .non, .non, rfl, upd_same, Same.seqT ((z2.trans s5).trans sm) (SqT.of upd_same), .non, Same.seqT (s5.trans sm) (SqT.of upd_same), .non, dpS sm hu5, fun H' kp hb => ⟨rfl, k H' x (kp.same (none_of s15 nx) (s15.trans sm)) hb⟩⟩
    | pl p =>
      refine ⟨_, rfl, v, _, "between", 3, rfl, hv, by decide, fun H1 s1 => ⟨_, rfl, ite2 (fun c => absurd (show isMark p.d "between" 3 = true from c) (by rw [Pv.mark (by decide) (by decide)]; decide)) (fun _ => ?_)⟩⟩
      refine ⟨_, rfl, v, _, "upto", 2, rfl, dpS s1 hv, by decide, fun H2 s2 => ⟨_, rfl, ite2 (fun c => absurd (show isMark p.d "upto" 2 = true from c) (by rw [Pv.mark (by decide) (by decide)]; decide)) (fun _ => ?_)⟩⟩
      have s12 := s1.trans s2
      refine ⟨_, rfl, _, rfl, v, wv, p, ow, rfl, dpS s12 hv, ok, dpS s12 hw, bo, fun H3 t u s3 ht hu => ?_⟩
      have s13 := s12.trans s3
      have hu : Dp K H3 u (oq (p.bd ow).2) := hu
      have e0 : Sv.bd ow (.pl p) = mkBd (if (p.bd ow).1 = "share" then ("auto", none) else p.bd ow) (p.bd ow) none := rfl
      rw [e0] at k
      generalize p.bd ow = b at ht hu k
      obtain ⟨b1, b2⟩ := b
      refine ⟨_, rfl, t, _, _, _, rfl, rfl, ht, atI_nat (j := 0) rfl, rfl, _, rfl, ite2 (fun c => ?_) (fun c => ?_)⟩
      · have c : V.str b1 = V.str "share" := of_decide_eq_true c
        injection c with c
        subst c
        refine ⟨(by show 2 ≤ sizeLine; decide), fun t1 n1 => ⟨_, rfl, fun x dx nx nd ne => ?_⟩⟩
        have z1 := same_upd (o := .tup [.str "auto", .non]) n1
        have sm := made_same (C := CB) nx nd
        have s14 := s13.trans z1
        exact ⟨x, dx, t1, t, .non, ("auto", none), ("share", b2), none, .non, u, rfl, upd_same, Same.seqT sm (SqT.of upd_same), .non, Same.seqT (z1.trans sm) ht, dpS (z1.trans sm) hu, .non, fun H' kp hb => ⟨rfl, k H' x (kp.same (none_of s14 nx) (s14.trans sm)) (by rw [if_pos rfl]; exact hb)⟩⟩
      · have c : b1 ≠ "share" := fun e => c (decide_eq_true (by rw [e]))
        refine ⟨_, rfl, _, rfl, fun x dx nx nd ne => ?_⟩
        have sm := made_same (C := CB) nx nd
        exact ⟨x, dx, t, t, .non, (b1, b2), (b1, b2), none, u, u, rfl, upd_same, Same.seqT sm ht, dpS sm hu, Same.seqT sm ht, dpS sm hu, .non, fun H' kp hb => ⟨rfl, k H' x (kp.same (none_of s13 nx) (s13.trans sm)) (by rw [if_neg c]; exact hb)⟩⟩
/-- numbers stay where a list is written -/
theorem seqT_l {K : PySem.W.Frag} {D : Addr} {ws : List V} {H H' : Hp} {p : Addr} {xs : List V} (s : Keep D H H') (hD : H D = some (.lst ws)) (h : SqT K H p xs) : SqT K H' p xs := by
  rcases h with (h | ⟨o, h⟩) | h
  · exact .inl (.inl (s _ _ (fun e => by rw [e, hD] at h; cases h) h))
  · exact .inl (.inr ⟨o, s _ _ (fun e => by rw [e, hD] at h; cases h) h⟩)
  · exact .inr h
theorem U.l {K : PySem.W.Frag} {D : Addr} {ws : List V} {H H' : Hp} {v : V} {n : Int} (s : Keep D H H') (hD : H D = some (.lst ws)) (h : U K H v n) : U K H' v n := by
  have h : Dp K H v (dat (mkRat n 1728)) := h
  show Dp K H' v (dat (mkRat n 1728))
  unfold K1.dat at h ⊢
  by_cases e : (mkRat n 1728).den = 1
  · rw [if_pos e] at h ⊢
    cases h
    exact .int _
  · rw [if_neg e] at h ⊢
    cases h with
    | tup ht hx =>
      cases hx with
      | cons h1 h2 =>
        cases h1
        cases h2 with
        | cons h3 h4 =>
          cases h3
          cases h4
          exact .tup (seqT_l s hD ht) (.cons (.int _) (.cons (.int _) .nil))
theorem oq_l {K : PySem.W.Frag} {D : Addr} {ws : List V} {H H' : Hp} {v : V} {o : Option Int} (s : Keep D H H') (hD : H D = some (.lst ws)) (h : Dp K H v (oq o)) : Dp K H' v (oq o) := by
  cases o with
  | none =>
    cases h
    exact .non
  | some n => exact U.l s hD h
theorem BdAt.l {K : PySem.W.Frag} {C D : Addr} {ws : List V} {H H' : Hp} {a : Addr} {b : Bd} (h : BdAt K C H a b) (s : Keep D H H') (hD : H D = some (.lst ws)) : BdAt K C H' a b := by
  obtain ⟨dx, vs, h1, h2⟩ := h
  refine ⟨dx, vs, s _ _ (fun e => by rw [e, hD] at h1; cases h1) h1, ?_⟩
  have h2 : DpAll K H vs [.str b.lw, oq b.lo, .str b.hw, oq b.hi, oq b.sh, oq b.cap] := h2
  show DpAll K H' vs [.str b.lw, oq b.lo, .str b.hw, oq b.hi, oq b.sh, oq b.cap]
  cases h2 with
  | cons g1 h2 =>
    cases h2 with
    | cons g2 h2 =>
      cases h2 with
      | cons g3 h2 =>
        cases h2 with
        | cons g4 h2 =>
          cases h2 with
          | cons g5 h2 =>
            cases h2 with
            | cons g6 h2 =>
              cases h2
              cases g1
              cases g3
              exact .cons (.str _) (.cons (oq_l s hD g2) (.cons (.str _) (.cons (oq_l s hD g4) (.cons (oq_l s hD g5) (.cons (oq_l s hD g6) .nil)))))
/-- bounds in a list -/
def BdsAt (K : PySem.W.Frag) (CB : Addr) (H : Hp) (us : List V) (bs : List Bd) : Prop := us.length = bs.length ∧ ∀ (i : Nat) (u : V) (b : Bd), us[i]? = some u → bs[i]? = some b → ∃ a, u = V.ref a ∧ BdAt K CB H a b
theorem BdsAt.same {H H' : Hp} {us : List V} {bs : List Bd} (h : BdsAt K CB H us bs) (s : Same H H') : BdsAt K CB H' us bs := ⟨h.1, fun i u b e1 e2 => by
  obtain ⟨a, ea, hb⟩ := h.2 i u b e1 e2
  exact ⟨a, ea, hb.same s⟩⟩
def spAb (K : PySem.W.Frag) (CB : Addr) : Sp := fun vs H Q _ => ∃ (p : Addr) (wv : V) (xs : List V) (ss : List Sv) (ow : Option Int), vs = [.ref p, wv] ∧ SqT K H p xs ∧ DpAll K H xs (ss.map Sv.d) ∧ ss.length ≤ 60 ∧ (∀ sv ∈ ss, OkSv ow sv) ∧ Dp K H wv (oq ow) ∧ Bo ow ∧ ∀ H' q us, Same H H' → H' q = some (.lst us) → BdsAt K CB H' us (ss.map (Sv.bd ow)) → Q (.ref q) H'
theorem scAb : FnScope ["sizes", "whole", "size"] ["sizes", "whole"] (defScope (top 117)) := ⟨rfl, rfl, rfl, by decide +kernel, rfl, by decide +kernel, by decide +kernel⟩
theorem ok_ab {f f1 : Addr} {fd d1 : FuncData} (F : FnP K "all_bounds" (top 117) f fd) (d_bounds_of : D2 P w K mg base "bounds_of" "size" "whole" 5 (spBs K CB) f1 d1) : FnOk P w K mg base CX0 6 f fd ["sizes", "whole"] (spAb K CB) := by
  refine F.ok scAb (fun vs H Q E h => ?_) (fun cdv A outer s H vs Q E hr h => ?_)
  · obtain ⟨p, wv, xs, ss, ow, rfl, _⟩ := h
    rfl
  · obtain ⟨p, wv, xs, ss, ow, rfl, ht, hx, l60, ok, hw, bo, k⟩ := h
    refine ⟨_, PSs.nox (pss_one (ps_ret (pe_lc (own := [("size", 2)]) (g := gName 2) (tt := tYes) rfl scAb.nd (pi_tup (pv 0)) (blkOk_by (own := [("size", 2)]) (N := ["sizes", "whole", "size"]) (sc := defScope (top 117)) (by decide +kernel)) (fun _ _ _ _ _ => (pg_name (i := 2) scAb.nd rfl (Or.inl rfl))) (fun _ _ _ _ _ => pts_nil) (fun _ _ _ _ _ => (pe_call d_bounds_of.G (hr.mono (by decide)) (by rfl) d_bounds_of.g d_bounds_of.kp d_bounds_of.b .nil pass0 (pa_cons (pv 2) (pa_cons (pv 1) pa_nil))))))), ?_⟩
    have hl : xs.length = ss.length := by rw [dpLen hx, List.length_map]
    refine ⟨_, rfl, p, rfl, ⟨xs, ht⟩, fun D nD => ?_⟩
    refine lc_tup (K := K) (a := p) (xs := xs) (fun i H' => Same H H' ∧ ∃ us, H' D = some (.lst us) ∧ BdsAt K CB H' us ((ss.take i).map (Sv.bd ow))) ⟨same_upd nD, [], upd_same, rfl, fun i u b e => nomatch e⟩ (fun i H' _ h => Same.seqT h.1 ht) ?_ ?_
    · rintro i x H2 hi ⟨s2, us, hD, hb⟩
      have hi' := (List.getElem?_eq_some_iff.mp hi).1
      have he : ss[i]? = some (ss[i]'(by omega)) := List.getElem?_eq_getElem _
      have hm : ss[i]'(by omega) ∈ ss := List.getElem_mem _
      generalize ss[i]'(by omega) = sv at he hm
      obtain ⟨u, eu, hu⟩ := dpAt i hx (d := sv.d) (by rw [List.getElem?_map, he]; rfl)
      rw [hi] at eu
      cases eu
      have lus : us.length = i := by rw [hb.1, List.length_map, List.length_take]; omega
      refine ⟨rfl, iteT (B := Same H H2 ∧ ∃ us, H2 D = some (.lst us) ∧ BdsAt K CB H2 us ((ss.take (i + 1)).map (Sv.bd ow))) ?_⟩
      refine ⟨_, rfl, _, rfl, x, wv, sv, ow, rfl, dpS s2 hu, ok sv hm, dpS s2 hw, bo, fun H3 a s3 ha => ⟨us, s3 _ _ hD, Nat.lt_of_le_of_lt (by omega : us.length ≤ 60) (by decide), same_upd' nD (s2.trans s3), us ++ [V.ref a], upd_same, ?_, fun j v b ej eb => ?_⟩⟩
      · rw [List.length_append, List.length_singleton, lus, List.length_map, List.length_take]
        omega
      · have hD3 := s3 _ _ hD
        have kD : Keep D H3 (upd H3 D (.lst (us ++ [V.ref a]))) := (Keep.of (Same.refl _)).upd
        have e1 : (ss.take (i + 1)).map (Sv.bd ow) = (ss.take i).map (Sv.bd ow) ++ [sv.bd ow] := by
          rw [List.take_succ, he, List.map_append]
          rfl
        rw [e1] at eb
        have lb : ((ss.take i).map (Sv.bd ow)).length = i := by rw [List.length_map, List.length_take]; omega
        by_cases hj : j < i
        · rw [List.getElem?_append_left (by omega)] at ej
          rw [List.getElem?_append_left (by omega)] at eb
          obtain ⟨a', ea, hb'⟩ := hb.2 j v b ej eb
          exact ⟨a', ea, (hb'.same s3).l kD hD3⟩
        · rw [List.getElem?_append_right (by omega)] at ej
          rw [List.getElem?_append_right (by omega)] at eb
          have hj2 : j - us.length = 0 := by
            have := (List.getElem?_eq_some_iff.mp ej).1
            rw [List.length_singleton] at this
            omega
          rw [hj2] at ej
          rw [show j - ((ss.take i).map (Sv.bd ow)).length = 0 by omega] at eb
          cases ej
          cases eb
          exact ⟨a, rfl, ha.l kD hD3⟩
    · rintro H2 ⟨s2, us, hD, hb⟩
      rw [hl, List.take_length] at hb
      exact k H2 D us s2 hD hb
end
end K5

set_option Elab.async false
set_option linter.all false
set_option maxRecDepth 100000
set_option maxHeartbeats 4000000
namespace K5
open PySem PySem.Spec PyProof.Rows L2
open K1 (FnP top Nm Sz wm dat)
/-! ### what an item, what lanes tell -/
theorem look_zip {y : Str} {v : V} : ∀ (ks : List Str) (xs : List V) (i : Nat), ks.Nodup → ks[i]? = some y → xs[i]? = some v → (ks.zip xs).lookup y = some v
  | [], _, _, _, h, _ => nomatch h
  | _ :: _, [], _, _, _, h => nomatch h
  | k :: ks, x :: xs, 0, _, h1, h2 => by
    cases h1
    cases h2
    rw [List.zip_cons_cons, List.lookup_cons, beq_self_eq_true]
  | k :: ks, x :: xs, i + 1, hn, h1, h2 => by
    obtain ⟨n1, n2⟩ := List.nodup_cons.mp hn
    have hk : y ≠ k := fun e => n1 (e ▸ List.mem_of_getElem? h1)
    rw [List.zip_cons_cons, List.lookup_cons, beq_eq_false_iff_ne.mpr hk]
    exact look_zip ks xs i n2 h1 h2
theorem inames_nodup : inames.Nodup := by decide
theorem bnames_nodup : bnames.Nodup := by decide
def axS (col : Bool) : Str := if col then "column" else "row"
def Im.sz (i : Im) (col : Bool) : Option Int := if col then i.w else i.h
def Im.ls (i : Im) (col : Bool) : Option Int := if col then i.lw else i.lh
def Im.gr (i : Im) (col : Bool) : Option Int := if col then i.gw else i.gh
def Im.st (i : Im) (col : Bool) : Int := if col then i.d else i.a
def Im.en (i : Im) (col : Bool) : Int := if col then i.b else i.c
theorem OkIm.sz' {i : Im} (h : OkIm i) (col : Bool) : Bo (i.sz col) := by cases col; exact h.h; exact h.w
theorem OkIm.ls' {i : Im} (h : OkIm i) (col : Bool) : Bo (i.ls col) := by cases col; exact h.lh; exact h.lw
theorem OkIm.gr' {i : Im} (h : OkIm i) (col : Bool) : Bo (i.gr col) := by cases col; exact h.gh; exact h.gw
theorem OkIm.st' {i : Im} (h : OkIm i) (col : Bool) : Bm (i.st col) := by cases col; exact h.a; exact h.d
theorem OkIm.en' {i : Im} (h : OkIm i) (col : Bool) : Bm (i.en col) := by cases col; exact h.c; exact h.b
section
variable {P : Program} {w : World} {K : PySem.W.Frag} {mg : Str → Option Value} {base : Heap} {CW CB CI CP fI : Addr}
def ItAt (K : PySem.W.Frag) (CI : Addr) (H : Hp) (a c : Addr) (i : Im) : Prop := ∃ dx xs, H a = some (.ins CI dx (inames.zip (.ref c :: xs))) ∧ DpAll K H xs i.ds
theorem ItAt.same {H H' : Hp} {a c : Addr} {i : Im} (h : ItAt K CI H a c i) (s : Same H H') : ItAt K CI H' a c i := by
  obtain ⟨dx, xs, h1, h2⟩ := h
  exact ⟨dx, xs, s _ _ h1, dpSA s h2⟩
theorem itF {H : Hp} {a c : Addr} {i : Im} (h : ItAt K CI H a c i) (j : Nat) {d : PyData} {y : Str} (hy : inames[j + 1]? = some y) (hd : i.ds[j]? = some d) : ∃ dx fs v, H a = some (.ins CI dx fs) ∧ fs.lookup y = some v ∧ Dp K H v d := by
  obtain ⟨dx, xs, h1, h2⟩ := h
  obtain ⟨v, ev, hv⟩ := dpAt j h2 hd
  exact ⟨dx, _, v, h1, look_zip inames (.ref c :: xs) (j + 1) inames_nodup hy ev, hv⟩
theorem itC {H : Hp} {a c : Addr} {i : Im} (h : ItAt K CI H a c i) : ∃ (dx : Addr) (fs : List (Str × V)), H a = some (.ins CI dx fs) ∧ fs.lookup ("content" : Str) = some (V.ref c) := by
  obtain ⟨dx, xs, h1, h2⟩ := h
  exact ⟨dx, _, h1, rfl⟩
theorem bdF {H : Hp} {a : Addr} {b : Bd} (h : BdAt K CB H a b) (j : Nat) {d : PyData} {y : Str} (hy : bnames[j]? = some y) (hd : b.ds[j]? = some d) : ∃ dx fs v, H a = some (.ins CB dx fs) ∧ fs.lookup y = some v ∧ Dp K H v d := by
  obtain ⟨dx, xs, h1, h2⟩ := h
  obtain ⟨v, ev, hv⟩ := dpAt j h2 hd
  exact ⟨dx, _, v, h1, look_zip bnames xs j bnames_nodup hy ev, hv⟩
def spIx (K : PySem.W.Frag) (CI : Addr) (f : Im → Bool → Option Int) : Sp := fun vs H Q _ => ∃ (a c : Addr) (i : Im) (col : Bool), vs = [.ref a, .str (axS col)] ∧ ItAt K CI H a c i ∧ ∀ H' u, Same H H' → Dp K H' u (oq (f i col)) → Q u H'
theorem scSi : FnScope ["item", "axis"] ["item", "axis"] (defScope (top 122)) := ⟨rfl, rfl, rfl, by decide +kernel, rfl, by decide +kernel, by decide +kernel⟩
theorem ok_si {f : Addr} {fd : FuncData} (F : FnP K "size_in" (top 122) f fd) (N : Nm mg) (T : TI K mg "Item" CI fI inames) : FnOk P w K mg base CX0 1 f fd ["item", "axis"] (spIx K CI Im.sz) := by
  refine F.ok scSi (fun vs H Q E h => ?_) (fun cdv A outer s H vs Q E hr h => ?_)
  · obtain ⟨a, c, i, col, rfl, _⟩ := h
    rfl
  · obtain ⟨a, c, i, col, rfl, hi, k⟩ := h
    refine ⟨_, PSs.nox (pss_one (ps_ret (pe_ifExp (pt_cmpR op_eq (pv 1) pe_str (nomark _)) (pe_fld (pv 0) rfl) (pe_fld (pv 0) rfl)))), ?_⟩
    cases col with
    | true =>
      obtain ⟨dx, fs, v, h1, lk, hv⟩ := itF hi 4 (y := "width") rfl (d := oq i.w) rfl
      exact ⟨_, rfl, rfl, true, rfl, iteT ⟨_, rfl, a, CI, dx, _, v, rfl, h1, T.cl, T.na "width" (by decide), lk, k H v (Same.refl H) hv⟩⟩
    | false =>
      obtain ⟨dx, fs, v, h1, lk, hv⟩ := itF hi 5 (y := "height") rfl (d := oq i.h) rfl
      exact ⟨_, rfl, rfl, false, rfl, iteF ⟨_, rfl, a, CI, dx, _, v, rfl, h1, T.cl, T.na "height" (by decide), lk, k H v (Same.refl H) hv⟩⟩
theorem scLs : FnScope ["item", "axis"] ["item", "axis"] (defScope (top 123)) := ⟨rfl, rfl, rfl, by decide +kernel, rfl, by decide +kernel, by decide +kernel⟩
theorem ok_ls {f : Addr} {fd : FuncData} (F : FnP K "least_in" (top 123) f fd) (N : Nm mg) (T : TI K mg "Item" CI fI inames) : FnOk P w K mg base CX0 1 f fd ["item", "axis"] (spIx K CI Im.ls) := by
  refine F.ok scLs (fun vs H Q E h => ?_) (fun cdv A outer s H vs Q E hr h => ?_)
  · obtain ⟨a, c, i, col, rfl, _⟩ := h
    rfl
  · obtain ⟨a, c, i, col, rfl, hi, k⟩ := h
    refine ⟨_, PSs.nox (pss_one (ps_ret (pe_ifExp (pt_cmpR op_eq (pv 1) pe_str (nomark _)) (pe_fld (pv 0) rfl) (pe_fld (pv 0) rfl)))), ?_⟩
    cases col with
    | true =>
      obtain ⟨dx, fs, v, h1, lk, hv⟩ := itF hi 6 (y := "least_width") rfl (d := oq i.lw) rfl
      exact ⟨_, rfl, rfl, true, rfl, iteT ⟨_, rfl, a, CI, dx, _, v, rfl, h1, T.cl, T.na "least_width" (by decide), lk, k H v (Same.refl H) hv⟩⟩
    | false =>
      obtain ⟨dx, fs, v, h1, lk, hv⟩ := itF hi 8 (y := "least_height") rfl (d := oq i.lh) rfl
      exact ⟨_, rfl, rfl, false, rfl, iteF ⟨_, rfl, a, CI, dx, _, v, rfl, h1, T.cl, T.na "least_height" (by decide), lk, k H v (Same.refl H) hv⟩⟩
theorem scGi : FnScope ["item", "axis"] ["item", "axis"] (defScope (top 124)) := ⟨rfl, rfl, rfl, by decide +kernel, rfl, by decide +kernel, by decide +kernel⟩
theorem ok_gi {f : Addr} {fd : FuncData} (F : FnP K "greatest_in" (top 124) f fd) (N : Nm mg) (T : TI K mg "Item" CI fI inames) : FnOk P w K mg base CX0 1 f fd ["item", "axis"] (spIx K CI Im.gr) := by
  refine F.ok scGi (fun vs H Q E h => ?_) (fun cdv A outer s H vs Q E hr h => ?_)
  · obtain ⟨a, c, i, col, rfl, _⟩ := h
    rfl
  · obtain ⟨a, c, i, col, rfl, hi, k⟩ := h
    refine ⟨_, PSs.nox (pss_one (ps_ret (pe_ifExp (pt_cmpR op_eq (pv 1) pe_str (nomark _)) (pe_fld (pv 0) rfl) (pe_fld (pv 0) rfl)))), ?_⟩
    cases col with
    | true =>
      obtain ⟨dx, fs, v, h1, lk, hv⟩ := itF hi 7 (y := "greatest_width") rfl (d := oq i.gw) rfl
      exact ⟨_, rfl, rfl, true, rfl, iteT ⟨_, rfl, a, CI, dx, _, v, rfl, h1, T.cl, T.na "greatest_width" (by decide), lk, k H v (Same.refl H) hv⟩⟩
    | false =>
      obtain ⟨dx, fs, v, h1, lk, hv⟩ := itF hi 9 (y := "greatest_height") rfl (d := oq i.gh) rfl
      exact ⟨_, rfl, rfl, false, rfl, iteF ⟨_, rfl, a, CI, dx, _, v, rfl, h1, T.cl, T.na "greatest_height" (by decide), lk, k H v (Same.refl H) hv⟩⟩
def spMi (K : PySem.W.Frag) (CI : Addr) : Sp := fun vs H Q _ => ∃ (a c : Addr) (i : Im) (col : Bool), vs = [.ref a, .str (axS col)] ∧ ItAt K CI H a c i ∧ ∀ H' t u1 u2, Same H H' → SqT K H' t [u1, u2] → U K H' u1 (i.st col) → U K H' u2 (i.en col) → Q (.ref t) H'
theorem scMi : FnScope ["item", "axis", "above", "right", "below", "left"] ["item", "axis"] (defScope (top 125)) := ⟨rfl, rfl, rfl, by decide +kernel, rfl, by decide +kernel, by decide +kernel⟩
theorem ok_mi {f : Addr} {fd : FuncData} (F : FnP K "margins_in" (top 125) f fd) (N : Nm mg) (T : TI K mg "Item" CI fI inames) : FnOk P w K mg base CX0 1 f fd ["item", "axis"] (spMi K CI) := by
  refine F.ok scMi (fun vs H Q E h => ?_) (fun cdv A outer s H vs Q E hr h => ?_)
  · obtain ⟨a, c, i, col, rfl, _⟩ := h
    rfl
  · obtain ⟨a, c, i, col, rfl, hi, k⟩ := h
    refine ⟨_, PSs.nox (pss_cons (ps_asg (pe_fld (pv 0) rfl) (pg_tup rfl (pgs_cons (pg_name (i := 2) scMi.nd rfl (Or.inl rfl)) (pgs_cons (pg_name (i := 3) scMi.nd rfl (Or.inl rfl)) (pgs_cons (pg_name (i := 4) scMi.nd rfl (Or.inl rfl)) (pgs_cons (pg_name (i := 5) scMi.nd rfl (Or.inl rfl)) pgs_nil))))))
  (pss_one (ps_ret (pe_ifExp (pt_cmpR op_eq (pv 1) pe_str (nomark _)) (pe_tup (pa_cons (pv 5) (pa_cons (pv 3) pa_nil))) (pe_tup (pa_cons (pv 2) (pa_cons (pv 4) pa_nil))))))), ?_⟩
    obtain ⟨dx, fs, v, h1, lk, hv⟩ := itF hi 3 (y := "margins") rfl (d := .tuple i.ms) rfl
    have hv : Dp K H v (.tuple [nq i.a, nq i.b, nq i.c, nq i.d]) := hv
    cases hv with
    | @tup p xs _ ht hx =>
      cases hx with
      | @cons v1 _ _ _ g1 hx =>
        cases hx with
        | @cons v2 _ _ _ g2 hx =>
          cases hx with
          | @cons v3 _ _ _ g3 hx =>
            cases hx with
            | @cons v4 _ _ _ g4 hx =>
              cases hx
              refine ⟨_, rfl, a, CI, dx, _, _, rfl, h1, T.cl, T.na "margins" (by decide), lk, p, _, rfl, ht, rfl, _, _, rfl, _, _, rfl, _, _, rfl, _, _, rfl, rfl, ?_⟩
              cases col with
              | true => exact ⟨_, rfl, rfl, true, rfl, iteT ⟨_, rfl, _, rfl, (by show 2 ≤ sizeLine; decide), fun t nt => k _ t v4 v2 (same_upd nt) (SqT.of upd_same) (dpS (same_upd nt) g4) (dpS (same_upd nt) g2)⟩⟩
              | false => exact ⟨_, rfl, rfl, false, rfl, iteF ⟨_, rfl, _, rfl, (by show 2 ≤ sizeLine; decide), fun t nt => k _ t v1 v3 (same_upd nt) (SqT.of upd_same) (dpS (same_upd nt) g1) (dpS (same_upd nt) g3)⟩⟩
def spMo (K : PySem.W.Frag) (CI : Addr) : Sp := fun vs H Q _ => ∃ (a c : Addr) (i : Im) (col : Bool), vs = [.ref a, .str (axS col)] ∧ ItAt K CI H a c i ∧ OkIm i ∧ ∀ H' u, Same H H' → U K H' u (i.st col + i.en col) → Q u H'
theorem scMo : FnScope ["item", "axis", "start", "end"] ["item", "axis"] (defScope (top 126)) := ⟨rfl, rfl, rfl, by decide +kernel, rfl, by decide +kernel, by decide +kernel⟩
theorem ok_mo {f f1 f2 : Addr} {fd d1 d2 : FuncData} (F : FnP K "margins_of" (top 126) f fd) (d_margins_in : D2 P w K mg base "margins_in" "item" "axis" 1 (spMi K CI) f1 d1) (d_plus : D2 P w K mg base "plus" "one" "other" 2 (spMM K (· + ·)) f2 d2) : FnOk P w K mg base CX0 3 f fd ["item", "axis"] (spMo K CI) := by
  refine F.ok scMo (fun vs H Q E h => ?_) (fun cdv A outer s H vs Q E hr h => ?_)
  · obtain ⟨a, c, i, col, rfl, _⟩ := h
    rfl
  · obtain ⟨a, c, i, col, rfl, hi, ok, k⟩ := h
    refine ⟨_, PSs.nox (pss_cons (ps_asg (pe_call d_margins_in.G (hr.mono (by decide)) (by rfl) d_margins_in.g d_margins_in.kp d_margins_in.b .nil pass0 (pa_cons (pv 0) (pa_cons (pv 1) pa_nil))) (pg_tup rfl (pgs_cons (pg_name (i := 2) scMo.nd rfl (Or.inl rfl)) (pgs_cons (pg_name (i := 3) scMo.nd rfl (Or.inl rfl)) pgs_nil))))
  (pss_one (ps_ret (pe_call d_plus.G (hr.mono (by decide)) (by rfl) d_plus.g d_plus.kp d_plus.b .nil pass0 (pa_cons (pv 2) (pa_cons (pv 3) pa_nil)))))), ?_⟩
    have b1 := ok.st' col
    have b2 := ok.en' col
    refine ⟨_, rfl, _, rfl, a, c, i, col, rfl, hi, fun H1 t u1 u2 s1 ht g1 g2 => ⟨t, _, rfl, ht, rfl, _, _, rfl, _, _, rfl, rfl, ?_⟩⟩
    exact ⟨_, rfl, _, rfl, u1, u2, _, _, rfl, g1, g2, by omega, by omega, fun H2 u s2 hu => k _ _ (s1.trans s2) hu⟩
/-- held -/
def heldI (i : Im) (col : Bool) (n : Int) : Int :=
  match i.ls col with
  | none => (match i.gr col with | none => n | some g => min n g)
  | some l => max (match i.gr col with | none => n | some g => min n g) l
abbrev B2 (n : Int) : Prop := 0 ≤ n ∧ n ≤ 1000000000000
theorem heldI_b {i : Im} (ok : OkIm i) (col : Bool) {n : Int} (h : B2 n) : B2 (heldI i col n) := by
  have h1 := ok.ls' col
  have h2 := ok.gr' col
  unfold heldI
  cases e1 : i.ls col with
  | none =>
    cases e2 : i.gr col with
    | none => exact h
    | some g =>
      obtain ⟨a, b⟩ := h2 g e2
      show B2 (min n g)
      omega
  | some l =>
    obtain ⟨c, d⟩ := h1 l e1
    cases e2 : i.gr col with
    | none =>
      show B2 (max n l)
      omega
    | some g =>
      obtain ⟨a, b⟩ := h2 g e2
      show B2 (max (min n g) l)
      omega
def spHe (K : PySem.W.Frag) (CI : Addr) : Sp := fun vs H Q _ => ∃ (a c : Addr) (i : Im) (col : Bool) (v : V) (n : Int), vs = [.ref a, .str (axS col), v] ∧ ItAt K CI H a c i ∧ OkIm i ∧ U K H v n ∧ B2 n ∧ ∀ H' u, Same H H' → U K H' u (heldI i col n) → Q u H'
theorem scHe : FnScope ["item", "axis", "size", "greatest", "least"] ["item", "axis", "size"] (defScope (top 127)) := ⟨rfl, rfl, rfl, by decide +kernel, rfl, by decide +kernel, by decide +kernel⟩
theorem ok_he {f f1 f2 f3 f4 : Addr} {fd d1 d2 d3 d4 : FuncData} (F : FnP K "held" (top 127) f fd) (d_greatest_in : D2 P w K mg base "greatest_in" "item" "axis" 1 (spIx K CI Im.gr) f1 d1) (d_least_in : D2 P w K mg base "least_in" "item" "axis" 1 (spIx K CI Im.ls) f2 d2) (d_lesser : D2 P w K mg base "lesser" "one" "other" 3 (spMM K min) f3 d3) (d_greater : D2 P w K mg base "greater" "one" "other" 3 (spMM K max) f4 d4) :
    FnOk P w K mg base CX0 4 f fd ["item", "axis", "size"] (spHe K CI) := by
  refine F.ok scHe (fun vs H Q E h => ?_) (fun cdv A outer s H vs Q E hr h => ?_)
  · obtain ⟨a, c, i, col, v, n, rfl, _⟩ := h
    rfl
  · obtain ⟨a, c, i, col, v, n, rfl, hi, ok, hv, hn, k⟩ := h
    refine ⟨_, PSs.nox (pss_cons (ps_set (i := 3) scHe.nd rfl (Or.inl rfl) (pe_call d_greatest_in.G (hr.mono (by decide)) (by rfl) d_greatest_in.g d_greatest_in.kp d_greatest_in.b .nil pass0 (pa_cons (pv 0) (pa_cons (pv 1) pa_nil))))
  (pss_cons (ps_set (i := 4) scHe.nd rfl (Or.inl rfl) (pe_call d_least_in.G (hr.mono (by decide)) (by rfl) d_least_in.g d_least_in.kp d_least_in.b .nil pass0 (pa_cons (pv 0) (pa_cons (pv 1) pa_nil))))
  (pss_cons (ps_if (pt_cmp (pc_notN (pv 3)))
    (pss_one (ps_set (i := 2) scHe.nd rfl (Or.inl rfl) (pe_call d_lesser.G (hr.mono (by decide)) (by rfl) d_lesser.g d_lesser.kp d_lesser.b .nil pass0 (pa_cons (pv 2) (pa_cons (pv 3) pa_nil)))))
    pss_nil)
  (pss_one (ps_ret (pe_ifExp (pt_cmp (pc_isN (pv 4))) (pv 2) (pe_call d_greater.G (hr.mono (by decide)) (by rfl) d_greater.g d_greater.kp d_greater.b .nil pass0 (pa_cons (pv 2) (pa_cons (pv 4) pa_nil))))))))), ?_⟩
    have o1 := ok.ls' col
    have o2 := ok.gr' col
    refine ⟨_, rfl, _, rfl, a, c, i, col, rfl, hi, fun H1 ug s1 hg => ?_⟩
    refine ⟨_, rfl, _, rfl, a, c, i, col, rfl, hi.same s1, fun H2 ul s2 hl => ?_⟩
    have s12 := s1.trans s2
    have fin : ∀ (σ : L2.St) (H3 : Hp) (m : Int) (u : V), σ[2]? = some (some u) → σ[4]? = some (some ul) → Same H2 H3 → U K H3 u m → B2 m → (∀ H' u, Same H3 H' → U K H' u (match i.ls col with | none => m | some l => max m l) → Q u H') →
        (if decide (ul = .non) = true then tVar 2 σ H3 Q else tCall (spMM K max) [] E0 (tCons (tVar 2) (tCons (tVar 4) tNil)) σ H3 Q) := fun σ H3 m u h2 h4 s3 hu bm q => by
      cases e : i.ls col with
      | none =>
        rw [e] at hl q
        cases hl
        exact iteT ⟨_, h2, q H3 u (Same.refl _) hu⟩
      | some l =>
        rw [e] at hl q
        obtain ⟨l0, l1⟩ := o1 l e
        rw [oq_non hl]
        exact iteF ⟨_, h2, _, h4, u, ul, m, l, rfl, hu, dpS s3 hl, by omega, by omega, fun H4 u4 s4 h4 => q H4 u4 s4 h4⟩
    cases eg : i.gr col with
    | none =>
      rw [eg] at hg
      cases hg
      refine ⟨_, rfl, false, rfl, iteF ?_⟩
      refine ⟨_, rfl, _, rfl, ?_⟩
      refine fin _ H2 n v rfl rfl (Same.refl _) (dpS s12 hv) hn fun H' u s hu => k H' u (s12.trans s) ?_
      unfold heldI
      rw [eg]
      exact hu
    | some g =>
      rw [eg] at hg
      obtain ⟨g0, g1⟩ := o2 g eg
      refine ⟨_, rfl, true, congrArg (fun b => V.bl (!b)) (oq_non hg), iteT ?_⟩
      refine ⟨_, rfl, _, rfl, v, ug, n, g, rfl, dpS s12 hv, dpS s2 hg, by omega, by omega, fun H3 u3 s3 h3 => ?_⟩
      refine ⟨_, rfl, _, rfl, ?_⟩
      refine fin _ H3 (min n g) u3 rfl rfl s3 h3 (by omega) fun H' u s hu => k H' u ((s12.trans s3).trans s) ?_
      unfold heldI
      rw [eg]
      exact hu
end
end K5

set_option Elab.async false
set_option linter.all false
set_option maxRecDepth 100000
set_option maxHeartbeats 4000000
namespace K5
open PySem PySem.Spec PyProof.Rows L2
open K1 (FnP top Nm Sz wm dat)
/-! ### what lanes leave to an item -/
theorem take_snocG {α : Type} {ds : List α} {i : Nat} {e : α} (h : ds[i]? = some e) (f : α → V) : (ds.take (i + 1)).map f = (ds.take i).map f ++ [f e] := by
  rw [List.take_succ, h, List.map_append]
  rfl
structure OkBd (b : Bd) : Prop where
  hi : Bo b.hi
  cap : Bo b.cap
  fx : b.hw = "fixed" → ∃ n, b.hi = some n
theorem pv_bo {ow : Option Int} {p : Pv} (h : OkPv ow p) : Bo (p.bd ow).2 ∧ ((p.bd ow).1 = "fixed" → ∃ n, (p.bd ow).2 = some n) := by
  cases p with
  | wd z =>
    refine ⟨fun n e => (nomatch e), fun e => ?_⟩
    have hz : z ∈ sizeWords := h
    have e : z = "fixed" := e
    subst e
    exact absurd hz (by decide)
  | num n => exact ⟨fun m e => by cases e; exact h, fun _ => ⟨n, rfl⟩⟩
  | part n =>
    cases ow with
    | none => exact ⟨fun m e => (nomatch e), fun e => absurd (show ("auto" : Str) = "fixed" from e) (by decide)⟩
    | some w =>
      obtain ⟨_, _, h3⟩ := h
      obtain ⟨r, er, r0, r1⟩ := h3 w rfl
      refine ⟨fun m e => ?_, fun _ => ⟨_, rfl⟩⟩
      have e : n * w / 1728 = m := Option.some.inj e
      rw [er, Int.mul_ediv_cancel_left r (by decide : (1728 : Int) ≠ 0)] at e
      omega
  | shr n => exact ⟨fun m e => by cases e; exact h, fun _ => ⟨n, rfl⟩⟩
theorem mkBd_ok {l h : Str × Option Int} {c : Option Int} (h1 : Bo h.2) (h2 : h.1 = "fixed" → ∃ n, h.2 = some n) (h3 : Bo c) : OkBd (mkBd l h c) := by
  unfold mkBd
  by_cases e : h.1 = "share"
  · rw [if_pos e]
    exact ⟨fun n z => (nomatch z), h3, fun z => absurd (show h.1 = "fixed" from z) (by rw [e]; decide)⟩
  · rw [if_neg e]
    exact ⟨h1, h3, h2⟩
theorem sv_ok {ow : Option Int} {sv : Sv} (h : OkSv ow sv) : OkBd (sv.bd ow) := by
  cases sv with
  | pl p => exact mkBd_ok (pv_bo h).1 (pv_bo h).2 (fun n z => nomatch z)
  | bt l hh => exact mkBd_ok (pv_bo h.2.2).1 (pv_bo h.2.2).2 (fun n z => nomatch z)
  | up p => exact mkBd_ok (fun n z => nomatch z) (fun z => absurd (show ("most" : Str) = "fixed" from z) (by decide)) (pv_bo h.1).1
def noAuto (b : Bd) : Bool := !decide (V.str b.lw = V.str "auto")
def noShare (b : Bd) : Bool := !decide (V.str b.hw = V.str "share")
def isFx (b : Bd) : Bool := decide (V.str b.hw = V.str "fixed")
def mayAsk (bs : List Bd) : Bool := !(bs.all noAuto) && (decide (bs.length = 1) || bs.all noShare)
/-- what a loop over bounds has put into the list at D -/
def PvD (D : Addr) (H0 : Hp) (bs : List Bd) (f : Bd → V) (i : Nat) (H : Hp) : Prop := Same H0 H ∧ H D = some (.lst ((bs.take i).map f))
theorem PvD.zero {D : Addr} {H0 : Hp} {bs : List Bd} {f : Bd → V} (n : H0 D = none) : PvD D H0 bs f 0 (upd H0 D (.lst [])) := ⟨same_upd n, upd_same⟩
theorem PvD.ln {D : Addr} {H0 H : Hp} {bs : List Bd} {f : Bd → V} {i : Nat} (_ : PvD D H0 bs f i H) (l : bs.length ≤ 60) : ((bs.take i).map f).length < sizeLine := by
  rw [List.length_map, List.length_take]
  exact Nat.lt_of_le_of_lt (by omega : _ ≤ 60) (by decide)
theorem PvD.next {D : Addr} {H0 H : Hp} {bs : List Bd} {f : Bd → V} {i : Nat} {b : Bd} {v : V} (h : PvD D H0 bs f i H) (n : H0 D = none) (e : bs[i]? = some b) (ev : v = f b) : PvD D H0 bs f (i + 1) (upd H D (.lst ((bs.take i).map f ++ [v]))) :=
  ⟨same_upd' n h.1, by rw [upd_same, take_snocG e, ev]⟩
section
variable {P : Program} {w : World} {K : PySem.W.Frag} {mg : Str → Option Value} {base : Heap} {CW CB CI CP fI : Addr}
def spOu (K : PySem.W.Frag) : Sp := fun vs H Q _ => ∃ (v v' : V) (n m : Int), vs = [v, v'] ∧ U K H v n ∧ U K H v' m ∧ B2 n ∧ -10000000000000 ≤ m ∧ m ≤ 10000000000000 ∧ ∀ H' u, Same H H' → U K H' u (max (n + m) 0) → Q u H'
theorem scOu : FnScope ["size", "margins"] ["size", "margins"] (defScope (top 128)) := ⟨rfl, rfl, rfl, by decide +kernel, rfl, by decide +kernel, by decide +kernel⟩
theorem ok_ou {f f1 f2 : Addr} {fd d1 d2 : FuncData} (F : FnP K "outer" (top 128) f fd) (d_plus : D2 P w K mg base "plus" "one" "other" 2 (spMM K (· + ·)) f1 d1) (d_greater : D2 P w K mg base "greater" "one" "other" 3 (spMM K max) f2 d2) : FnOk P w K mg base CX0 4 f fd ["size", "margins"] (spOu K) := by
  refine F.ok scOu (fun vs H Q E h => ?_) (fun cdv A outer s H vs Q E hr h => ?_)
  · obtain ⟨v, v', n, m, rfl, _⟩ := h
    rfl
  · obtain ⟨v, v', n, m, rfl, h1, h2, b1, b2, b3, k⟩ := h
    refine ⟨_, PSs.nox (pss_one (ps_ret (pe_call d_greater.G (hr.mono (by decide)) (by rfl) d_greater.g d_greater.kp d_greater.b .nil pass0 (pa_cons (pe_call d_plus.G (hr.mono (by decide)) (by rfl) d_plus.g d_plus.kp d_plus.b .nil pass0 (pa_cons (pv 0) (pa_cons (pv 1) pa_nil))) (pa_cons pe_int pa_nil))))), ?_⟩
    refine ⟨_, rfl, _, rfl, v, v', n, m, rfl, h1, h2, by omega, by omega, fun H1 u1 s1 e1 => ?_⟩
    exact ⟨u1, .int 0, n + m, 0, rfl, e1, U.int 0, by omega, by omega, fun H2 u2 s2 e2 => k H2 u2 (s1.trans s2) e2⟩
def spMa (K : PySem.W.Frag) (CB : Addr) : Sp := fun vs H Q _ => ∃ (p : Addr) (us : List V) (bs : List Bd), vs = [.ref p] ∧ SqL K H p us ∧ BdsAt K CB H us bs ∧ bs.length ≤ 60 ∧ ∀ H', Same H H' → Q (.bl (mayAsk bs)) H'
theorem scMa : FnScope ["bounds", "lane"] ["bounds"] (defScope (top 129)) := ⟨rfl, rfl, rfl, by decide +kernel, rfl, by decide +kernel, by decide +kernel⟩
theorem ok_ma {f : Addr} {fd : FuncData} (F : FnP K "may_ask" (top 129) f fd) (N : Nm mg) (hall : mg "all" = none) (T : TI K mg "Bounds" CB fI bnames) : FnOk P w K mg base CX0 1 f fd ["bounds"] (spMa K CB) := by
  refine F.ok scMa (fun vs H Q E h => ?_) (fun cdv A outer s H vs Q E hr h => ?_)
  · obtain ⟨p, us, bs, rfl, _⟩ := h
    rfl
  · obtain ⟨p, us, bs, rfl, hp, hb, l60, k⟩ := h
    refine ⟨_, PSs.nox (pss_cons (ps_if (pt_val (pe_callB (cr_all rfl) (by rfl) hall (by decide +kernel) (pa_cons (pe_lc (own := [("lane", 1)]) (g := gName 1) (tt := tYes) rfl scMa.nd (pi_list (pv 0)) (blkOk_by (own := [("lane", 1)]) (N := ["bounds", "lane"]) (sc := defScope (top 129)) (by decide +kernel)) (fun _ _ _ _ _ => (pg_name (i := 1) scMa.nd rfl (Or.inl rfl))) (fun _ _ _ _ _ => pts_nil) (fun _ _ _ _ _ => (pe_cmpR op_ne (show PE _ _ (tFld K (tVar 1) "low_word") from pe_fld (pv 1) rfl) pe_str (nomark _)))) pa_nil)))
    (pss_one (ps_ret pe_bl))
    pss_nil)
  (pss_one (ps_ret (pe_or (pe_cmpR op_eq (pe_callB call_len_seq (by rfl) N.len PySem.boot_len (pa_cons (pv 0) pa_nil)) pe_int (nomark _)) (pe_one (pe_callB (cr_all rfl) (by rfl) hall (by decide +kernel) (pa_cons (pe_lc (own := [("lane", 1)]) (g := gName 1) (tt := tYes) rfl scMa.nd (pi_list (pv 0)) (blkOk_by (own := [("lane", 1)]) (N := ["bounds", "lane"]) (sc := defScope (top 129)) (by decide +kernel)) (fun _ _ _ _ _ => (pg_name (i := 1) scMa.nd rfl (Or.inl rfl))) (fun _ _ _ _ _ => pts_nil) (fun _ _ _ _ _ => (pe_cmpR op_ne (show PE _ _ (tFld K (tVar 1) "high_word") from pe_fld (pv 1) rfl) pe_str (nomark _)))) pa_nil))))))), ?_⟩
    have hl := hb.1
    refine ⟨_, rfl, p, rfl, ⟨us, hp⟩, fun D nD => ?_⟩
    have get : ∀ {i : Nat} {x : V}, us[i]? = some x → ∃ b a, bs[i]? = some b ∧ x = V.ref a ∧ BdAt K CB H a b := fun {i x} hi => by
      have hi' := (List.getElem?_eq_some_iff.mp hi).1
      have he : bs[i]? = some (bs[i]'(by omega)) := List.getElem?_eq_getElem _
      obtain ⟨a, ea, hab⟩ := hb.2 i x _ hi he
      exact ⟨_, a, he, ea, hab⟩
    refine lc_list (K := K) (a := p) (xs := us) (PvD D H bs fun b => V.bl (noAuto b)) (PvD.zero nD) (fun i H' _ h => h.1.seq hp) ?_ ?_
    · rintro i x H2 hi pv
      obtain ⟨b, a, he, rfl, hab⟩ := get hi
      obtain ⟨dx, fs, v, h1, lk, hv⟩ := bdF (hab.same pv.1) 0 (y := "low_word") rfl (d := .str b.lw) rfl
      cases hv
      refine ⟨rfl, iteT (B := PvD D H bs (fun b => V.bl (noAuto b)) (i + 1) H2) ?_⟩
      exact ⟨_, rfl, a, CB, dx, _, _, rfl, h1, T.cl, T.na "low_word" (by decide), lk, rfl, _, pv.2, pv.ln l60, pv.next nD he rfl⟩
    · rintro H2 pv
      have hD := pv.2
      rw [hl, List.take_length] at hD
      refine ⟨D, bs.map noAuto, rfl, SqL.of (by rw [List.map_map]; exact hD), _, rfl, ite2 (fun c => ?_) (fun c => ?_)⟩
      · have c : (bs.map noAuto).all id = true := c
        refine bq (A := True) ?_ (k H2 pv.1)
        rw [List.all_map] at c
        show (!(bs.all noAuto) && _) = false
        rw [show bs.all noAuto = true from c]
        rfl
      · have c : (bs.map noAuto).all id = false := Bool.eq_false_iff.mpr c
        rw [List.all_map] at c
        have c : bs.all noAuto = false := c
        have em : mayAsk bs = (decide (bs.length = 1) || bs.all noShare) := by
          unfold mayAsk
          rw [c]
          rfl
        rw [em] at k
        have hp2 := pv.1.seq hp
        refine ⟨_, rfl, p, us, rfl, .inl hp2, rfl, _, rfl, ite2 (fun c1 => ?_) (fun c1 => ?_)⟩
        · have c1 : V.int (us.length : Nat) = V.int 1 := of_decide_eq_true c1
          injection c1 with c1
          refine bq (A := True) ?_ (k H2 pv.1)
          rw [decide_eq_true (show bs.length = 1 by omega), Bool.true_or]
        · have c1 : ¬ bs.length = 1 := fun e => c1 (decide_eq_true (by rw [hl, e] <;> rfl))
          rw [decide_eq_false c1, Bool.false_or] at k
          refine ⟨_, rfl, p, rfl, ⟨us, hp2⟩, fun D2 nD2 => ?_⟩
          have nD0 := none_of pv.1 nD2
          refine lc_list (K := K) (a := p) (xs := us) (PvD D2 H2 bs fun b => V.bl (noShare b)) (PvD.zero nD2) (fun i H' _ h => h.1.seq hp2) ?_ ?_
          · rintro i x H3 hi pv2
            obtain ⟨b, a, he, rfl, hab⟩ := get hi
            obtain ⟨dx, fs, v, h1, lk, hv⟩ := bdF (hab.same (pv.1.trans pv2.1)) 2 (y := "high_word") rfl (d := .str b.hw) rfl
            cases hv
            refine ⟨rfl, iteT (B := PvD D2 H2 bs (fun b => V.bl (noShare b)) (i + 1) H3) ?_⟩
            exact ⟨_, rfl, a, CB, dx, _, _, rfl, h1, T.cl, T.na "high_word" (by decide), lk, rfl, _, pv2.2, pv2.ln l60, pv2.next nD2 he rfl⟩
          · rintro H3 pv2
            have hD := pv2.2
            rw [hl, List.take_length] at hD
            refine ⟨D2, bs.map noShare, rfl, SqL.of (by rw [List.map_map]; exact hD), bq (A := True) ?_ (k H3 (pv.1.trans pv2.1))⟩
            rw [List.all_map]
            rfl
/-- numbers, or none, put into the list at D -/
def PvO (K : PySem.W.Frag) (D : Addr) (H0 : Hp) (os : List (Option Int)) (i : Nat) (H : Hp) : Prop := Same H0 H ∧ ∃ vs, H D = some (.lst vs) ∧ DpAll K H vs ((os.take i).map oq)
theorem PvO.zero {D : Addr} {H0 : Hp} {os : List (Option Int)} (n : H0 D = none) : PvO K D H0 os 0 (upd H0 D (.lst [])) := ⟨same_upd n, [], upd_same, .nil⟩
theorem oqs_l {D : Addr} {ws : List V} {H H' : Hp} (s : Keep D H H') (hD : H D = some (.lst ws)) : ∀ {os : List (Option Int)} {vs : List V}, DpAll K H vs (os.map oq) → DpAll K H' vs (os.map oq)
  | [], _, h => by cases h; exact .nil
  | _ :: _, _, h => by
    cases h with
    | cons h1 h2 => exact .cons (oq_l s hD h1) (oqs_l s hD h2)
theorem PvO.next {D : Addr} {H0 H : Hp} {os : List (Option Int)} {i : Nat} {o : Option Int} {v : V} {vs : List V} (s : Same H0 H) (hD : H D = some (.lst vs)) (h : DpAll K H vs ((os.take i).map oq)) (n : H0 D = none) (e : os[i]? = some o) (hv : Dp K H v (oq o)) : PvO K D H0 os (i + 1) (upd H D (.lst (vs ++ [v]))) := by
  have kD : Keep D H (upd H D (.lst (vs ++ [v]))) := (Keep.of (Same.refl _)).upd
  refine ⟨same_upd' n s, _, upd_same, ?_⟩
  rw [List.take_succ, e, List.map_append]
  exact dpSnoc (oqs_l kD hD h) (.cons (oq_l kD hD hv) .nil)
theorem DpAll.ln {H : Hp} {os : List (Option Int)} {i : Nat} {vs : List V} (h : DpAll K H vs ((os.take i).map oq)) (l : os.length ≤ 60) : vs.length < sizeLine := by
  rw [dpLen h, List.length_map, List.length_take]
  exact Nat.lt_of_le_of_lt (by omega : _ ≤ 60) (by decide)
theorem map_some {os : List (Option Int)} (h : ∀ o ∈ os, ∃ n, o = some n) : os.map oq = (os.map fun o => o.getD 0).map nq := by
  rw [List.map_map]
  refine List.map_congr_left fun o ho => ?_
  obtain ⟨n, rfl⟩ := h o ho
  rfl
theorem bl_some {os : List (Option Int)} (l : os.length ≤ 60) (h : ∀ o ∈ os, Bo o) : Bl (os.map fun o => o.getD 0) := by
  refine ⟨by rw [List.length_map]; exact l, fun n hn => ?_⟩
  obtain ⟨o, ho, rfl⟩ := List.mem_map.mp hn
  cases o with
  | none =>
    show _ ≤ (0 : Int) ∧ (0 : Int) ≤ _
    omega
  | some m =>
    obtain ⟨a, b⟩ := h _ ho m rfl
    show _ ≤ m ∧ m ≤ _
    omega
def grI (i : Im) (col : Bool) (n : Int) : Int := match i.gr col with | none => n | some x => min n x
def autoI (i : Im) (col : Bool) (bs : List Bd) (g own m : Int) : Int :=
  if mayAsk bs = true then (if bs.all isFx = true then min (grI i col own) (max (gapsI ((bs.map Bd.hi).map fun o => o.getD 0) g - m) 0) else grI i col own) else 0
theorem fx_some {bs : List Bd} (ok : ∀ b ∈ bs, OkBd b) (h : bs.all isFx = true) : ∀ o ∈ bs.map Bd.hi, ∃ n, o = some n := fun o ho => by
  obtain ⟨b, hb, rfl⟩ := List.mem_map.mp ho
  have := of_decide_eq_true (List.all_eq_true.mp h b hb)
  injection this with this
  exact (ok b hb).fx this
theorem gaps_b {ns : List Int} {g : Int} (h : Bl ns) (g0 : 0 ≤ g) (g1 : g ≤ 10000000000000) : -10000000000000000 ≤ gapsI ns g ∧ gapsI ns g ≤ 10000000000000000 := by
  have h1 := h.all
  have h2 := h.1
  have b0 : 0 ≤ ((ns.length - 1 : Nat) : Int) := Int.natCast_nonneg _
  have bm : ((ns.length - 1 : Nat) : Int) ≤ 60 := by omega
  unfold gapsI
  generalize ((ns.length - 1 : Nat) : Int) = L at b0 bm
  have a0 : 0 ≤ L * g := Int.mul_nonneg b0 g0
  have a1 : L * g ≤ 60 * 10000000000000 := Int.mul_le_mul bm g1 g0 (by decide)
  omega
def spAl (K : PySem.W.Frag) (CI CB : Addr) : Sp := fun vs H Q _ => ∃ (a c p : Addr) (i : Im) (col : Bool) (us : List V) (bs : List Bd) (vg vo vm : V) (g own m : Int), vs = [.ref a, .str (axS col), .ref p, vg, vo, vm] ∧ ItAt K CI H a c i ∧ OkIm i ∧ SqL K H p us ∧ BdsAt K CB H us bs ∧ bs.length ≤ 60 ∧ (∀ b ∈ bs, OkBd b) ∧
  U K H vg g ∧ B2 g ∧ U K H vo own ∧ B2 own ∧ U K H vm m ∧ -10000000000000 ≤ m ∧ m ≤ 10000000000000 ∧ ∀ H' u, Same H H' → U K H' u (autoI i col bs g own m) → Q u H'
theorem scAl : FnScope ["item", "axis", "bounds", "gap", "own_least", "margins", "size", "greatest", "lane", "room"] ["item", "axis", "bounds", "gap", "own_least", "margins"] (defScope (top 130)) := ⟨rfl, rfl, rfl, by decide +kernel, rfl, by decide +kernel, by decide +kernel⟩
theorem ok_al {f f1 f2 f3 f4 f5 f6 : Addr} {fd d1 d2 d3 d4 d5 d6 : FuncData} (F : FnP K "automatic_least" (top 130) f fd) (N : Nm mg) (hall : mg "all" = none) (T : TI K mg "Bounds" CB fI bnames) (d_may_ask : D1 P w K mg base "may_ask" "bounds" 1 (spMa K CB) f1 d1) (d_greatest_in : D2 P w K mg base "greatest_in" "item" "axis" 1 (spIx K CI Im.gr) f2 d2)
    (d_lesser : D2 P w K mg base "lesser" "one" "other" 3 (spMM K min) f3 d3) (d_greater : D2 P w K mg base "greater" "one" "other" 3 (spMM K max) f4 d4) (d_minus : D2 P w K mg base "minus" "one" "other" 2 (spMM K (· - ·)) f5 d5) (d_with_gaps : D2 P w K mg base "with_gaps" "numbers" "gap" 4 (spWG K) f6 d6) :
    FnOk P w K mg base CX0 5 f fd ["item", "axis", "bounds", "gap", "own_least", "margins"] (spAl K CI CB) := by
  refine F.ok scAl (fun vs H Q E h => ?_) (fun cdv A outer s H vs Q E hr h => ?_)
  · obtain ⟨a, c, p, i, col, us, bs, vg, vo, vm, g, own, m, rfl, _⟩ := h
    rfl
  · obtain ⟨a, c, p, i, col, us, bs, vg, vo, vm, g, own, m, rfl, hi, ok, hp, hb, l60, okb, hg, bg, ho, bo, hm, m0, m1, k⟩ := h
    refine ⟨_, PSs.nox (pss_cons (ps_if (pt_not (pt_val (pe_call d_may_ask.G (hr.mono (by decide)) (by rfl) d_may_ask.g d_may_ask.kp d_may_ask.b .nil pass0 (pa_cons (pv 2) pa_nil))))
    (pss_one (ps_ret pe_int))
    pss_nil)
  (pss_cons (ps_set (i := 6) scAl.nd rfl (Or.inl rfl) (pv 4))
  (pss_cons (ps_set (i := 7) scAl.nd rfl (Or.inl rfl) (pe_call d_greatest_in.G (hr.mono (by decide)) (by rfl) d_greatest_in.g d_greatest_in.kp d_greatest_in.b .nil pass0 (pa_cons (pv 0) (pa_cons (pv 1) pa_nil))))
  (pss_cons (ps_if (pt_cmp (pc_notN (pv 7)))
    (pss_one (ps_set (i := 6) scAl.nd rfl (Or.inl rfl) (pe_call d_lesser.G (hr.mono (by decide)) (by rfl) d_lesser.g d_lesser.kp d_lesser.b .nil pass0 (pa_cons (pv 6) (pa_cons (pv 7) pa_nil)))))
    pss_nil)
  (pss_cons (ps_if (pt_val (pe_callB (cr_all rfl) (by rfl) hall (by decide +kernel) (pa_cons (pe_lc (own := [("lane", 8)]) (g := gName 8) (tt := tYes) rfl scAl.nd (pi_list (pv 2)) (blkOk_by (own := [("lane", 8)]) (N := ["item", "axis", "bounds", "gap", "own_least", "margins", "size", "greatest", "lane", "room"]) (sc := defScope (top 130)) (by decide +kernel)) (fun _ _ _ _ _ => (pg_name (i := 8) scAl.nd rfl (Or.inl rfl))) (fun _ _ _ _ _ => pts_nil) (fun _ _ _ _ _ => (pe_cmpR op_eq (show PE _ _ (tFld K (tVar 8) "high_word") from pe_fld (pv 8) rfl) pe_str (nomark _)))) pa_nil)))
    (pss_cons (ps_set (i := 9) scAl.nd rfl (Or.inl rfl) (pe_call d_minus.G (hr.mono (by decide)) (by rfl) d_minus.g d_minus.kp d_minus.b .nil pass0 (pa_cons (pe_call d_with_gaps.G (hr.mono (by decide)) (by rfl) d_with_gaps.g d_with_gaps.kp d_with_gaps.b .nil pass0 (pa_cons (pe_lc (own := [("lane", 8)]) (g := gName 8) (tt := tYes) rfl scAl.nd (pi_list (pv 2)) (blkOk_by (own := [("lane", 8)]) (N := ["item", "axis", "bounds", "gap", "own_least", "margins", "size", "greatest", "lane", "room"]) (sc := defScope (top 130)) (by decide +kernel)) (fun _ _ _ _ _ => (pg_name (i := 8) scAl.nd rfl (Or.inl rfl))) (fun _ _ _ _ _ => pts_nil) (fun _ _ _ _ _ => (show PE _ _ (tFld K (tVar 8) "high") from pe_fld (pv 8) rfl))) (pa_cons (pv 3) pa_nil))) (pa_cons (pv 5) pa_nil))))
  (pss_one (ps_set (i := 6) scAl.nd rfl (Or.inl rfl) (pe_call d_lesser.G (hr.mono (by decide)) (by rfl) d_lesser.g d_lesser.kp d_lesser.b .nil pass0 (pa_cons (pv 6) (pa_cons (pe_call d_greater.G (hr.mono (by decide)) (by rfl) d_greater.g d_greater.kp d_greater.b .nil pass0 (pa_cons (pv 9) (pa_cons pe_int pa_nil))) pa_nil))))))
    pss_nil)
  (pss_one (ps_ret (pv 6)))))))), ?_⟩
    have hl := hb.1
    have o2 := ok.gr' col
    have get : ∀ {i : Nat} {x : V}, us[i]? = some x → ∃ b a, bs[i]? = some b ∧ x = V.ref a ∧ BdAt K CB H a b := fun {i x} hi => by
      have hi' := (List.getElem?_eq_some_iff.mp hi).1
      have he : bs[i]? = some (bs[i]'(by omega)) := List.getElem?_eq_getElem _
      obtain ⟨a, ea, hab⟩ := hb.2 i x _ hi he
      exact ⟨_, a, he, ea, hab⟩
    refine ⟨_, rfl, p, us, bs, rfl, hp, hb, l60, fun H1 s1 => ⟨_, rfl, ite2 (fun c => ?_) (fun c => ?_)⟩⟩
    · have c : mayAsk bs = false := Bool.not_eq_true' _ ▸ c
      refine k H1 (.int 0) s1 ?_
      unfold autoI
      rw [c]
      exact U.int 0
    have c : mayAsk bs = true := by
      cases h : mayAsk bs with
      | true => rfl
      | false =>
        rw [h] at c
        exact absurd rfl c
    have ea : autoI i col bs g own m = if bs.all isFx = true then min (grI i col own) (max (gapsI ((bs.map Bd.hi).map fun o => o.getD 0) g - m) 0) else grI i col own := by
      unfold autoI
      rw [c]
      rfl
    rw [ea] at k
    refine ⟨_, rfl, _, rfl, _, rfl, a, _, i, col, rfl, hi.same s1, fun H2 ug s2 hgr => ?_⟩
    have s12 := s1.trans s2
    rcases eg : i.gr col with _ | x
    focus
      rw [eg] at hgr
      cases hgr
      have es : grI i col own = own := by unfold grI; rw [eg]
      refine ⟨_, rfl, false, rfl, iteF ?_⟩
      have hu := dpS s12 ho
      have bu : B2 own := bo
      have s3 := s12
      rw [es] at k
      clear es
      generalize own = sN at k hu bu
      generalize H2 = H3 at hu s3
    rotate_left
    focus
      rw [eg] at hgr
      obtain ⟨x0, x1⟩ := o2 x eg
      have es : grI i col own = min own x := by unfold grI; rw [eg]
      refine ⟨_, rfl, true, congrArg (fun b => V.bl (!b)) (oq_non hgr), iteT ?_⟩
      refine ⟨_, rfl, _, rfl, vo, ug, own, x, rfl, dpS s12 ho, hgr, by omega, by omega, fun H3 u3 s3' hu => ?_⟩
      have bu : B2 (min own x) := by show B2 (min own x); omega
      have s3 := s12.trans s3'
      rw [es] at k
      clear es
      generalize min own x = sN at k hu bu
    all_goals
      have hp3 := s3.seq hp
      refine ⟨_, rfl, p, rfl, ⟨us, hp3⟩, fun D nD => ?_⟩
      have nD0 := none_of s3 nD
      refine lc_list (K := K) (a := p) (xs := us) (PvD D H3 bs fun b => V.bl (isFx b)) (PvD.zero nD) (fun i H' _ h => h.1.seq hp3) ?_ ?_
      · rintro i x H4 hi4 pv
        obtain ⟨b, a, he, rfl, hab⟩ := get hi4
        obtain ⟨dx, fs, v, h1, lk, hv⟩ := bdF (hab.same (s3.trans pv.1)) 2 (y := "high_word") rfl (d := .str b.hw) rfl
        cases hv
        refine ⟨rfl, iteT (B := PvD D H3 bs (fun b => V.bl (isFx b)) (i + 1) H4) ?_⟩
        exact ⟨_, rfl, a, CB, dx, _, _, rfl, h1, T.cl, T.na "high_word" (by decide), lk, rfl, _, pv.2, pv.ln l60, pv.next nD he rfl⟩
      rintro H4 pv
      have hD := pv.2
      rw [hl, List.take_length] at hD
      have s4 := s3.trans pv.1
      refine ⟨D, bs.map isFx, rfl, SqL.of (by rw [List.map_map]; exact hD), _, rfl, ite2 (fun cf => ?_) (fun cf => ?_)⟩
      rotate_left
      · have cf : (bs.map isFx).all id = false := Bool.eq_false_iff.mpr cf
        rw [List.all_map] at cf
        have cf : bs.all isFx = false := cf
        rw [cf, if_neg (by decide)] at k
        exact ⟨_, rfl, k H4 _ s4 (dpS pv.1 hu)⟩
      have cf : (bs.map isFx).all id = true := cf
      rw [List.all_map] at cf
      have cf : bs.all isFx = true := cf
      rw [cf, if_pos rfl] at k
      have fs := fx_some okb cf
      have hb60 : (bs.map Bd.hi).length ≤ 60 := by rw [List.length_map]; exact l60
      have bl := bl_some hb60 fun o ho => by
        obtain ⟨b, hb, rfl⟩ := List.mem_map.mp ho
        exact (okb b hb).hi
      have gb := gaps_b bl bg.1 (by omega)
      have em := map_some fs
      generalize hns : ((bs.map Bd.hi).map fun o => o.getD 0) = ns at bl gb em k
      have hp4 := s4.seq hp
      refine ⟨_, rfl, p, rfl, ⟨us, hp4⟩, fun D2 nD2 => ?_⟩
      refine lc_list (K := K) (a := p) (xs := us) (PvO K D2 H4 (bs.map Bd.hi)) (PvO.zero nD2) (fun i H' _ h => h.1.seq hp4) ?_ ?_
      · rintro i x H5 hi5 ⟨s5, vs, hD2, hvs⟩
        obtain ⟨b, a, he, rfl, hab⟩ := get hi5
        obtain ⟨dx, fs, v, h1, lk, hv⟩ := bdF (hab.same (s4.trans s5)) 3 (y := "high") rfl (d := oq b.hi) rfl
        refine ⟨rfl, iteT (B := PvO K D2 H4 (bs.map Bd.hi) (i + 1) H5) ?_⟩
        exact ⟨_, rfl, a, CB, dx, _, _, rfl, h1, T.cl, T.na "high" (by decide), lk, _, hD2, DpAll.ln hvs hb60, PvO.next s5 hD2 hvs nD2 (by rw [List.getElem?_map, he]; rfl) hv⟩
      rintro H5 ⟨s5, vs, hD2, hvs⟩
      rw [hl, ← List.length_map (f := Bd.hi), List.take_length, em] at hvs
      have s45 := s4.trans s5
      refine ⟨_, rfl, D2, vs, ns, vg, g, rfl, SqL.of hD2, hvs, bl, dpS s45 hg, bg.1, by omega, fun H6 u6 s6 h6 => ?_⟩
      have s46 := s45.trans s6
      refine ⟨_, rfl, u6, vm, _, m, rfl, h6, dpS s46 hm, by omega, by omega, fun H7 u7 s7 h7 => ?_⟩
      have s47 := s46.trans s7
      refine ⟨_, rfl, _, rfl, u7, .int 0, gapsI ns g - m, 0, rfl, h7, U.int 0, by omega, by omega, fun H8 u8 s8 h8 => ?_⟩
      have s48 := s47.trans s8
      refine ⟨_, _, sN, max (gapsI ns g - m) 0, rfl, dpS ((((pv.1.trans s5).trans s6).trans s7).trans s8) hu, h8, by omega, by omega, fun H9 u9 s9 h9 => ?_⟩
      exact ⟨_, rfl, k H9 u9 (s48.trans s9) h9⟩
end
end K5

set_option Elab.async false
set_option linter.all false
set_option maxRecDepth 100000
set_option maxHeartbeats 8000000
namespace K5
open PySem PySem.Spec PyProof.Rows L2
open K1 (FnP top Nm Sz wm dat)
/-! ### limits, all five -/
/-- what a loop over things told by a list has put into the list at D -/
def PvG {α : Type} (D : Addr) (H0 : Hp) (bs : List α) (f : α → V) (i : Nat) (H : Hp) : Prop := Same H0 H ∧ H D = some (.lst ((bs.take i).map f))
theorem PvG.zero {α : Type} {D : Addr} {H0 : Hp} {bs : List α} {f : α → V} (n : H0 D = none) : PvG D H0 bs f 0 (upd H0 D (.lst [])) := ⟨same_upd n, upd_same⟩
theorem PvG.ln {α : Type} {D : Addr} {H0 H : Hp} {bs : List α} {f : α → V} {i : Nat} (_ : PvG D H0 bs f i H) (l : bs.length ≤ 60) : ((bs.take i).map f).length < sizeLine := by
  rw [List.length_map, List.length_take]
  exact Nat.lt_of_le_of_lt (by omega : _ ≤ 60) (by decide)
theorem PvG.next {α : Type} {D : Addr} {H0 H : Hp} {bs : List α} {f : α → V} {i : Nat} {b : α} {v : V} (h : PvG D H0 bs f i H) (n : H0 D = none) (e : bs[i]? = some b) (ev : v = f b) : PvG D H0 bs f (i + 1) (upd H D (.lst ((bs.take i).map f ++ [v]))) :=
  ⟨same_upd' n h.1, by rw [upd_same, take_snocG e, ev]⟩
def limO (b : Bd) : Option Int := match b.hi with | none => b.cap | some h => some h
def noneB (x : Option Int) : Bool := x.isNone
def limI (bs : List Bd) (g : Int) : Option Int := if (bs.map limO).any noneB = true then none else some (gapsI ((bs.map limO).map fun x => x.getD 0) g)
theorem limO_bo {b : Bd} (h : OkBd b) : Bo (limO b) := by
  unfold limO
  cases e : b.hi with
  | none => exact h.cap
  | some n =>
    intro m hm
    have hm : some n = some m := hm
    cases hm
    exact h.hi n e
/-- a def of any number of parameters as its callers need it -/
structure DN (P : Program) (w : World) (K : PySem.W.Frag) (mg : Str → Option Value) (base : Heap) (x : Str) (ps : List Str) (k : Nat) (sp : Sp) (f : Addr) (fd : FuncData) : Prop where
  G : FnOk P w K mg base CX0 k f fd ps sp
  g : mg x = some (.ref f)
  kp : PySem.W.keepIn K (.ref f) = true
  b : Binds K fd ps []
section
variable {P : Program} {w : World} {K : PySem.W.Frag} {mg : Str → Option Value} {base : Heap} {CW CB CI CP fI : Addr}
theorem oq_isN {H : Hp} {u : V} {x : Option Int} (h : Dp K H u (oq x)) : decide (u = .non) = noneB x := by
  cases x with
  | none =>
    cases h
    rfl
  | some n => exact oq_non h
theorem limI_b {bs : List Bd} {g l : Int} (ok : ∀ b ∈ bs, OkBd b) (l60 : bs.length ≤ 60) (bg : B2 g) (h : limI bs g = some l) : -10000000000000000 ≤ l ∧ l ≤ 10000000000000000 := by
  unfold limI at h
  split at h
  · cases h
  · cases h
    refine gaps_b (bl_some (by rw [List.length_map]; exact l60) fun x hx => ?_) bg.1 (by omega)
    obtain ⟨b, hb, rfl⟩ := List.mem_map.mp hx
    exact limO_bo (ok b hb)
def spLm (K : PySem.W.Frag) (CB : Addr) : Sp := fun vs H Q _ => ∃ (p : Addr) (us : List V) (bs : List Bd) (vg : V) (g : Int), vs = [.ref p, vg] ∧ SqL K H p us ∧ BdsAt K CB H us bs ∧ bs.length ≤ 60 ∧ (∀ b ∈ bs, OkBd b) ∧ U K H vg g ∧ B2 g ∧ ∀ H' u, Same H H' → Dp K H' u (oq (limI bs g)) → Q u H'
theorem scLm : FnScope ["bounds", "gap", "limits", "lane", "limit"] ["bounds", "gap"] (defScope (top 131)) := ⟨rfl, rfl, rfl, by decide +kernel, rfl, by decide +kernel, by decide +kernel⟩
theorem ok_lm {f f1 : Addr} {fd d1 : FuncData} (F : FnP K "limit_of" (top 131) f fd) (N : Nm mg) (hany : mg "any" = none) (T : TI K mg "Bounds" CB fI bnames) (d_with_gaps : D2 P w K mg base "with_gaps" "numbers" "gap" 4 (spWG K) f1 d1) : FnOk P w K mg base CX0 5 f fd ["bounds", "gap"] (spLm K CB) := by
  refine F.ok scLm (fun vs H Q E h => ?_) (fun cdv A outer s H vs Q E hr h => ?_)
  · obtain ⟨p, us, bs, vg, g, rfl, _⟩ := h
    rfl
  · obtain ⟨p, us, bs, vg, g, rfl, hp, hb, l60, okb, hg, bg, k⟩ := h
    refine ⟨_, PSs.nox (pss_cons (ps_setLc (i := 2) (own := [("lane", 3)]) (g := gName 3) (tt := tYes) rfl scLm.nd rfl rfl (sw_true rfl rfl rfl (by decide +kernel)) (pi_list (pv 0)) (blkOk_by (own := [("lane", 3)]) (N := ["bounds", "gap", "limits", "lane", "limit"]) (sc := defScope (top 131)) (by decide +kernel)) (fun _ _ _ _ _ => (pg_name (i := 3) scLm.nd rfl (Or.inl rfl))) (fun _ _ _ _ _ => pts_nil) (fun _ _ _ _ _ => (pe_ifExp (pt_cmp (pc_isN (show PE _ _ (tFld K (tVar 3) "high") from pe_fld (pv 3) rfl))) (show PE _ _ (tFld K (tVar 3) "cap") from pe_fld (pv 3) rfl) (show PE _ _ (tFld K (tVar 3) "high") from pe_fld (pv 3) rfl))))
  (pss_cons (ps_if (pt_val (pe_callB (cr_any rfl) (by rfl) hany (by decide +kernel) (pa_cons (pe_lc (own := [("limit", 4)]) (g := gName 4) (tt := tYes) rfl scLm.nd (pi_list (pv 2)) (blkOk_by (own := [("limit", 4)]) (N := ["bounds", "gap", "limits", "lane", "limit"]) (sc := defScope (top 131)) (by decide +kernel)) (fun _ _ _ _ _ => (pg_name (i := 4) scLm.nd rfl (Or.inl rfl))) (fun _ _ _ _ _ => pts_nil) (fun _ _ _ _ _ => (pe_cmp (pc_isN (pv 4)) rfl))) pa_nil)))
    (pss_one (ps_ret pe_non))
    pss_nil)
  (pss_one (ps_ret (pe_call d_with_gaps.G (hr.mono (by decide)) (by rfl) d_with_gaps.g d_with_gaps.kp d_with_gaps.b .nil pass0 (pa_cons (pv 2) (pa_cons (pv 1) pa_nil))))))), ?_⟩
    have hl := hb.1
    have hm60 : (bs.map limO).length ≤ 60 := by rw [List.length_map]; exact l60
    have get : ∀ {i : Nat} {x : V}, us[i]? = some x → ∃ b a, bs[i]? = some b ∧ x = V.ref a ∧ BdAt K CB H a b := fun {i x} hi => by
      have hi' := (List.getElem?_eq_some_iff.mp hi).1
      have he : bs[i]? = some (bs[i]'(by omega)) := List.getElem?_eq_getElem _
      obtain ⟨a, ea, hab⟩ := hb.2 i x _ hi he
      exact ⟨_, a, he, ea, hab⟩
    refine ⟨_, rfl, p, rfl, ⟨us, hp⟩, fun D nD => ?_⟩
    refine lc_list (K := K) (a := p) (xs := us) (PvO K D H (bs.map limO)) (PvO.zero nD) (fun i H' _ h => h.1.seq hp) ?_ ?_
    · rintro i x H2 hi ⟨s2, vs, hD, hvs⟩
      obtain ⟨b, a, he, rfl, hab⟩ := get hi
      obtain ⟨dx, fs, v, h1, lk, hv⟩ := bdF (hab.same s2) 3 (y := "high") rfl (d := oq b.hi) rfl
      obtain ⟨dx', fs', v', h1', lk', hv'⟩ := bdF (hab.same s2) 5 (y := "cap") rfl (d := oq b.cap) rfl
      have el : (bs.map limO)[i]? = some (limO b) := by rw [List.getElem?_map, he]; rfl
      refine ⟨rfl, iteT (B := PvO K D H (bs.map limO) (i + 1) H2) ?_⟩
      cases eh : b.hi with
      | none =>
        rw [eh] at hv
        cases hv
        have ec : limO b = b.cap := by unfold limO; rw [eh]
        exact ⟨_, rfl, a, CB, dx, _, _, rfl, h1, T.cl, T.na "high" (by decide), lk, true, rfl, iteT ⟨_, rfl, a, CB, dx', _, _, rfl, h1', T.cl, T.na "cap" (by decide), lk', _, hD, DpAll.ln hvs hm60, PvO.next s2 hD hvs nD el (by rw [ec]; exact hv')⟩⟩
      | some n =>
        rw [eh] at hv
        have ec : limO b = some n := by unfold limO; rw [eh]
        exact ⟨_, rfl, a, CB, dx, _, _, rfl, h1, T.cl, T.na "high" (by decide), lk, false, congrArg V.bl (oq_non hv), iteF ⟨_, rfl, a, CB, dx, _, _, rfl, h1, T.cl, T.na "high" (by decide), lk, _, hD, DpAll.ln hvs hm60, PvO.next s2 hD hvs nD el (by rw [ec]; exact hv)⟩⟩
    rintro H2 ⟨s2, vs, hD, hvs⟩
    rw [hl, ← List.length_map (f := limO), List.take_length] at hvs
    have lvs : vs.length = (bs.map limO).length := by rw [dpLen hvs, List.length_map (f := oq)]
    refine ⟨_, rfl, D, rfl, ⟨vs, SqL.of hD⟩, fun D2 nD2 => ?_⟩
    refine lc_list (K := K) (a := D) (xs := vs) (PvG D2 H2 (bs.map limO) fun x => V.bl (noneB x)) (PvG.zero nD2) (fun i H' _ h => SqL.of (h.1 _ _ hD)) ?_ ?_
    · rintro i x H3 hi pv
      have hi' := (List.getElem?_eq_some_iff.mp hi).1
      have he : (bs.map limO)[i]? = some ((bs.map limO)[i]'(by omega)) := List.getElem?_eq_getElem _
      generalize (bs.map limO)[i]'(by omega) = x0 at he
      obtain ⟨u, eu, hu⟩ := dpAt i hvs (d := oq x0) (by rw [List.getElem?_map, he]; rfl)
      rw [hi] at eu
      cases eu
      refine ⟨rfl, iteT (B := PvG D2 H2 (bs.map limO) (fun x => V.bl (noneB x)) (i + 1) H3) ?_⟩
      exact ⟨_, rfl, _, pv.2, pv.ln hm60, pv.next nD2 he (congrArg V.bl (oq_isN hu))⟩
    · rintro H3 pv
      have hD2 := pv.2
      rw [lvs, List.take_length] at hD2
      have s3 := s2.trans pv.1
      refine ⟨D2, (bs.map limO).map noneB, rfl, SqL.of (by rw [List.map_map (g := V.bl)]; exact hD2), _, rfl, ite2 (fun c => ?_) (fun c => ?_)⟩
      · have c : ((bs.map limO).map noneB).any id = true := c
        rw [List.any_map] at c
        have c : (bs.map limO).any noneB = true := c
        refine k H3 .non s3 ?_
        unfold limI
        rw [if_pos c]
        exact .non
      · have c : ((bs.map limO).map noneB).any id = false := Bool.eq_false_iff.mpr c
        rw [List.any_map] at c
        have c : (bs.map limO).any noneB = false := c
        have cs : ∀ x ∈ bs.map limO, ∃ n, x = some n := fun x hx => by
          have := List.any_eq_false.mp c x hx
          cases x with
          | none => exact absurd rfl this
          | some n => exact ⟨n, rfl⟩
        have bl := bl_some hm60 fun x hx => by
          obtain ⟨b, hb, rfl⟩ := List.mem_map.mp hx
          exact limO_bo (okb b hb)
        rw [map_some cs] at hvs
        have eL : limI bs g = some (gapsI ((bs.map limO).map fun x => x.getD 0) g) := by
          unfold limI
          rw [if_neg (by rw [c]; decide)]
        rw [eL] at k
        have hvs3 := dpSA pv.1 hvs
        exact ⟨_, rfl, _, rfl, D, vs, _, vg, g, rfl, SqL.of (pv.1 _ _ hD), hvs3, bl, dpS s3 hg, bg.1, by omega, fun H4 u s4 hu => k H4 u (s3.trans s4) hu⟩
/-- all five -/
structure Five where
  l : Int
  m : Int
  n : Int
  ll : Int
  lm : Int
def ouI (n m : Int) : Int := max (n + m) 0
def toldI (i : Im) (col : Bool) (bs : List Bd) (g lo : Int) : Int := match i.ls col with | some l => l | none => autoI i col bs g lo (i.st col + i.en col)
def minI (i : Im) (col : Bool) (bs : List Bd) (g lo least : Int) : Int := match i.sz col with | some _ => least | none => ouI (toldI i col bs g lo) (i.st col + i.en col)
def fiveI (least most minimum : Int) : Option Int → Five
  | none => ⟨least, most, minimum, least, most⟩
  | some l => ⟨least, most, minimum, max (min least l) minimum, max (min most l) minimum⟩
def leI (i : Im) (col : Bool) (n : Int) : Int := ouI (heldI i col ((i.sz col).getD n)) (i.st col + i.en col)
def askI (i : Im) (col : Bool) (bs : List Bd) (g lo hi : Int) : Five := fiveI (leI i col lo) (leI i col hi) (minI i col bs g lo (leI i col lo)) (limI bs g)
def Five.ds (x : Five) : List PyData := [nq x.l, nq x.m, nq x.n, nq x.ll, nq x.lm]
theorem autoI_b {i : Im} (ok : OkIm i) {col : Bool} {bs : List Bd} {g own m : Int} (h : B2 own) : B2 (autoI i col bs g own m) := by
  have h2 := ok.gr' col
  have hg : B2 (grI i col own) := by
    unfold grI
    cases e : i.gr col with
    | none => exact h
    | some x =>
      obtain ⟨a, b⟩ := h2 x e
      show B2 (min own x)
      omega
  unfold autoI
  generalize grI i col own = s at hg
  split
  · split
    · show B2 (min s (max _ 0))
      omega
    · exact hg
  · show B2 0
    omega
def spAk (K : PySem.W.Frag) (CI CB : Addr) : Sp := fun vs H Q _ => ∃ (a c p q : Addr) (i : Im) (col : Bool) (us : List V) (bs : List Bd) (vg v1 v2 vm : V) (g lo hi : Int), vs = [.ref a, .str (axS col), .ref p, vg, .ref q, vm] ∧ ItAt K CI H a c i ∧ OkIm i ∧ SqL K H p us ∧ BdsAt K CB H us bs ∧ bs.length ≤ 60 ∧ (∀ b ∈ bs, OkBd b) ∧
  U K H vg g ∧ B2 g ∧ SqT K H q [v1, v2] ∧ U K H v1 lo ∧ U K H v2 hi ∧ B2 lo ∧ B2 hi ∧ U K H vm (i.st col + i.en col) ∧ ∀ H' u, Same H H' → Dp K H' u (.tuple (askI i col bs g lo hi).ds) → Q u H'
theorem scAk : FnScope ["item", "axis", "bounds", "gap", "own", "margins", "size", "least", "most", "minimum", "told_least", "limit", "limited_least"] ["item", "axis", "bounds", "gap", "own", "margins"] (defScope (top 132)) := ⟨rfl, rfl, rfl, by decide +kernel, rfl, by decide +kernel, by decide +kernel⟩
theorem ok_ak {f f1 f2 f3 f4 f5 f6 f7 f8 : Addr} {fd d1 d2 d3 d4 d5 d6 d7 d8 : FuncData} (F : FnP K "asked_of" (top 132) f fd) (d_size_in : D2 P w K mg base "size_in" "item" "axis" 1 (spIx K CI Im.sz) f1 d1) (d_outer : D2 P w K mg base "outer" "size" "margins" 4 (spOu K) f2 d2) (d_held : D3 P w K mg base "held" "item" "axis" "size" 4 (spHe K CI) f3 d3) (d_least_in : D2 P w K mg base "least_in" "item" "axis" 1 (spIx K CI Im.ls) f4 d4)
    (d_automatic_least : DN P w K mg base "automatic_least" ["item", "axis", "bounds", "gap", "own_least", "margins"] 5 (spAl K CI CB) f5 d5) (d_limit_of : D2 P w K mg base "limit_of" "bounds" "gap" 5 (spLm K CB) f6 d6) (d_lesser : D2 P w K mg base "lesser" "one" "other" 3 (spMM K min) f7 d7) (d_greater : D2 P w K mg base "greater" "one" "other" 3 (spMM K max) f8 d8) :
    FnOk P w K mg base CX0 6 f fd ["item", "axis", "bounds", "gap", "own", "margins"] (spAk K CI CB) := by
  refine F.ok scAk (fun vs H Q E h => ?_) (fun cdv A outer s H vs Q E hr h => ?_)
  · obtain ⟨a, c, p, q, i, col, us, bs, vg, v1, v2, vm, g, lo, hi, rfl, _⟩ := h
    rfl
  · obtain ⟨a, c, p, q, i, col, us, bs, vg, v1, v2, vm, g, lo, hi, rfl, it, ok, hp, hb, l60, okb, hg, bg, hq, g1, g2, blo, bhi, hm, k⟩ := h
    refine ⟨_, PSs.nox (pss_cons (ps_set (i := 6) scAk.nd rfl (Or.inl rfl) (pe_call d_size_in.G (hr.mono (by decide)) (by rfl) d_size_in.g d_size_in.kp d_size_in.b .nil pass0 (pa_cons (pv 0) (pa_cons (pv 1) pa_nil))))
  (pss_cons (ps_set (i := 7) scAk.nd rfl (Or.inl rfl) (pe_call d_outer.G (hr.mono (by decide)) (by rfl) d_outer.g d_outer.kp d_outer.b .nil pass0 (pa_cons (pe_call d_held.G (hr.mono (by decide)) (by rfl) d_held.g d_held.kp d_held.b .nil pass0 (pa_cons (pv 0) (pa_cons (pv 1) (pa_cons (pe_ifExp (pt_cmp (pc_isN (pv 6))) (pe_ix ix_tup (pv 4) pe_int (fun _ _ => rfl)) (pv 6)) pa_nil)))) (pa_cons (pv 5) pa_nil))))
  (pss_cons (ps_set (i := 8) scAk.nd rfl (Or.inl rfl) (pe_call d_outer.G (hr.mono (by decide)) (by rfl) d_outer.g d_outer.kp d_outer.b .nil pass0 (pa_cons (pe_call d_held.G (hr.mono (by decide)) (by rfl) d_held.g d_held.kp d_held.b .nil pass0 (pa_cons (pv 0) (pa_cons (pv 1) (pa_cons (pe_ifExp (pt_cmp (pc_isN (pv 6))) (pe_ix ix_tup (pv 4) pe_int (fun _ _ => rfl)) (pv 6)) pa_nil)))) (pa_cons (pv 5) pa_nil))))
  (pss_cons (ps_set (i := 9) scAk.nd rfl (Or.inl rfl) (pv 7))
  (pss_cons (ps_if (pt_cmp (pc_isN (pv 6)))
    (pss_cons (ps_set (i := 10) scAk.nd rfl (Or.inl rfl) (pe_call d_least_in.G (hr.mono (by decide)) (by rfl) d_least_in.g d_least_in.kp d_least_in.b .nil pass0 (pa_cons (pv 0) (pa_cons (pv 1) pa_nil))))
  (pss_cons (ps_if (pt_cmp (pc_isN (pv 10)))
    (pss_one (ps_set (i := 10) scAk.nd rfl (Or.inl rfl) (pe_call d_automatic_least.G (hr.mono (by decide)) (by rfl) d_automatic_least.g d_automatic_least.kp d_automatic_least.b .nil pass0 (pa_cons (pv 0) (pa_cons (pv 1) (pa_cons (pv 2) (pa_cons (pv 3) (pa_cons (pe_ix ix_tup (pv 4) pe_int (fun _ _ => rfl)) (pa_cons (pv 5) pa_nil)))))))))
    pss_nil)
  (pss_one (ps_set (i := 9) scAk.nd rfl (Or.inl rfl) (pe_call d_outer.G (hr.mono (by decide)) (by rfl) d_outer.g d_outer.kp d_outer.b .nil pass0 (pa_cons (pv 10) (pa_cons (pv 5) pa_nil)))))))
    pss_nil)
  (pss_cons (ps_set (i := 11) scAk.nd rfl (Or.inl rfl) (pe_call d_limit_of.G (hr.mono (by decide)) (by rfl) d_limit_of.g d_limit_of.kp d_limit_of.b .nil pass0 (pa_cons (pv 2) (pa_cons (pv 3) pa_nil))))
  (pss_cons (ps_if (pt_cmp (pc_isN (pv 11)))
    (pss_one (ps_ret (pe_tup (pa_cons (pv 7) (pa_cons (pv 8) (pa_cons (pv 9) (pa_cons (pv 7) (pa_cons (pv 8) pa_nil))))))))
    pss_nil)
  (pss_cons (ps_set (i := 12) scAk.nd rfl (Or.inl rfl) (pe_call d_greater.G (hr.mono (by decide)) (by rfl) d_greater.g d_greater.kp d_greater.b .nil pass0 (pa_cons (pe_call d_lesser.G (hr.mono (by decide)) (by rfl) d_lesser.g d_lesser.kp d_lesser.b .nil pass0 (pa_cons (pv 7) (pa_cons (pv 11) pa_nil))) (pa_cons (pv 9) pa_nil))))
  (pss_one (ps_ret (pe_tup (pa_cons (pv 7) (pa_cons (pv 8) (pa_cons (pv 9) (pa_cons (pv 12) (pa_cons (pe_call d_greater.G (hr.mono (by decide)) (by rfl) d_greater.g d_greater.kp d_greater.b .nil pass0 (pa_cons (pe_call d_lesser.G (hr.mono (by decide)) (by rfl) d_lesser.g d_lesser.kp d_lesser.b .nil pass0 (pa_cons (pv 8) (pa_cons (pv 11) pa_nil))) (pa_cons (pv 9) pa_nil))) pa_nil)))))))))))))))), ?_⟩
    have osz := ok.sz' col
    have ols := ok.ls' col
    have bst := ok.st' col
    have ben := ok.en' col
    have lb := fun l h => limI_b (l := l) okb l60 bg h
    have bo : ∀ n, B2 n → 0 ≤ ouI n (i.st col + i.en col) ∧ ouI n (i.st col + i.en col) ≤ 10000000000000 := fun n h => by
      unfold ouI
      omega
    refine ⟨_, rfl, _, rfl, a, c, i, col, rfl, it, fun H1 z1 s1 hz1 => ?_⟩
    cases ez : i.sz col with
    | some x =>
      obtain ⟨x0, x1⟩ := osz x ez
      rw [ez] at hz1
      have e1 : ∀ n, leI i col n = ouI (heldI i col x) (i.st col + i.en col) := fun n => by unfold leI; rw [ez]; rfl
      have ea : askI i col bs g lo hi = fiveI (ouI (heldI i col x) (i.st col + i.en col)) (ouI (heldI i col x) (i.st col + i.en col)) (ouI (heldI i col x) (i.st col + i.en col)) (limI bs g) := by unfold askI minI; rw [ez, e1, e1]
      have bh := heldI_b ok col (n := x) ⟨x0, x1⟩
      have bl := bo _ bh
      refine ⟨_, rfl, _, rfl, _, rfl, false, congrArg V.bl (oq_non hz1), iteF ⟨_, rfl, a, c, i, col, z1, x, rfl, it.same s1, ok, hz1, ⟨x0, x1⟩, fun H2 z2 s2 hz2 => ?_⟩⟩
      have s12 := s1.trans s2
      refine ⟨_, rfl, z2, vm, _, _, rfl, hz2, dpS s12 hm, bh, by omega, by omega, fun H3 z3 s3 hz3 => ?_⟩
      have s13 := s12.trans s3
      have hz3 : U K H3 z3 (ouI (heldI i col x) (i.st col + i.en col)) := hz3
      refine ⟨_, rfl, _, rfl, _, rfl, false, congrArg V.bl (oq_non hz1), iteF ⟨_, rfl, a, c, i, col, z1, x, rfl, it.same s13, ok, dpS (s2.trans s3) hz1, ⟨x0, x1⟩, fun H4 z4 s4 hz4 => ?_⟩⟩
      have s14 := s13.trans s4
      refine ⟨_, rfl, z4, vm, _, _, rfl, hz4, dpS s14 hm, bh, by omega, by omega, fun H5 z5 s5 hz5 => ?_⟩
      have s15 := s14.trans s5
      have hz5 : U K H5 z5 (ouI (heldI i col x) (i.st col + i.en col)) := hz5
      have hz35 := dpS (s4.trans s5) hz3
      generalize ouI (heldI i col x) (i.st col + i.en col) = N at bl ea hz3 hz5 hz35
      refine ⟨_, rfl, _, rfl, false, congrArg V.bl (oq_non hz1), iteF ?_⟩
      refine ⟨_, rfl, _, rfl, p, us, bs, vg, g, rfl, s15.seq hp, hb.same s15, l60, okb, dpS s15 hg, bg, fun Hy uy sy hy => ?_⟩
      have sk := s15.trans sy
      cases el : limI bs g with
      | none =>
        rw [el] at hy
        cases hy
        refine ⟨_, rfl, true, rfl, iteT ?_⟩
        refine ⟨_, rfl, _, rfl, _, rfl, _, rfl, _, rfl, (by show 5 ≤ sizeLine; decide), fun t nt => ?_⟩
        have st := same_upd (o := .tup [z3, z5, z3, z3, z5]) nt
        refine k _ _ (sk.trans st) (.tup (SqT.of upd_same) ?_)
        rw [ea, el]
        have w1 := dpS (sy.trans st) hz35
        have w2 := dpS (sy.trans st) hz5
        have w3 := dpS (sy.trans st) hz35
        exact .cons w1 (.cons w2 (.cons w3 (.cons w1 (.cons w2 .nil))))
      | some l =>
        rw [el] at hy
        obtain ⟨l0, l1⟩ := lb l el
        refine ⟨_, rfl, false, congrArg V.bl (oq_non hy), iteF ?_⟩
        refine ⟨_, rfl, _, rfl, z3, uy, N, l, rfl, dpS sy hz35, hy, by omega, by omega, fun Ha xa sa ha => ?_⟩
        refine ⟨_, rfl, xa, z3, min N l, N, rfl, ha, dpS (sy.trans sa) hz35, by omega, by omega, fun Hb xb sb hxb => ?_⟩
        refine ⟨_, rfl, _, rfl, _, rfl, _, rfl, _, rfl, _, rfl, z5, uy, N, l, rfl, dpS ((sy.trans sa).trans sb) hz5, dpS (sa.trans sb) hy, by omega, by omega, fun Hc xc sc hc => ?_⟩
        refine ⟨_, rfl, xc, z3, min N l, N, rfl, hc, dpS (((sy.trans sa).trans sb).trans sc) hz35, by omega, by omega, fun Hd xd sd hd => ?_⟩
        refine ⟨(by show 5 ≤ sizeLine; decide), fun t nt => ?_⟩
        have st := same_upd (o := .tup [z3, z5, z3, xb, xd]) nt
        have sd2 := ((sa.trans sb).trans sc).trans sd
        refine k _ _ ((sk.trans sd2).trans st) (.tup (SqT.of upd_same) ?_)
        rw [ea, el]
        have w1 := dpS ((sy.trans sd2).trans st) hz35
        have w2 := dpS ((sy.trans sd2).trans st) hz5
        have w3 := dpS ((sy.trans sd2).trans st) hz35
        exact .cons w1 (.cons w2 (.cons w3 (.cons (dpS ((sc.trans sd).trans st) hxb) (.cons (dpS st hd) .nil))))
    | none =>
      rw [ez] at hz1
      cases hz1
      have e1 : ∀ n, leI i col n = ouI (heldI i col n) (i.st col + i.en col) := fun n => by unfold leI; rw [ez]; rfl
      have ea : askI i col bs g lo hi = fiveI (ouI (heldI i col lo) (i.st col + i.en col)) (ouI (heldI i col hi) (i.st col + i.en col)) (ouI (toldI i col bs g lo) (i.st col + i.en col)) (limI bs g) := by unfold askI minI; rw [ez, e1, e1]
      have bh1 := heldI_b ok col blo
      have bh2 := heldI_b ok col bhi
      have bl1 := bo _ bh1
      have bl2 := bo _ bh2
      refine ⟨_, rfl, _, rfl, _, rfl, true, rfl, iteT ⟨_, rfl, q, _, _, v1, rfl, rfl, Same.seqT s1 hq, atI_nat (j := 0) rfl, a, c, i, col, v1, lo, rfl, it.same s1, ok, dpS s1 g1, blo, fun H2 z2 s2 hz2 => ?_⟩⟩
      have s12 := s1.trans s2
      refine ⟨_, rfl, z2, vm, _, _, rfl, hz2, dpS s12 hm, bh1, by omega, by omega, fun H3 z3 s3 hz3 => ?_⟩
      have s13 := s12.trans s3
      have hz3 : U K H3 z3 (ouI (heldI i col lo) (i.st col + i.en col)) := hz3
      refine ⟨_, rfl, _, rfl, _, rfl, true, rfl, iteT ⟨_, rfl, q, _, _, v2, rfl, rfl, Same.seqT s13 hq, atI_nat (j := 1) rfl, a, c, i, col, v2, hi, rfl, it.same s13, ok, dpS s13 g2, bhi, fun H4 z4 s4 hz4 => ?_⟩⟩
      have s14 := s13.trans s4
      refine ⟨_, rfl, z4, vm, _, _, rfl, hz4, dpS s14 hm, bh2, by omega, by omega, fun H5 z5 s5 hz5 => ?_⟩
      have s15 := s14.trans s5
      have hz5 : U K H5 z5 (ouI (heldI i col hi) (i.st col + i.en col)) := hz5
      have hz35 := dpS (s4.trans s5) hz3
      generalize ouI (heldI i col lo) (i.st col + i.en col) = N1 at bl1 ea hz3 hz35
      generalize ouI (heldI i col hi) (i.st col + i.en col) = N2 at bl2 ea hz5
      refine ⟨_, rfl, _, rfl, true, rfl, iteT ?_⟩
      refine ⟨_, rfl, _, rfl, a, c, i, col, rfl, it.same s15, fun H6 z6 s6 hz6 => ?_⟩
      have s16 := s15.trans s6
      cases es : i.ls col with
      | some y =>
        obtain ⟨y0, y1⟩ := ols y es
        rw [es] at hz6
        have et : toldI i col bs g lo = y := by unfold toldI; rw [es]
        rw [et] at ea
        have by_ := bo y ⟨y0, y1⟩
        refine ⟨_, rfl, false, congrArg V.bl (oq_non hz6), iteF ?_⟩
        refine ⟨_, rfl, _, rfl, z6, vm, y, _, rfl, hz6, dpS s16 hm, ⟨y0, y1⟩, by omega, by omega, fun H7 z7 s7 hz7 => ?_⟩
        have s17 := s16.trans s7
        have hz7 : U K H7 z7 (ouI y (i.st col + i.en col)) := hz7
        have hz37 := dpS (s6.trans s7) hz35
        have hz57 := dpS (s6.trans s7) hz5
        generalize ouI y (i.st col + i.en col) = N3 at by_ ea hz7
        refine ⟨_, rfl, _, rfl, p, us, bs, vg, g, rfl, s17.seq hp, hb.same s17, l60, okb, dpS s17 hg, bg, fun Hy uy sy hy => ?_⟩
        have sk := s17.trans sy
        cases el : limI bs g with
        | none =>
          rw [el] at hy
          cases hy
          refine ⟨_, rfl, true, rfl, iteT ?_⟩
          refine ⟨_, rfl, _, rfl, _, rfl, _, rfl, _, rfl, (by show 5 ≤ sizeLine; decide), fun t nt => ?_⟩
          have st := same_upd (o := .tup [z3, z5, z7, z3, z5]) nt
          refine k _ _ (sk.trans st) (.tup (SqT.of upd_same) ?_)
          rw [ea, el]
          have w1 := dpS (sy.trans st) hz37
          have w2 := dpS (sy.trans st) hz57
          have w3 := dpS (sy.trans st) hz7
          exact .cons w1 (.cons w2 (.cons w3 (.cons w1 (.cons w2 .nil))))
        | some l =>
          rw [el] at hy
          obtain ⟨l0, l1⟩ := lb l el
          refine ⟨_, rfl, false, congrArg V.bl (oq_non hy), iteF ?_⟩
          refine ⟨_, rfl, _, rfl, z3, uy, N1, l, rfl, dpS sy hz37, hy, by omega, by omega, fun Ha xa sa ha => ?_⟩
          refine ⟨_, rfl, xa, z7, min N1 l, N3, rfl, ha, dpS (sy.trans sa) hz7, by omega, by omega, fun Hb xb sb hxb => ?_⟩
          refine ⟨_, rfl, _, rfl, _, rfl, _, rfl, _, rfl, _, rfl, z5, uy, N2, l, rfl, dpS ((sy.trans sa).trans sb) hz57, dpS (sa.trans sb) hy, by omega, by omega, fun Hc xc sc hc => ?_⟩
          refine ⟨_, rfl, xc, z7, min N2 l, N3, rfl, hc, dpS (((sy.trans sa).trans sb).trans sc) hz7, by omega, by omega, fun Hd xd sd hd => ?_⟩
          refine ⟨(by show 5 ≤ sizeLine; decide), fun t nt => ?_⟩
          have st := same_upd (o := .tup [z3, z5, z7, xb, xd]) nt
          have sd2 := ((sa.trans sb).trans sc).trans sd
          refine k _ _ ((sk.trans sd2).trans st) (.tup (SqT.of upd_same) ?_)
          rw [ea, el]
          have w1 := dpS ((sy.trans sd2).trans st) hz37
          have w2 := dpS ((sy.trans sd2).trans st) hz57
          have w3 := dpS ((sy.trans sd2).trans st) hz7
          exact .cons w1 (.cons w2 (.cons w3 (.cons (dpS ((sc.trans sd).trans st) hxb) (.cons (dpS st hd) .nil))))
      | none =>
        rw [es] at hz6
        cases hz6
        have et : toldI i col bs g lo = autoI i col bs g lo (i.st col + i.en col) := by unfold toldI; rw [es]
        rw [et] at ea
        have ba := autoI_b ok (col := col) (bs := bs) (g := g) (m := i.st col + i.en col) blo
        refine ⟨_, rfl, true, rfl, iteT ?_⟩
        refine ⟨_, rfl, _, rfl, _, rfl, _, rfl, _, rfl, q, _, _, v1, rfl, rfl, Same.seqT s16 hq, atI_nat (j := 0) rfl, _, rfl, ?_⟩
        refine ⟨a, c, p, i, col, us, bs, vg, v1, vm, g, lo, _, rfl, it.same s16, ok, s16.seq hp, hb.same s16, l60, okb, dpS s16 hg, bg, dpS s16 g1, blo, dpS s16 hm, by omega, by omega, fun H7 z7 s7 hz7 => ?_⟩
        have s17 := s16.trans s7
        generalize autoI i col bs g lo (i.st col + i.en col) = Y at ba ea hz7
        have by_ := bo Y ba
        refine ⟨_, rfl, _, rfl, z7, vm, Y, _, rfl, hz7, dpS s17 hm, ba, by omega, by omega, fun H8 z8 s8 hz8 => ?_⟩
        have s18 := s17.trans s8
        have hz8 : U K H8 z8 (ouI Y (i.st col + i.en col)) := hz8
        have hz38 := dpS ((s6.trans s7).trans s8) hz35
        have hz58 := dpS ((s6.trans s7).trans s8) hz5
        generalize ouI Y (i.st col + i.en col) = N3 at by_ ea hz8
        refine ⟨_, rfl, _, rfl, p, us, bs, vg, g, rfl, s18.seq hp, hb.same s18, l60, okb, dpS s18 hg, bg, fun Hy uy sy hy => ?_⟩
        have sk := s18.trans sy
        cases el : limI bs g with
        | none =>
          rw [el] at hy
          cases hy
          refine ⟨_, rfl, true, rfl, iteT ?_⟩
          refine ⟨_, rfl, _, rfl, _, rfl, _, rfl, _, rfl, (by show 5 ≤ sizeLine; decide), fun t nt => ?_⟩
          have st := same_upd (o := .tup [z3, z5, z8, z3, z5]) nt
          refine k _ _ (sk.trans st) (.tup (SqT.of upd_same) ?_)
          rw [ea, el]
          have w1 := dpS (sy.trans st) hz38
          have w2 := dpS (sy.trans st) hz58
          have w3 := dpS (sy.trans st) hz8
          exact .cons w1 (.cons w2 (.cons w3 (.cons w1 (.cons w2 .nil))))
        | some l =>
          rw [el] at hy
          obtain ⟨l0, l1⟩ := lb l el
          refine ⟨_, rfl, false, congrArg V.bl (oq_non hy), iteF ?_⟩
          refine ⟨_, rfl, _, rfl, z3, uy, N1, l, rfl, dpS sy hz38, hy, by omega, by omega, fun Ha xa sa ha => ?_⟩
          refine ⟨_, rfl, xa, z8, min N1 l, N3, rfl, ha, dpS (sy.trans sa) hz8, by omega, by omega, fun Hb xb sb hxb => ?_⟩
          refine ⟨_, rfl, _, rfl, _, rfl, _, rfl, _, rfl, _, rfl, z5, uy, N2, l, rfl, dpS ((sy.trans sa).trans sb) hz58, dpS (sa.trans sb) hy, by omega, by omega, fun Hc xc sc hc => ?_⟩
          refine ⟨_, rfl, xc, z8, min N2 l, N3, rfl, hc, dpS (((sy.trans sa).trans sb).trans sc) hz8, by omega, by omega, fun Hd xd sd hd => ?_⟩
          refine ⟨(by show 5 ≤ sizeLine; decide), fun t nt => ?_⟩
          have st := same_upd (o := .tup [z3, z5, z8, xb, xd]) nt
          have sd2 := ((sa.trans sb).trans sc).trans sd
          refine k _ _ ((sk.trans sd2).trans st) (.tup (SqT.of upd_same) ?_)
          rw [ea, el]
          have w1 := dpS ((sy.trans sd2).trans st) hz38
          have w2 := dpS ((sy.trans sd2).trans st) hz58
          have w3 := dpS ((sy.trans sd2).trans st) hz8
          exact .cons w1 (.cons w2 (.cons w3 (.cons (dpS ((sc.trans sd).trans st) hxb) (.cons (dpS st hd) .nil))))
end
end K5

set_option Elab.async false
set_option linter.all false
set_option maxRecDepth 100000
set_option maxHeartbeats 4000000
namespace K5
open PySem PySem.Spec PyProof.Rows L2
open K1 (FnP top Nm Sz wm dat)
/-! ### sizes are sizes -/
theorem okL_int {t : Int} (h : t.natAbs < 2 ^ 98) : okL (.int t) := fun _ => ⟨h, by show (1 : Int).natAbs < 2 ^ 98; decide⟩
theorem okL_none : okL .none := fun h => nomatch h
theorem okL_str {z : Str} : okL (.str z) := fun h => nomatch h
theorem okL_mk {z : Str} {ds : List PyData} : okL (.tuple (.str z :: ds)) := fun h => by
  cases ds with
  | nil => exact nomatch h
  | cons y ys =>
    cases ys with
    | nil => exact nomatch h
    | cons _ _ => exact nomatch h
theorem item_nq {n : Int} (h : Bn n) (i : Nat) : ∃ t : Int, t.natAbs < 2 ^ 98 ∧ (itemAt (nq n) i = .int t ∨ itemAt (nq n) i = .none) := by
  have z := nq_sz h
  unfold nq K1.dat
  by_cases e : (mkRat n 1728).den = 1
  · rw [if_pos e]
    exact ⟨0, by decide, .inr rfl⟩
  · rw [if_neg e]
    match i with
    | 0 => exact ⟨_, z.1, .inl rfl⟩
    | 1 => exact ⟨((mkRat n 1728).den : Int), by rw [Int.natAbs_natCast]; exact z.2.2, .inl rfl⟩
    | j + 2 => exact ⟨0, by decide, .inr rfl⟩
theorem okS_int {t : Int} (h : t.natAbs < 2 ^ 98) : okS (.int t) := ⟨okL_int h, fun _ => okL_none⟩
theorem okS_none : okS .none := ⟨okL_none, fun _ => okL_none⟩
theorem okS_str {z : Str} : okS (.str z) := ⟨okL_str, fun _ => okL_none⟩
theorem okS_nq {n : Int} (h : Bn n) : okS (nq n) := ⟨nq_okL h, fun i => by
  obtain ⟨t, ht, e | e⟩ := item_nq h i
  · rw [e]; exact okL_int ht
  · rw [e]; exact okL_none⟩
theorem okB_nq {n : Int} (h : Bn n) : okB (nq n) := ⟨okS_nq h, fun i => by
  obtain ⟨t, ht, e | e⟩ := item_nq h i
  · rw [e]; exact okS_int ht
  · rw [e]; exact okS_none⟩
theorem okS_two {z : Str} {d : PyData} (h : okL d) : okS (.tuple [.str z, d]) := ⟨okL_mk, fun i => match i with
  | 0 => okL_str
  | 1 => h
  | _ + 2 => okL_none⟩
theorem okB_two {z : Str} {d : PyData} (h : okS d) : okB (.tuple [.str z, d]) := ⟨okS_two h.1, fun i => match i with
  | 0 => okS_str
  | 1 => h
  | _ + 2 => okS_none⟩
theorem okB_three {z : Str} {d e : PyData} (h : okS d) (h' : okS e) : okB (.tuple [.str z, d, e]) := ⟨⟨okL_mk, fun i => match i with
  | 0 => okL_str
  | 1 => h.1
  | 2 => h'.1
  | _ + 3 => okL_none⟩, fun i => match i with
  | 0 => okS_str
  | 1 => h
  | 2 => h'
  | _ + 3 => okS_none⟩
theorem pv_okB {ow : Option Int} {p : Pv} (h : OkPv ow p) : okB p.d := by
  cases p with
  | wd z => exact ⟨okS_str, fun _ => okS_none⟩
  | num n =>
    obtain ⟨a, b⟩ := h
    exact okB_nq (by omega)
  | part n =>
    obtain ⟨a, b, _⟩ := h
    exact okB_two (okS_nq (by omega))
  | shr n =>
    obtain ⟨a, b⟩ := h
    exact okB_two (okS_nq (by omega))
theorem sv_okB {ow : Option Int} {sv : Sv} (h : OkSv ow sv) : okB sv.d := by
  cases sv with
  | pl p => exact pv_okB h
  | bt l hh => exact okB_three (pv_okB h.1).1 (pv_okB h.2.2).1
  | up p => exact okB_two (pv_okB h.1).1
theorem num_fixed {n : Int} (h : 0 ≤ n) : isFixed (nq n) = true := by
  unfold isFixed
  rw [nq_len, decide_eq_true h]
  rfl
theorem part_fixed {n : Int} (h : 0 ≤ n) : isFixed (.tuple [.str "part", nq n]) = true := by
  unfold isFixed isPart
  rw [part_mark, show itemAt (.tuple [.str "part", nq n]) 1 = nq n from rfl, nq_len, decide_eq_true h, Bool.and_self, Bool.or_true]
theorem shr_share {n : Int} (h : 0 ≤ n) : isShare (.tuple [.str "share", nq n]) = true := by
  unfold isShare
  rw [share_mark, show itemAt (.tuple [.str "share", nq n]) 1 = nq n from rfl, nq_len, decide_eq_true h]
  rfl
theorem wd_plain {z : Str} (h : z ∈ sizeWords) : isPlain (.str z) = true := by
  have : (sizeWords.any fun w => w == z) = true := List.any_eq_true.mpr ⟨z, h, beq_self_eq_true z⟩
  show (isFixed (.str z) || (sizeWords.any fun w => w == z)) = true
  rw [this, Bool.or_true]
theorem pv_plain {ow : Option Int} {p : Pv} (h : OkPv ow p) : (isNs p → isPlain p.d = true) ∧ (isPlain p.d || isShare p.d) = true ∧ (isLp p → isFixed p.d = true) := by
  cases p with
  | wd z => exact ⟨fun _ => wd_plain h, by rw [show isPlain (Pv.wd z).d = true from wd_plain h, Bool.true_or], fun q => q.elim⟩
  | num n =>
    have e : isPlain (nq n) = true := by unfold isPlain; rw [num_fixed h.1, Bool.true_or]
    exact ⟨fun _ => e, by rw [show isPlain (Pv.num n).d = true from e, Bool.true_or], fun _ => num_fixed h.1⟩
  | part n =>
    have e : isPlain (.tuple [.str "part", nq n]) = true := by unfold isPlain; rw [part_fixed h.1, Bool.true_or]
    exact ⟨fun _ => e, by rw [show isPlain (Pv.part n).d = true from e, Bool.true_or], fun _ => part_fixed h.1⟩
  | shr n => exact ⟨fun q => q.elim, by rw [show isShare (Pv.shr n).d = true from shr_share h.1, Bool.or_true], fun q => q.elim⟩
theorem sv_size {ow : Option Int} {sv : Sv} (h : OkSv ow sv) : isSize sv.d = true := by
  have ed : ∀ d, isSize d = (isPlain d || (isShare d || (isBetw d || isUpto d))) := fun _ => rfl
  cases sv with
  | pl p =>
    have := (pv_plain h).2.1
    show isSize p.d = true
    rw [ed, ← Bool.or_assoc, this, Bool.true_or]
  | bt l hh =>
    obtain ⟨h1, h2, h3⟩ := h
    have e : isBetw (.tuple [.str "between", l.d, hh.d]) = true := by
      show ((decide ((3 : Int) = 3) && isWord (.str "between") ["between"]) && (isPlain l.d && (isPlain hh.d || isShare hh.d))) = true
      rw [(pv_plain h1).1 h2, (pv_plain h3).2.1]
      decide +kernel
    show isSize (.tuple [.str "between", l.d, hh.d]) = true
    rw [ed, e, Bool.true_or, Bool.or_true, Bool.or_true]
  | up p =>
    obtain ⟨h1, h2⟩ := h
    have e : isUpto (.tuple [.str "upto", p.d]) = true := by
      show ((decide ((2 : Int) = 2) && isWord (.str "upto") ["upto"]) && isFixed p.d) = true
      rw [(pv_plain h1).2.2 h2]
      decide +kernel
    show isSize (.tuple [.str "upto", p.d]) = true
    rw [ed, e, Bool.or_true, Bool.or_true, Bool.or_true]
section
variable {P : Program} {w : World} {K : PySem.W.Frag} {mg : Str → Option Value} {base : Heap} {CW CB CI CP CD fI fW fWE fB fBE : Addr}
/-- a content whose least and most widths are told -/
def ThAt (CW CB : Addr) (H : Hp) (c : Addr) (lo hi : Int) : Prop :=
  (∃ (t : Addr) (xs : List V) (vb vl vg : V) (ws : Nat → Rat) (b li g : Rat), K1.WordsAt CW H c t xs vb vl vg ws b li g ∧ xs.length ≤ 20 ∧ K1.FrW ws b ∧ K1.mx ws xs.length = mkRat lo 1728 ∧ K1.lo b ws xs.length = mkRat hi 1728) ∨
  (∃ (vw vh : V) (q r : Rat), K1.BlockAt CB H c vw vh q r ∧ q = mkRat lo 1728 ∧ hi = lo)
theorem ThAt.same {H H' : Hp} {c : Addr} {lo hi : Int} (h : ThAt CW CB H c lo hi) (s : Same H H') : ThAt CW CB H' c lo hi := by
  rcases h with ⟨t, xs, vb, vl, vg, ws, b, li, g, h1, h2⟩ | ⟨vw, vh, q, r, h1, h2⟩
  · exact .inl ⟨t, xs, vb, vl, vg, ws, b, li, g, h1.same s, h2⟩
  · exact .inr ⟨vw, vh, q, r, h1.same s, h2⟩
def spOs (K : PySem.W.Frag) (CW CB : Addr) : Sp := fun vs H Q _ => ∃ (c : Addr) (x : V) (lo hi : Int), vs = [.ref c, .str "column", x] ∧ ThAt CW CB H c lo hi ∧ ∀ H' q v1 v2, Same H H' → SqT K H' q [v1, v2] → U K H' v1 lo → U K H' v2 hi → Q (.ref q) H'
theorem scOs : FnScope ["content", "axis", "inner", "height"] ["content", "axis", "inner"] (defScope (top 133)) := ⟨rfl, rfl, rfl, by decide +kernel, rfl, by decide +kernel, by decide +kernel⟩
theorem ok_os {f f1 f2 f3 : Addr} {fd d1 d2 d3 : FuncData} (F : FnP K "own_sizes" (top 133) f fd) (N : Nm mg) (e_least_width : K1.D1 P w K mg base "least_width" "content" 3 (K1.spLW CW CB fun ws _ n => K1.mx ws n) f1 d1) (e_most_width : K1.D1 P w K mg base "most_width" "content" 3 (K1.spLW CW CB fun ws b n => K1.lo b ws n) f2 d2) (d_height_in : D2 P w K mg base "height_in" "content" "width" 1 spNo f3 d3) :
    FnOk P w K mg base CX0 4 f fd ["content", "axis", "inner"] (spOs K CW CB) := by
  refine F.ok scOs (fun vs H Q E h => ?_) (fun cdv A outer s H vs Q E hr h => ?_)
  · obtain ⟨c, x, lo, hi, rfl, _⟩ := h
    rfl
  · obtain ⟨c, x, lo, hi, rfl, ht, k⟩ := h
    have d_least_width := e_least_width
    have d_most_width := e_most_width
    refine ⟨_, PSs.nox (pss_cons (ps_if (pt_cmpR op_eq (pv 1) pe_str (nomark _))
    (pss_one (ps_ret (pe_tup (pa_cons (pe_call d_least_width.G (hr.mono (by decide)) (by rfl) d_least_width.g d_least_width.kp d_least_width.b .nil pass0 (pa_cons (pv 0) pa_nil)) (pa_cons (pe_call d_most_width.G (hr.mono (by decide)) (by rfl) d_most_width.g d_most_width.kp d_most_width.b .nil pass0 (pa_cons (pv 0) pa_nil)) pa_nil)))))
    pss_nil)
  (pss_cons (ps_set (i := 3) scOs.nd rfl (Or.inl rfl) (pe_call d_height_in.G (hr.mono (by decide)) (by rfl) d_height_in.g d_height_in.kp d_height_in.b .nil pass0 (pa_cons (pv 0) (pa_cons (pv 2) pa_nil))))
  (pss_one (ps_ret (pe_tup (pa_cons (pv 3) (pa_cons (pv 3) pa_nil))))))), ?_⟩
    refine ⟨_, rfl, rfl, true, rfl, iteT ?_⟩
    rcases ht with ⟨t, xs, vb, vl, vg, ws, b, li, g, h1, h2, h3, h4, h5⟩ | ⟨vw, vh, q, r, h1, h2, h3⟩
    · refine ⟨_, rfl, c, rfl, .inl ⟨t, xs, vb, vl, vg, ws, b, li, g, h1, h2, h3, fun H1 v1 s1 g1 => ?_⟩⟩
      refine ⟨_, rfl, c, rfl, .inl ⟨t, xs, vb, vl, vg, ws, b, li, g, h1.same s1, h2, h3, fun H2 v2 s2 g2 => ⟨(by show 2 ≤ sizeLine; decide), fun q nq' => ?_⟩⟩⟩
      have st := same_upd (o := .tup [v1, v2]) nq'
      have g1 : K1.NumAt H1 v1 (K1.mx ws xs.length) := g1
      have g2 : K1.NumAt H2 v2 (K1.lo b ws xs.length) := g2
      rw [h4] at g1
      rw [h5] at g2
      exact k _ q v1 v2 ((s1.trans s2).trans st) (SqT.of upd_same) (dpS (s2.trans st) g1.dp) (dpS st g2.dp)
    · refine ⟨_, rfl, c, rfl, .inr ⟨vw, vh, q, r, h1, fun H1 s1 => ?_⟩⟩
      refine ⟨_, rfl, c, rfl, .inr ⟨vw, vh, q, r, h1.same s1, fun H2 s2 => ⟨(by show 2 ≤ sizeLine; decide), fun t nt => ?_⟩⟩⟩
      have st := same_upd (o := .tup [vw, vw]) nt
      have hw := h1.2.1
      rw [h2] at hw
      have hu := dpS ((s1.trans s2).trans st) (hw.dp (K := K))
      exact k _ t vw vw ((s1.trans s2).trans st) (SqT.of upd_same) hu (by rw [h3]; exact hu)
def spCs (K : PySem.W.Frag) : Sp := fun vs H Q _ => ∃ (p : Addr) (xs : List V) (ss : List Sv) (ow : Option Int), vs = [.ref p] ∧ SqT K H p xs ∧ DpAll K H xs (ss.map Sv.d) ∧ 0 < ss.length ∧ ss.length ≤ 60 ∧ (∀ sv ∈ ss, OkSv ow sv) ∧ ∀ H', Same H H' → Q .non H'
theorem scCs : FnScope ["sizes", "index", "size"] ["sizes"] (defScope (top 135)) := ⟨rfl, rfl, rfl, by decide +kernel, rfl, by decide +kernel, by decide +kernel⟩
theorem ok_cs {f f1 : Addr} {fd d1 : FuncData} (F : FnP K "check_sizes" (top 135) f fd) (N : Nm mg) (d_is_size : D1 P w K mg base "is_size" "value" 8 (spQ K okB isSize) f1 d1) : FnOk P w K mg base CX0 9 f fd ["sizes"] (spCs K) := by
  refine F.ok scCs (fun vs H Q E h => ?_) (fun cdv A outer s H vs Q E hr h => ?_)
  · obtain ⟨p, xs, ss, ow, rfl, _⟩ := h
    rfl
  · obtain ⟨p, xs, ss, ow, rfl, ht, hx, l0, l60, ok, k⟩ := h
    refine ⟨_, PSs.nox (pss_cons (ps_if (PW.pt (pw_or (pt_not (pt_val (pe_callB call_isi (by rfl) N.isi (by decide +kernel) (pa_cons (pv 0) (pa_cons (pe_bltn (v := .ty "tuple") (u := .type "tuple") (by rfl) N.ttup (by decide +kernel) rfl) pa_nil))))) (pw_or1 (pt_cmpR op_eq (pe_callB call_len_seq (by rfl) N.len PySem.boot_len (pa_cons (pv 0) pa_nil)) pe_int (nomark _)))))
    pss_never
    pss_nil)
  (pss_one (ps_for PassesOwn.never rfl (pi_enumT (by rfl) N.enu (pa_cons (pv 0) pa_nil))
    (pg_tup rfl (pgs_cons (pg_name (i := 1) scCs.nd rfl (Or.inl rfl)) (pgs_cons (pg_name (i := 2) scCs.nd rfl (Or.inl rfl)) pgs_nil)))
    (pss_one (ps_if (pt_not (pt_val (pe_call d_is_size.G (hr.mono (by decide)) (by rfl) d_is_size.g d_is_size.kp d_is_size.b .nil pass0 (pa_cons (pv 2) pa_nil))))
    pss_never
    pss_nil))))), ?_⟩
    have hl : xs.length = ss.length := by rw [dpLen hx, List.length_map]
    refine ⟨_, rfl, _, _, _, _, true, rfl, .ty _, tyT ht, kit_ty (by decide +kernel), true, rfl, iteF ?_⟩
    refine ⟨_, rfl, p, xs, rfl, .inr ht, rfl, _, rfl, ite2 (fun c => ?_) (fun _ => ?_)⟩
    · have c : V.int (xs.length : Nat) = V.int 0 := of_decide_eq_true c
      injection c with c
      exact absurd c (by omega)
    refine ⟨_, rfl, p, xs, rfl, ht, for_enumT (K := K) (a := p) (xs := xs) (fun i σ H' => Same H H' ∧ ∃ v1 v2, σ = [some (.ref p), v1, v2]) ⟨Same.refl H, _, _, rfl⟩ (fun i σ H' _ h => Same.seqT h.1 ht) ?_ ?_⟩
    · rintro i x T σ H1 hi ⟨s1, v1, v2, rfl⟩ nT
      have hi' := (List.getElem?_eq_some_iff.mp hi).1
      have he : ss[i]? = some (ss[i]'(by omega)) := List.getElem?_eq_getElem _
      have hm : ss[i]'(by omega) ∈ ss := List.getElem_mem _
      generalize ss[i]'(by omega) = sv at he hm
      obtain ⟨u, eu, hu⟩ := dpAt i hx (d := sv.d) (by rw [List.getElem?_map, he]; rfl)
      rw [hi] at eu
      cases eu
      refine ⟨T, _, rfl, SqT.of upd_same, rfl, _, _, rfl, _, _, rfl, rfl, ?_⟩
      have s2 := s1.trans (same_upd (o := .tup [.int (i : Nat), x]) nT)
      refine ⟨_, rfl, x, sv.d, rfl, dpS s2 hu, sv_okB (ok sv hm), fun H2 s3 => ⟨_, rfl, ite2 (fun c => absurd (show (!isSize sv.d) = true from c) (by rw [sv_size (ok sv hm)]; decide)) (fun _ => ⟨s2.trans s3, _, _, rfl⟩)⟩⟩
    · rintro σ H1 ⟨s1, v1, v2, rfl⟩
      exact k _ s1
def spCA : Sp := fun vs H Q _ => ∃ (col : Bool), vs = [.str (axS col)] ∧ ∀ H', Same H H' → Q .non H'
theorem scCA : FnScope ["axis"] ["axis"] (defScope (top 111)) := ⟨rfl, rfl, rfl, by decide +kernel, rfl, by decide +kernel, by decide +kernel⟩
theorem ok_ca {f f1 aX : Addr} {fd d1 : FuncData} (F : FnP K "check_axis" (top 111) f fd) (N : Nm mg) (gX : mg "AXES" = some (.ref aX)) (hX : ∀ H, SqT K H aX ([("column" : Str), "row"].map V.str)) (d_is_word : D2 P w K mg base "is_word" "value" "words" 1 (spWord K) f1 d1) : FnOk P w K mg base CX0 2 f fd ["axis"] spCA := by
  refine F.ok scCA (fun vs H Q E h => ?_) (fun cdv A outer s H vs Q E hr h => ?_)
  · obtain ⟨col, rfl, _⟩ := h
    rfl
  · obtain ⟨col, rfl, k⟩ := h
    refine ⟨_, PSs.nox (pss_one (ps_if (pt_not (pt_val (pe_call d_is_word.G (hr.mono (by decide)) (by rfl) d_is_word.g d_is_word.kp d_is_word.b .nil pass0 (pa_cons (pv 0) (pa_cons (pe_glob (by rfl) gX (v := .ref aX) rfl) pa_nil)))))
    pss_never
    pss_nil)), ?_⟩
    refine ⟨_, rfl, _, .str (axS col), aX, ["column", "row"], rfl, .str _, hX _, true, ?_, iteF (k H (Same.refl H))⟩
    cases col <;> decide +kernel
theorem scIw : FnScope ["value"] ["value"] (defScope (top 119)) := ⟨rfl, rfl, rfl, by decide +kernel, rfl, by decide +kernel, by decide +kernel⟩
theorem ok_iw {f f1 : Addr} {fd d1 : FuncData} (F : FnP K "is_whole" (top 119) f fd) (d_is_length : D1 P w K mg base "is_length" "value" 3 (spQ K okL isLen) f1 d1) : FnOk P w K mg base CX0 4 f fd ["value"] (spTl K) := by
  refine F.ok scIw (fun vs H Q E h => ?_) (fun cdv A outer s H vs Q E hr h => ?_)
  · obtain ⟨v, o, rfl, _⟩ := h
    rfl
  · obtain ⟨v, o, rfl, hv, ho, k⟩ := h
    refine ⟨_, PSs.nox (pss_one (ps_ret (pe_or (pe_cmp (pc_isN (pv 0)) rfl) (pe_one (pe_call d_is_length.G (hr.mono (by decide)) (by rfl) d_is_length.g d_is_length.kp d_is_length.b .nil pass0 (pa_cons (pv 0) pa_nil)))))), ?_⟩
    cases o with
    | none =>
      cases hv
      exact ⟨_, rfl, true, rfl, iteT (k _ (Same.refl H))⟩
    | some n =>
      obtain ⟨n0, n1⟩ := ho n rfl
      have hv : U K H v n := hv
      refine ⟨_, rfl, false, congrArg V.bl (oq_non (n := n) hv), iteF ⟨_, rfl, _, nq n, rfl, hv, nq_okL (by omega), fun H' s => ?_⟩⟩
      have := k H' s
      rw [← decide_eq_true n0, ← nq_len] at this
      exact this
def spCw (K : PySem.W.Frag) : Sp := fun vs H Q _ => ∃ (v : V) (o : Option Int), vs = [v] ∧ Dp K H v (oq o) ∧ Bo o ∧ ∀ H', Same H H' → Q .non H'
theorem scCw : FnScope ["whole"] ["whole"] (defScope (top 120)) := ⟨rfl, rfl, rfl, by decide +kernel, rfl, by decide +kernel, by decide +kernel⟩
theorem ok_cw {f f1 : Addr} {fd d1 : FuncData} (F : FnP K "check_whole" (top 120) f fd) (d_is_whole : D1 P w K mg base "is_whole" "value" 4 (spTl K) f1 d1) : FnOk P w K mg base CX0 5 f fd ["whole"] (spCw K) := by
  refine F.ok scCw (fun vs H Q E h => ?_) (fun cdv A outer s H vs Q E hr h => ?_)
  · obtain ⟨v, o, rfl, _⟩ := h
    rfl
  · obtain ⟨v, o, rfl, hv, ho, k⟩ := h
    refine ⟨_, PSs.nox (pss_one (ps_if (pt_not (pt_val (pe_call d_is_whole.G (hr.mono (by decide)) (by rfl) d_is_whole.g d_is_whole.kp d_is_whole.b .nil pass0 (pa_cons (pv 0) pa_nil))))
    pss_never
    pss_nil)), ?_⟩
    exact ⟨_, rfl, v, o, rfl, hv, ho, fun H' s => ⟨true, rfl, iteF (k H' s)⟩⟩
/-- nothing told: columns want no inner width -/
def spCn : Sp := fun vs H Q _ => vs = [.non, .str "column", .non] ∧ ∀ H', Same H H' → Q .non H'
theorem scCn : FnScope ["inner", "axis", "own", "is_needed"] ["inner", "axis", "own"] (defScope (top 136)) := ⟨rfl, rfl, rfl, by decide +kernel, rfl, by decide +kernel, by decide +kernel⟩
theorem ok_cn {f f1 : Addr} {fd d1 : FuncData} (F : FnP K "check_inner" (top 136) f fd) (d_is_length : D1 P w K mg base "is_length" "value" 3 (spQ K okL isLen) f1 d1) : FnOk P w K mg base CX0 4 f fd ["inner", "axis", "own"] spCn := by
  refine F.ok scCn (fun vs H Q E h => ?_) (fun cdv A outer s H vs Q E hr h => ?_)
  · obtain ⟨rfl, _⟩ := h
    rfl
  · obtain ⟨rfl, k⟩ := h
    refine ⟨_, PSs.nox (pss_cons (ps_set (i := 3) scCn.nd rfl (Or.inl rfl) (pe_and (pe_cmpR op_eq (pv 1) pe_str (nomark _)) (pe_one (pe_cmp (pc_isN (pv 2)) rfl))))
  (pss_one (ps_if (PW.pt (pw_and (pt_not (pt_val (pe_call d_is_length.G (hr.mono (by decide)) (by rfl) d_is_length.g d_is_length.kp d_is_length.b .nil pass0 (pa_cons (pv 0) pa_nil)))) (pw_and1 (PW.pt (pw_or (pt_val (pv 3)) (pw_or1 (pt_cmp (pc_notN (pv 0)))))))))
    pss_never
    pss_nil))), ?_⟩
    refine ⟨_, rfl, rfl, false, rfl, iteF ?_⟩
    refine ⟨_, rfl, .non, .none, rfl, .non, okL_none, fun H1 s1 => ⟨false, rfl, iteT ?_⟩⟩
    refine ⟨_, rfl, false, rfl, iteF ?_⟩
    exact ⟨_, rfl, false, rfl, iteF (k H1 s1)⟩
end
end K5

set_option Elab.async false
set_option linter.all false
set_option maxRecDepth 100000
set_option maxHeartbeats 8000000
namespace K5
open PySem PySem.Spec PyProof.Rows L2
open K1 (FnP top Nm Sz wm dat)
section
variable {P : Program} {w : World} {K : PySem.W.Frag} {mg : Str → Option Value} {base : Heap} {CW CB CI CP CD fI fW fWE fB fBE : Addr}
def spCo (K : PySem.W.Frag) (CW CB CI : Addr) : Sp := fun vs H Q _ => ∃ (a c p : Addr) (xs : List V) (i : Im) (ss : List Sv) (vg wv : V) (g lo hi : Int) (ow : Option Int), vs = [.ref a, .str "column", .ref p, vg, wv, .non, .non] ∧ ItAt K CI H a c i ∧ OkIm i ∧ SqT K H p xs ∧ DpAll K H xs (ss.map Sv.d) ∧ 0 < ss.length ∧ ss.length ≤ 60 ∧ (∀ sv ∈ ss, OkSv ow sv) ∧
  U K H vg g ∧ B2 g ∧ Dp K H wv (oq ow) ∧ Bo ow ∧ ThAt CW CB H c lo hi ∧ B2 lo ∧ B2 hi ∧ ∀ H' u, Same H H' → Dp K H' u (.tuple (askI i true (ss.map (Sv.bd ow)) g lo hi).ds) → Q u H'
theorem scCo : FnScope ["item", "axis", "sizes", "gap", "whole", "inner", "own"] ["item", "axis", "sizes", "gap", "whole", "inner", "own"] (defScope (top 137)) := ⟨rfl, rfl, rfl, by decide +kernel, rfl, by decide +kernel, by decide +kernel⟩
theorem ok_co {f f1 f2 f3 f4 f5 f6 f7 f8 f9 f10 : Addr} {fd d1 d2 d3 d4 d5 d6 d7 d8 d9 d10 : FuncData} {dvs : List V} {kws : List (Str × V)} (F : FunD K "contributions" "contributions" (defArgs (top 137)) (defBody (top 137)) (defScope (top 137)) dvs kws f fd) (N : Nm mg) (T : TI K mg "Item" CI fI inames) (T2 : K1.T2 K mg CW CB fW fWE fB fBE) (Kd : Kinds K mg CW CB CP)
    (d_check_axis : D1 P w K mg base "check_axis" "axis" 2 spCA f1 d1) (d_check_sizes : D1 P w K mg base "check_sizes" "sizes" 9 (spCs K) f2 d2) (d_is_length : D1 P w K mg base "is_length" "value" 3 (spQ K okL isLen) f3 d3) (d_check_whole : D1 P w K mg base "check_whole" "whole" 5 (spCw K) f4 d4) (d_check_inner : D3 P w K mg base "check_inner" "inner" "axis" "own" 4 spCn f5 d5) (d_is_own : D1 P w K mg base "is_own" "value" 1 spNo f6 d6)
    (d_own_sizes : D3 P w K mg base "own_sizes" "content" "axis" "inner" 4 (spOs K CW CB) f7 d7) (d_asked_of : DN P w K mg base "asked_of" ["item", "axis", "bounds", "gap", "own", "margins"] 6 (spAk K CI CD) f8 d8) (d_all_bounds : D2 P w K mg base "all_bounds" "sizes" "whole" 6 (spAb K CD) f9 d9) (d_margins_of : D2 P w K mg base "margins_of" "item" "axis" 3 (spMo K CI) f10 d10) :
    FnOk P w K mg base CX0 10 f fd ["item", "axis", "sizes", "gap", "whole", "inner", "own"] (spCo K CW CB CI) := by
  refine F.ok scCo (fun vs H Q E h => ?_) (fun cdv A outer s H vs Q E hr h => ?_)
  · obtain ⟨a, c, p, xs, i, ss, vg, wv, g, lo, hi, ow, rfl, _⟩ := h
    rfl
  · obtain ⟨a, c, p, xs, i, ss, vg, wv, g, lo, hi, ow, rfl, it, ok, ht, hx, l0, l60, oks, hg, bg, hw, bo, th, blo, bhi, k⟩ := h
    refine ⟨_, PSs.nox (pss_cons (ps_if (pt_not (pt_val (pe_callB call_isi (by rfl) N.isi (by decide +kernel) (pa_cons (pv 0) (pa_cons (pe_glob (by rfl) T.gC (v := .ref CI) rfl) pa_nil)))))
    pss_never
    pss_nil)
  (pss_cons (ps_expr (pe_call d_check_axis.G (hr.mono (by decide)) (by rfl) d_check_axis.g d_check_axis.kp d_check_axis.b .nil pass0 (pa_cons (pv 1) pa_nil)))
  (pss_cons (ps_expr (pe_call d_check_sizes.G (hr.mono (by decide)) (by rfl) d_check_sizes.g d_check_sizes.kp d_check_sizes.b .nil pass0 (pa_cons (pv 2) pa_nil)))
  (pss_cons (ps_if (pt_not (pt_val (pe_call d_is_length.G (hr.mono (by decide)) (by rfl) d_is_length.g d_is_length.kp d_is_length.b .nil pass0 (pa_cons (pv 3) pa_nil))))
    pss_never
    pss_nil)
  (pss_cons (ps_expr (pe_call d_check_whole.G (hr.mono (by decide)) (by rfl) d_check_whole.g d_check_whole.kp d_check_whole.b .nil pass0 (pa_cons (pv 4) pa_nil)))
  (pss_cons (ps_expr (pe_call d_check_inner.G (hr.mono (by decide)) (by rfl) d_check_inner.g d_check_inner.kp d_check_inner.b .nil pass0 (pa_cons (pv 5) (pa_cons (pv 1) (pa_cons (pv 6) pa_nil)))))
  (pss_cons (ps_if (PW.pt (pw_and (pt_cmp (pc_notN (pv 6))) (pw_and1 (pt_not (pt_val (pe_call d_is_own.G (hr.mono (by decide)) (by rfl) d_is_own.g d_is_own.kp d_is_own.b .nil pass0 (pa_cons (pv 6) pa_nil)))))))
    pss_never
    pss_nil)
  (pss_cons (ps_if (pt_cmp (pc_isN (pv 6)))
    (pss_cons (ps_if (pt_val (pe_callB call_isi (by rfl) N.isi (by decide +kernel) (pa_cons (pe_fld (pv 0) rfl) (pa_cons (pe_glob (by rfl) Kd.gP (v := .ref CP) rfl) pa_nil))))
    pss_never
    pss_nil)
  (pss_one (ps_set (i := 6) scCo.nd rfl (Or.inl rfl) (pe_call d_own_sizes.G (hr.mono (by decide)) (by rfl) d_own_sizes.g d_own_sizes.kp d_own_sizes.b .nil pass0 (pa_cons (pe_fld (pv 0) rfl) (pa_cons (pv 1) (pa_cons (pv 5) pa_nil)))))))
    pss_nil)
  (pss_one (ps_ret (pe_call d_asked_of.G (hr.mono (by decide)) (by rfl) d_asked_of.g d_asked_of.kp d_asked_of.b .nil pass0 (pa_cons (pv 0) (pa_cons (pv 1) (pa_cons (pe_call d_all_bounds.G (hr.mono (by decide)) (by rfl) d_all_bounds.g d_all_bounds.kp d_all_bounds.b .nil pass0 (pa_cons (pv 2) (pa_cons (pv 4) pa_nil))) (pa_cons (pv 3) (pa_cons (pv 6) (pa_cons (pe_call d_margins_of.G (hr.mono (by decide)) (by rfl) d_margins_of.g d_margins_of.kp d_margins_of.b .nil pass0 (pa_cons (pv 0) (pa_cons (pv 1) pa_nil))) pa_nil))))))))))))))))), ?_⟩
    obtain ⟨dx, fs, h1, lk⟩ := itC it
    refine ⟨_, rfl, _, _, _, _, true, rfl, .own _, T.ty h1, T.self, true, rfl, iteF ?_⟩
    refine ⟨_, rfl, true, rfl, fun H1 s1 => ?_⟩
    refine ⟨_, rfl, p, xs, ss, ow, rfl, Same.seqT s1 ht, dpSA s1 hx, l0, l60, oks, fun H2 s2 => ?_⟩
    have s2 := s1.trans s2
    refine ⟨_, rfl, vg, nq g, rfl, dpS s2 hg, nq_okL (by omega), fun H3 s3 => ⟨_, rfl, ite2 (fun cc => absurd (show (!isLen (nq g)) = true from cc) (by rw [nq_len, decide_eq_true bg.1]; decide)) (fun _ => ?_)⟩⟩
    have s3 := s2.trans s3
    refine ⟨_, rfl, wv, ow, rfl, dpS s3 hw, bo, fun H4 s4 => ?_⟩
    have s4 := s3.trans s4
    refine ⟨_, rfl, _, rfl, _, rfl, rfl, fun H5 s5 => ?_⟩
    have s5 := s4.trans s5
    refine ⟨_, rfl, false, rfl, iteF (iteF ?_)⟩
    refine ⟨_, rfl, true, rfl, iteT ?_⟩
    have tyk : ∃ t, TyX K H5 (.ref c) t ∧ PySem.W.kitOne K t (.ref CP) = some false := by
      rcases th.same s5 with ⟨t, xs, vb, vl, vg, ws, b, li, g, ⟨⟨dc, hc⟩, _⟩, _⟩ | ⟨vw, vh, q, r, ⟨⟨dc, hc⟩, _⟩, _⟩
      · exact ⟨_, T2.W.ty hc, Kd.WP⟩
      · exact ⟨_, T2.B.ty hc, Kd.BP⟩
    obtain ⟨tt, hty, hk⟩ := tyk
    refine ⟨_, rfl, a, CI, dx, _, _, rfl, s5 _ _ h1, T.cl, T.na "content" (by decide), lk, _, _, _, _, false, rfl, .own _, hty, hk, false, rfl, iteF ?_⟩
    refine ⟨_, rfl, a, CI, dx, _, _, rfl, s5 _ _ h1, T.cl, T.na "content" (by decide), lk, _, rfl, _, rfl, c, _, lo, hi, rfl, th.same s5, fun H6 q v1 v2 s6 hq g1 g2 => ?_⟩
    have s6' := s5.trans s6
    refine ⟨_, rfl, _, rfl, _, rfl, _, rfl, p, wv, xs, ss, ow, rfl, Same.seqT s6' ht, dpSA s6' hx, l60, oks, dpS s6' hw, bo, fun H7 qb us s7 hqb hbs => ?_⟩
    have s7' := s6'.trans s7
    refine ⟨_, rfl, _, rfl, _, rfl, _, rfl, a, c, i, true, rfl, it.same s7', ok, fun H8 um s8 hum => ?_⟩
    have s8' := s7'.trans s8
    refine ⟨a, c, qb, q, i, true, us, ss.map (Sv.bd ow), vg, v1, v2, um, g, lo, hi, rfl, it.same s8', ok, SqL.of (s8 _ _ hqb), hbs.same s8, by rw [List.length_map]; exact l60, fun b hb => ?_, dpS s8' hg, bg, Same.seqT (s7.trans s8) hq, dpS (s7.trans s8) g1, dpS (s7.trans s8) g2, blo, bhi, hum, fun H9 u s9 hu => k H9 u (s8'.trans s9) hu⟩
    obtain ⟨sv, hsv, rfl⟩ := List.mem_map.mp hb
    exact sv_ok (oks sv hsv)
end
/-! ### how Item binds -/
theorem len1 {ks : List Value} (h : ks.length = 1) : ∃ k0, ks = [k0] := by
  cases ks with
  | nil => exact absurd h (by simp)
  | cons k0 ks =>
    cases ks with
    | cons _ _ => exact absurd h (by simp only [List.length_cons]; omega)
    | nil => exact ⟨_, rfl⟩

theorem len2 {ks : List Value} (h : ks.length = 2) : ∃ k0 k1, ks = [k0, k1] := by
  cases ks with
  | nil => exact absurd h (by simp)
  | cons k0 ks =>
    cases ks with
    | nil => exact absurd h (by simp)
    | cons k1 ks =>
      cases ks with
      | cons _ _ => exact absurd h (by simp only [List.length_cons]; omega)
      | nil => exact ⟨_, _, rfl⟩

theorem len4 {ks : List Value} (h : ks.length = 4) : ∃ k0 k1 k2 k3, ks = [k0, k1, k2, k3] := by
  cases ks with
  | nil => exact absurd h (by simp)
  | cons k0 ks =>
    cases ks with
    | nil => exact absurd h (by simp)
    | cons k1 ks =>
      cases ks with
      | nil => exact absurd h (by simp)
      | cons k2 ks =>
        cases ks with
        | nil => exact absurd h (by simp)
        | cons k3 ks =>
          cases ks with
          | cons _ _ => exact absurd h (by simp only [List.length_cons]; omega)
          | nil => exact ⟨_, _, _, _, rfl⟩

theorem len11 {ks : List Value} (h : ks.length = 11) : ∃ k0 k1 k2 k3 k4 k5 k6 k7 k8 k9 k10, ks = [k0, k1, k2, k3, k4, k5, k6, k7, k8, k9, k10] := by
  cases ks with
  | nil => exact absurd h (by simp)
  | cons k0 ks =>
    cases ks with
    | nil => exact absurd h (by simp)
    | cons k1 ks =>
      cases ks with
      | nil => exact absurd h (by simp)
      | cons k2 ks =>
        cases ks with
        | nil => exact absurd h (by simp)
        | cons k3 ks =>
          cases ks with
          | nil => exact absurd h (by simp)
          | cons k4 ks =>
            cases ks with
            | nil => exact absurd h (by simp)
            | cons k5 ks =>
              cases ks with
              | nil => exact absurd h (by simp)
              | cons k6 ks =>
                cases ks with
                | nil => exact absurd h (by simp)
                | cons k7 ks =>
                  cases ks with
                  | nil => exact absurd h (by simp)
                  | cons k8 ks =>
                    cases ks with
                    | nil => exact absurd h (by simp)
                    | cons k9 ks =>
                      cases ks with
                      | nil => exact absurd h (by simp)
                      | cons k10 ks =>
                        cases ks with
                        | cons _ _ => exact absurd h (by simp only [List.length_cons]; omega)
                        | nil => exact ⟨_, _, _, _, _, _, _, _, _, _, _, rfl⟩

theorem len10 {ks : List Value} (h : ks.length = 10) : ∃ k0 k1 k2 k3 k4 k5 k6 k7 k8 k9, ks = [k0, k1, k2, k3, k4, k5, k6, k7, k8, k9] := by
  cases ks with
  | nil => exact absurd h (by simp)
  | cons k0 ks =>
    cases ks with
    | nil => exact absurd h (by simp)
    | cons k1 ks =>
      cases ks with
      | nil => exact absurd h (by simp)
      | cons k2 ks =>
        cases ks with
        | nil => exact absurd h (by simp)
        | cons k3 ks =>
          cases ks with
          | nil => exact absurd h (by simp)
          | cons k4 ks =>
            cases ks with
            | nil => exact absurd h (by simp)
            | cons k5 ks =>
              cases ks with
              | nil => exact absurd h (by simp)
              | cons k6 ks =>
                cases ks with
                | nil => exact absurd h (by simp)
                | cons k7 ks =>
                  cases ks with
                  | nil => exact absurd h (by simp)
                  | cons k8 ks =>
                    cases ks with
                    | nil => exact absurd h (by simp)
                    | cons k9 ks =>
                      cases ks with
                      | cons _ _ => exact absurd h (by simp only [List.length_cons]; omega)
                      | nil => exact ⟨_, _, _, _, _, _, _, _, _, _, rfl⟩

theorem len12 {ks : List Value} (h : ks.length = 12) : ∃ k0 k1 k2 k3 k4 k5 k6 k7 k8 k9 k10 k11, ks = [k0, k1, k2, k3, k4, k5, k6, k7, k8, k9, k10, k11] := by
  cases ks with
  | nil => exact absurd h (by simp)
  | cons k0 ks =>
    cases ks with
    | nil => exact absurd h (by simp)
    | cons k1 ks =>
      cases ks with
      | nil => exact absurd h (by simp)
      | cons k2 ks =>
        cases ks with
        | nil => exact absurd h (by simp)
        | cons k3 ks =>
          cases ks with
          | nil => exact absurd h (by simp)
          | cons k4 ks =>
            cases ks with
            | nil => exact absurd h (by simp)
            | cons k5 ks =>
              cases ks with
              | nil => exact absurd h (by simp)
              | cons k6 ks =>
                cases ks with
                | nil => exact absurd h (by simp)
                | cons k7 ks =>
                  cases ks with
                  | nil => exact absurd h (by simp)
                  | cons k8 ks =>
                    cases ks with
                    | nil => exact absurd h (by simp)
                    | cons k9 ks =>
                      cases ks with
                      | nil => exact absurd h (by simp)
                      | cons k10 ks =>
                        cases ks with
                        | nil => exact absurd h (by simp)
                        | cons k11 ks =>
                          cases ks with
                          | cons _ _ => exact absurd h (by simp only [List.length_cons]; omega)
                          | nil => exact ⟨_, _, _, _, _, _, _, _, _, _, _, _, rfl⟩

def kwI (eC eR eM : Addr) : List (Str × V) := [("order", .int 0), ("column", .ref eC), ("row", .ref eR), ("margins", .ref eM), ("width", .non), ("height", .non), ("least_width", .non), ("greatest_width", .non), ("least_height", .non), ("greatest_height", .non), ("justify", .non), ("align", .non)]
abbrev FI (K : PySem.W.Frag) (eC eR eM f : Addr) (fd : FuncData) : Prop := FnM K "__init__" "Item.__init__" (inClass (top 100) 0) [] (kwI eC eR eM) f fd
abbrev fnI (D : Addr) (doc pm : Value) (an : Option Addr) (cdv ct : Value) : FuncData := PySem.W.fnOf "__init__" "Item.__init__" (defArgs (inClass (top 100) 0)) (defBody (inClass (top 100) 0)) (defScope (inClass (top 100) 0)) .none (.ref D) doc pm an cdv ct
theorem vals_drop : ∀ (n : Nat) {vs : List V} {us : List Value}, Vals vs us → Vals (vs.drop n) (us.drop n)
  | 0, _, _, h => h
  | _ + 1, _, _, .nil => .nil
  | n + 1, _, _, .cons _ h => vals_drop n h
theorem vals_take : ∀ (n : Nat) {vs : List V} {us : List Value}, Vals vs us → Vals (vs.take n) (us.take n)
  | 0, _, _, _ => .nil
  | _ + 1, _, _, .nil => .nil
  | n + 1, _, _, .cons r h => .cons r (vals_take n h)
def msIA (eC eR eM : Addr) : List (Str × V) := ((kwI eC eR eM).drop 0).take 3 ++ ((kwI eC eR eM).drop 4).take 8
def gIA {α : Type} (us mv ws : List α) : List α := us ++ (mv.drop 0).take 3 ++ (ws.drop 0).take 1 ++ (mv.drop 3).take 8
theorem chIA (D : Addr) (doc pm : Value) (an : Option Addr) (cdv ct : Value) (u0 u1 m0 m1 m2 m3 m4 m5 m6 m7 m8 m9 m10 w0 : Value) (eC eR eM : Addr) : KwChain D (((msIA eC eR eM).map (·.1)).zip [m0, m1, m2, m3, m4, m5, m6, m7, m8, m9, m10]) (bindArgs (fnI D doc pm an cdv ct) ⟨[u0, u1], (["margins"] : List Str).zip [w0]⟩) ((("self" : Str) :: inames).zip (gIA [u0, u1] [m0, m1, m2, m3, m4, m5, m6, m7, m8, m9, m10] [w0])) := by
  refine ⟨_, _, _, _, _, _, rfl, rfl, ?_⟩
  refine ⟨_, _, _, _, _, _, rfl, rfl, ?_⟩
  refine ⟨_, _, _, _, _, _, rfl, rfl, ?_⟩
  refine ⟨_, _, _, _, _, _, rfl, rfl, ?_⟩
  refine ⟨_, _, _, _, _, _, rfl, rfl, ?_⟩
  refine ⟨_, _, _, _, _, _, rfl, rfl, ?_⟩
  refine ⟨_, _, _, _, _, _, rfl, rfl, ?_⟩
  refine ⟨_, _, _, _, _, _, rfl, rfl, ?_⟩
  refine ⟨_, _, _, _, _, _, rfl, rfl, ?_⟩
  refine ⟨_, _, _, _, _, _, rfl, rfl, ?_⟩
  refine ⟨_, _, _, _, _, _, rfl, rfl, ?_⟩
  show _ = _
  kernel_rfl
theorem kIA {K : PySem.W.Frag} {eC eR eM f : Addr} {fd : FuncData} (F : FI K eC eR eM f fd) : ∃ mv : List Value, KBn K fd ("self" :: inames) 2 ["margins"] (fun us ws => gIA us mv ws) (fun vs zs => gIA vs ((msIA eC eR eM).map (·.2)) zs) := by
  refine F.kbinds0 2 ["margins"] (msIA eC eR eM) gIA (fun h => nomatch h) (fun q h => ?_) (fun r1 r3 r4 => (((r1.append (vals_take 3 (vals_drop 0 r3))).append (vals_take 1 (vals_drop 0 r4))).append (vals_take 8 (vals_drop 3 r3)))) (fun D doc pm an cdv ct us mv ws h1 h2 h3 => ?_)
  · simp only [msIA, List.mem_append] at h
    rcases h with h | h
    · exact List.mem_of_mem_drop (List.mem_of_mem_take h)
    · exact List.mem_of_mem_drop (List.mem_of_mem_take h)
  · obtain ⟨u0, u1, rfl⟩ := len2 h1
    obtain ⟨m0, m1, m2, m3, m4, m5, m6, m7, m8, m9, m10, rfl⟩ := len11 h2
    obtain ⟨w0, rfl⟩ := len1 h3
    exact chIA ..
/-! contributions(item, axis, sizes, gap, whole = ..) -/
def kwC : List (Str × V) := [("whole", .non), ("inner", .non), ("own", .non)]
def psC : List Str := ["item", "axis", "sizes", "gap", "whole", "inner", "own"]
abbrev FC (K : PySem.W.Frag) (f : Addr) (fd : FuncData) : Prop := FunD K "contributions" "contributions" (defArgs (top 137)) (defBody (top 137)) (defScope (top 137)) [] kwC f fd
abbrev fnC (D : Addr) (doc pm : Value) (an : Option Addr) (cdv ct : Value) : FuncData := PySem.W.fnOf "contributions" "contributions" (defArgs (top 137)) (defBody (top 137)) (defScope (top 137)) .none (.ref D) doc pm an cdv ct
theorem chC (D : Addr) (doc pm : Value) (an : Option Addr) (cdv ct : Value) (u0 u1 u2 u3 m0 m1 w0 : Value) : KwChain D (((kwC.drop 1).map (·.1)).zip [m0, m1]) (bindArgs (fnC D doc pm an cdv ct) ⟨[u0, u1, u2, u3], (["whole"] : List Str).zip [w0]⟩) (psC.zip ([u0, u1, u2, u3] ++ [w0] ++ [m0, m1])) := by
  refine ⟨_, _, _, _, _, _, rfl, rfl, ?_⟩
  refine ⟨_, _, _, _, _, _, rfl, rfl, ?_⟩
  show _ = _
  kernel_rfl
theorem kC {K : PySem.W.Frag} {f : Addr} {fd : FuncData} (F : FC K f fd) : ∃ mv : List Value, KBn K fd psC 4 ["whole"] (fun us ws => us ++ ws ++ mv) (fun vs zs => vs ++ zs ++ (kwC.drop 1).map (·.2)) := by
  refine F.kbinds0 4 ["whole"] (kwC.drop 1) (fun us mv ws => us ++ ws ++ mv) (fun h => nomatch h) (fun q h => List.mem_of_mem_drop h) (fun r1 r3 r4 => (r1.append r4).append r3) (fun D doc pm an cdv ct us mv ws h1 h2 h3 => ?_)
  obtain ⟨u0, u1, u2, u3, rfl⟩ := len4 h1
  obtain ⟨m0, m1, rfl⟩ := len2 h2
  obtain ⟨w0, rfl⟩ := len1 h3
  exact chC ..
end K5

set_option Elab.async false
set_option linter.all false
set_option maxRecDepth 100000
set_option maxHeartbeats 4000000
namespace K5
open PySem PySem.Spec PyProof.Rows L2
open K1 (FnP top Nm wm)
theorem _root_.L2.But.keep {a : Addr} {H H' : Hp} (h : But a H H') : Keep a H H' := fun b o n e => (h b n).trans e
/-! ### draws of the other kind: any whole number in the well -/
/-- a well: two numbers and a count of draws -/
def Wl (H : Hp) (a : Addr) (n : Int) : Prop := ∃ w0 w1 w2 : Int, H a = some (.lst [.int w0, .int w1, .int w2]) ∧ 0 ≤ w2 ∧ w2 ≤ n
theorem Wl.lst {H : Hp} {a : Addr} {n : Int} (h : Wl H a n) : ∃ ws, H a = some (.lst ws) := by
  obtain ⟨w0, w1, w2, e, _⟩ := h
  exact ⟨_, e⟩
theorem Wl.same {H H' : Hp} {a : Addr} {n : Int} (h : Wl H a n) (s : Same H H') : Wl H' a n := by
  obtain ⟨w0, w1, w2, e, r⟩ := h
  exact ⟨w0, w1, w2, s _ _ e, r⟩
theorem Wl.mono {H : Hp} {a : Addr} {n m : Int} (h : Wl H a n) (l : n ≤ m) : Wl H a m := by
  obtain ⟨w0, w1, w2, e, h1, h2⟩ := h
  exact ⟨w0, w1, w2, e, h1, by omega⟩
theorem Wl.updNe {H : Hp} {a b : Addr} {n : Int} {o : HO} (h : Wl H a n) (hb : b ≠ a) : Wl (upd H b o) a n := by
  obtain ⟨w0, w1, w2, e, r⟩ := h
  exact ⟨w0, w1, w2, by rw [upd_ne (Ne.symm hb)]; exact e, r⟩
theorem Wl.new {H : Hp} {a : Addr} {n : Int} {p : Addr} (h : Wl H a n) (hp : H p = none) : p ≠ a := fun z => by
  obtain ⟨w0, w1, w2, e, _⟩ := h
  rw [z, e] at hp
  cases hp
section
variable {P : Program} {w : World} {K : PySem.W.Frag} {mg : Str → Option Value} {base : Heap} {C fI fE : Addr}
def spMx : Sp := fun vs H Q _ => ∃ (c lap : Int), vs = [.int c, .int lap] ∧ 0 ≤ lap ∧ lap ≤ 2000000 ∧ ∀ r : Int, 0 ≤ r → Q (.int r) H
theorem scMx : FnScope ["cell", "lap", "blend"] ["cell", "lap"] (defScope (top 139)) := ⟨rfl, rfl, rfl, by decide +kernel, rfl, by decide +kernel, by decide +kernel⟩
theorem ok_mx {f : Addr} {fd : FuncData} (F : FnP K "_law_mix" (top 139) f fd) (N : Nm mg) : FnOk P w K mg base CX0 1 f fd ["cell", "lap"] spMx := by
  refine F.ok scMx (fun vs H Q E h => ?_) (fun cdv A outer s H vs Q E hr h => ?_)
  · obtain ⟨c, lap, rfl, _⟩ := h
    rfl
  · obtain ⟨c, lap, rfl, l0, l1, k⟩ := h
    refine ⟨_, PSs.nox (pss_cons (ps_set (i := 2) scMx.nd rfl (Or.inl rfl) (pe_op op_add (pe_op op_add (pe_op op_add (pe_op op_modN (pe_callTy call_int1 (by rfl) N.tint (by decide +kernel) (pa_cons (pv 0) pa_nil)) pe_int) (pe_op op_mulW pe_int (pv 1))) (pe_op op_modN (pe_callTy call_int1 (by rfl) N.tint (by decide +kernel) (pa_cons (pe_op op_fdivW (pv 0) pe_int) pa_nil)) pe_int)) pe_int))
  (pss_cons (ps_set (i := 2) scMx.nd rfl (Or.inl rfl) (pe_op op_modN (pe_callTy call_int1 (by rfl) N.tint (by decide +kernel) (pa_cons (pe_op op_mulW (pv 2) pe_int) pa_nil)) pe_int))
  (pss_cons (ps_set (i := 2) scMx.nd rfl (Or.inl rfl) (pe_op op_modN (pe_callTy call_int1 (by rfl) N.tint (by decide +kernel) (pa_cons (pe_op op_mulW (pv 2) (pe_op op_add (pe_op op_add (pe_op op_fdivW (pv 2) pe_int) pe_int) (pv 1))) pa_nil)) pe_int))
  (pss_one (ps_ret (pe_op op_modN (pe_callTy call_int1 (by rfl) N.tint (by decide +kernel) (pa_cons (pe_op op_mulW (pv 2) (pe_op op_add (pe_op op_fdivW (pv 2) pe_int) pe_int)) pa_nil)) pe_int)))))), ?_⟩
    obtain ⟨a0, a1⟩ := fmod_in (x := c) (m := 2147483629) (by decide)
    obtain ⟨b0, b1⟩ := fmod_in (x := c / 2147483629) (m := 1000003) (by decide)
    refine ⟨_, rfl, .inl ⟨_, rfl, _, _, rfl, rfl, (by show (2147483629 : Int) ≠ 0; decide), ?_⟩⟩
    refine ⟨_, rfl, _, _, rfl, rfl, wm (by decide) (by omega), _, _, rfl, rfl, ?_⟩
    refine ⟨_, rfl, _, _, rfl, rfl, wide_div (b := 40) (by decide) (by decide) (by decide) (by decide), .inl ⟨_, rfl, _, _, rfl, rfl, (by show (1000003 : Int) ≠ 0; decide), ?_⟩⟩
    refine ⟨_, _, rfl, rfl, _, _, rfl, rfl, ?_⟩
    have x0 : 0 ≤ (c.fmod 2147483629 + 30011 * lap + (c / 2147483629).fmod 1000003 + 1) ∧ (c.fmod 2147483629 + 30011 * lap + (c / 2147483629).fmod 1000003 + 1) < 100000000000 := by omega
    refine ⟨_, rfl, _, _, rfl, rfl, wm (by omega) (by decide), .inl ⟨_, rfl, _, _, rfl, rfl, (by show (2147483629 : Int) ≠ 0; decide), ?_⟩⟩
    obtain ⟨y0, y1⟩ := fmod_in (x := (c.fmod 2147483629 + 30011 * lap + (c / 2147483629).fmod 1000003 + 1) * 48271) (m := 2147483629) (by decide)
    refine ⟨_, rfl, _, rfl, _, _, rfl, rfl, wide_div (b := 40) (by decide) (by decide) (by decide) (by decide), _, _, rfl, rfl, _, rfl, _, _, rfl, rfl, _, _, rfl, rfl, wm (by omega) (by omega), .inl ⟨_, rfl, _, _, rfl, rfl, (by show (2147483587 : Int) ≠ 0; decide), ?_⟩⟩
    obtain ⟨z0, z1⟩ := fmod_in (x := (((c.fmod 2147483629 + 30011 * lap + (c / 2147483629).fmod 1000003 + 1) * 48271).fmod 2147483629) * ((((c.fmod 2147483629 + 30011 * lap + (c / 2147483629).fmod 1000003 + 1) * 48271).fmod 2147483629) / 1021 + 65539 + lap)) (m := 2147483587) (by decide)
    refine ⟨_, rfl, _, rfl, _, _, rfl, rfl, wide_div (b := 40) (by decide) (by decide) (by decide) (by decide), _, _, rfl, rfl, _, _, rfl, rfl, wm (by omega) (by omega), .inl ⟨_, rfl, _, _, rfl, rfl, (by show (2147483563 : Int) ≠ 0; decide), ?_⟩⟩
    exact k _ (fmod_in (by decide)).1
/-- draw(well, limit): a number from 0 to limit - 1, the well at most one count further -/
def spDr : Sp := fun vs H Q _ => ∃ (a : Addr) (m n : Int), vs = [.ref a, .int m] ∧ Wl H a n ∧ n < 1000000 ∧ 0 < m ∧ m < 1073741824 ∧ ∀ r H', 0 ≤ r → r < m → But a H H' → Wl H' a (n + 1) → Q (.int r) H'
theorem scDr : FnScope ["well", "limit", "drawn"] ["well", "limit"] (defScope (top 141)) := ⟨rfl, rfl, rfl, by decide +kernel, rfl, by decide +kernel, by decide +kernel⟩
theorem ok_dr {f f1 : Addr} {fd d1 : FuncData} (F : FnP K "_law_draw" (top 141) f fd) (N : Nm mg) (d__law_mix : D2 P w K mg base "_law_mix" "cell" "lap" 1 spMx f1 d1) : FnOk P w K mg base CX0 2 f fd ["well", "limit"] spDr := by
  refine F.ok scDr (fun vs H Q E h => ?_) (fun cdv A outer s H vs Q E hr h => ?_)
  · obtain ⟨a, m, n, rfl, _⟩ := h
    rfl
  · obtain ⟨a, m, n, rfl, ⟨w0, w1, w2, hw, h2, h3⟩, hn, m0, m1, k⟩ := h
    refine ⟨_, PSs.nox (pss_cons (ps_if (pt_cmpR op_ge (pe_ix ix_list (pv 0) pe_int (fun _ _ => rfl)) (pe_op op_pow pe_int pe_int) (nomark _))
    (pss_cons (ps_set (i := 2) scDr.nd rfl (Or.inl rfl) (pe_op op_modN (pe_callTy call_int1 (by rfl) N.tint (by decide +kernel) (pa_cons (pe_ix ix_list (pv 0) pe_int (fun _ _ => rfl)) pa_nil)) (pv 1)))
  (pss_cons (ps_asg (pe_op op_fdivW (pe_ix ix_list (pv 0) pe_int (fun _ _ => rfl)) (pv 1)) (pg_sub (pv 0) pe_int set_list))
  (pss_one (ps_ret (pv 2)))))
    pss_nil)
  (pss_cons (ps_asg (pe_op op_add (pe_ix ix_list (pv 0) pe_int (fun _ _ => rfl)) pe_int) (pg_sub (pv 0) pe_int set_list))
  (pss_one (ps_ret (pe_op op_modN (pe_callTy call_int1 (by rfl) N.tint (by decide +kernel) (pa_cons (pe_call d__law_mix.G (hr.mono (by decide)) (by rfl) d__law_mix.g d__law_mix.kp d__law_mix.b .nil pass0 (pa_cons (pe_ix ix_list (pv 0) pe_int (fun _ _ => rfl)) (pa_cons (pe_ix ix_list (pv 0) pe_int (fun _ _ => rfl)) pa_nil))) pa_nil)) (pv 1)))))), ?_⟩
    refine ⟨_, rfl, a, _, _, _, rfl, rfl, SqL.of hw, at0, _, _, rfl, rfl, ⟨by decide, by decide, by decide⟩, _, _, rfl, rfl, _, rfl, ite2 (fun c => ?_) (fun c => ?_)⟩
    · refine ⟨_, rfl, a, _, _, _, rfl, rfl, SqL.of hw, at0, .inl ⟨_, rfl, _, rfl, _, _, rfl, rfl, (by show m ≠ 0; omega), ?_⟩⟩
      refine ⟨_, rfl, a, _, _, _, rfl, rfl, SqL.of hw, at0, _, rfl, _, _, rfl, rfl, wide_div (b := 40) m0 (by omega) (by decide) (by decide), ?_⟩
      refine ⟨_, rfl, a, _, _, 0, rfl, rfl, hw, rfl, ?_⟩
      obtain ⟨r0, r1⟩ := fmod_in (x := w0) m0
      exact ⟨_, rfl, k _ _ r0 r1 But.upd ⟨w0 / m, w1, w2, upd_same, h2, by omega⟩⟩
    · refine ⟨_, rfl, a, _, _, _, rfl, rfl, SqL.of hw, at2, _, _, rfl, rfl, ?_⟩
      refine ⟨_, rfl, a, _, _, 2, rfl, rfl, hw, rfl, ?_⟩
      have hw' : upd H a (.lst [.int w0, .int w1, .int (w2 + 1)]) a = some (.lst [.int w0, .int w1, .int (w2 + 1)]) := upd_same
      refine ⟨_, rfl, a, _, _, _, rfl, rfl, SqL.of hw', at1, _, rfl, a, _, _, _, rfl, rfl, SqL.of hw', at2, w1, w2 + 1, rfl, by omega, by omega, fun r r0 => .inl ⟨_, rfl, _, rfl, _, _, rfl, rfl, (by show m ≠ 0; omega), ?_⟩⟩
      obtain ⟨q0, q1⟩ := fmod_in (x := r) m0
      exact k _ _ q0 q1 But.upd ⟨w0, w1, w2 + 1, upd_same, by omega, by omega⟩
def spSo (K : PySem.W.Frag) : Sp := fun vs H Q _ => ∃ (p : Addr) (ns : List Int) (k : Nat), vs = [.ref p, .int (k : Int)] ∧ SqL K H p (ns.map V.int) ∧ ns.length ≤ 63 ∧ k ≤ 100 ∧ ∀ H' a, Same H H' → H a = none → Wl H' a 0 → Q (.ref a) H'
theorem scSo : FnScope ["script", "k", "cell"] ["script", "k"] (defScope (top 140)) := ⟨rfl, rfl, rfl, by decide +kernel, rfl, by decide +kernel, by decide +kernel⟩
theorem ok_so {f : Addr} {fd : FuncData} (F : FnP K "_law_source" (top 140) f fd) (N : Nm mg) : FnOk P w K mg base CX0 1 f fd ["script", "k"] (spSo K) := by
  refine F.ok scSo (fun vs H Q E h => ?_) (fun cdv A outer s H vs Q E hr h => ?_)
  · obtain ⟨p, ns, k, rfl, _⟩ := h
    rfl
  · obtain ⟨p, ns, kk, rfl, hp, hn, hk, k⟩ := h
    refine ⟨_, PSs.nox (pss_cons (ps_set (i := 2) scSo.nd rfl (Or.inl rfl) (pe_op op_add (pe_ix ix_list (pe_op op_catS (pv 0) (pe_lst (pa_cons pe_int pa_nil))) pe_int (fun _ _ => rfl)) (pe_op op_mulW pe_int (pv 1))))
  (pss_cons (ps_if (pt_cmpR op_lt (pv 1) (pe_callB call_len_seq (by rfl) N.len PySem.boot_len (pa_cons (pv 0) pa_nil)) (nomark _))
    (pss_one (ps_set (i := 2) scSo.nd rfl (Or.inl rfl) (pe_ix ix_list (pv 0) (pv 1) (fun _ _ => rfl))))
    pss_nil)
  (pss_one (ps_ret (pe_lst (pa_cons (pv 2) (pa_cons (pv 2) (pa_cons pe_int pa_nil)))))))), ?_⟩
    refine ⟨_, rfl, (by show 1 ≤ sizeLine; decide), fun z nz => ?_⟩
    have s1 := same_upd (o := .lst [.int 0]) nz
    have hp1 := s1.seq hp
    refine ⟨p, z, _, _, rfl, rfl, hp1, SqL.of upd_same, by rw [List.length_map, sizeLine_eq]; show ns.length + 1 ≤ _; omega, fun q nq => ?_⟩
    have s2 := same_upd (o := .lst (ns.map V.int ++ [.int 0])) nq
    obtain ⟨x, hx⟩ : ∃ x : Int, (ns.map V.int ++ [V.int 0])[0]? = some (.int x) := by
      cases ns with
      | nil => exact ⟨0, rfl⟩
      | cons y ys => exact ⟨y, rfl⟩
    refine ⟨q, _, _, _, rfl, rfl, SqL.of upd_same, atI_nat (j := 0) hx, _, rfl, _, _, rfl, rfl, wm (by decide) (by omega), _, _, rfl, rfl, ?_⟩
    have hp2 := s2.seq hp1
    have s12 := s1.trans s2
    have fin : ∀ (x : Int) (H' : Hp) (a : Addr), Same H H' → H' a = none → Q (.ref a) (upd H' a (.lst [.int x, .int x, .int 0])) := fun x H' a s n => k _ a (s.trans (same_upd n)) (none_of s n) ⟨x, x, 0, upd_same, by decide, by decide⟩
    refine ⟨_, rfl, _, rfl, p, _, rfl, .inl hp2, _, _, rfl, rfl, _, rfl, ite2 (fun c => ?_) (fun c => ?_)⟩
    · have c : ((kk : Nat) : Int) < (((ns.map V.int).length : Nat) : Int) := of_decide_eq_true c
      rw [List.length_map] at c
      have hj : (ns.map V.int)[kk]? = some (.int (ns[kk]'(by omega))) := by
        rw [List.getElem?_map, List.getElem?_eq_getElem (by omega)]
        rfl
      refine ⟨_, rfl, _, rfl, p, _, _, _, rfl, rfl, hp2, atI_nat hj, ?_⟩
      exact ⟨_, rfl, _, rfl, (by show 3 ≤ sizeLine; decide), fun a na => fin _ _ a s12 na⟩
    · exact ⟨_, rfl, _, rfl, (by show 3 ≤ sizeLine; decide), fun a na => fin _ _ a s12 na⟩
def spOn : Sp := fun vs H Q _ => ∃ (a b : Addr) (n : Int) (xs : List V), vs = [.ref a, .ref b] ∧ Wl H a n ∧ n < 1000000 ∧ a ≠ b ∧ H b = some (.lst xs) ∧ 0 < xs.length ∧ xs.length < 1000000 ∧ ∀ x H', x ∈ xs → But a H H' → Wl H' a (n + 1) → Q x H'
theorem scOn : FnScope ["well", "items"] ["well", "items"] (defScope (top 142)) := ⟨rfl, rfl, rfl, by decide +kernel, rfl, by decide +kernel, by decide +kernel⟩
theorem ok_on {f f1 : Addr} {fd d1 : FuncData} (F : FnP K "_law_one" (top 142) f fd) (N : Nm mg) (d__law_draw : D2 P w K mg base "_law_draw" "well" "limit" 2 spDr f1 d1) : FnOk P w K mg base CX0 3 f fd ["well", "items"] spOn := by
  refine F.ok scOn (fun vs H Q E h => ?_) (fun cdv A outer s H vs Q E hr h => ?_)
  · obtain ⟨a, b, n, xs, rfl, _⟩ := h
    rfl
  · obtain ⟨a, b, n, xs, rfl, hw, hn, hab, hb, l0, l1, k⟩ := h
    refine ⟨_, PSs.nox (pss_one (ps_ret (pe_ix ix_list (pv 1) (pe_call d__law_draw.G (hr.mono (by decide)) (by rfl) d__law_draw.g d__law_draw.kp d__law_draw.b .nil pass0 (pa_cons (pv 0) (pa_cons (pe_callB call_len_seq (by rfl) N.len PySem.boot_len (pa_cons (pv 1) pa_nil)) pa_nil))) (fun _ _ => rfl)))), ?_⟩
    refine ⟨_, rfl, _, rfl, _, rfl, b, _, rfl, .inl (SqL.of hb), a, _, n, rfl, hw, hn, by omega, by omega, fun r H1 r0 r1 b1 hw1 => ?_⟩
    obtain ⟨j, rfl⟩ := Int.eq_ofNat_of_zero_le r0
    have hj : j < xs.length := by omega
    have hb1 : H1 b = some (.lst xs) := b1.keep _ _ (Ne.symm hab) hb
    exact ⟨b, _, _, _, rfl, rfl, SqL.of hb1, atI_nat (List.getElem?_eq_getElem hj), k _ _ (List.getElem_mem hj) b1 hw1⟩
end
end K5

set_option Elab.async false
set_option linter.all false
set_option maxRecDepth 100000
set_option maxHeartbeats 4000000
namespace K5
open PySem PySem.Spec PyProof.Rows L2
open K1 (FnP top Nm Sz wm dat)
/-! ### the cases, and what is due -/
def nI (i : Int) : Pv := .num (1728 * i)
abbrev sAuto : Str := "auto"
abbrev sLeast : Str := "least"
abbrev sMost : Str := "most"
def casesL (wide : Int) (room : Option Int) : List (List Sv × Option Int × Bool) :=
  [([.up (nI 3)], some 3, true), ([.up (nI 3), .up (nI 4)], some 7, true), ([.bt (.wd sLeast) (nI 5), .pl (nI 2)], some 7, false),
   ([.pl (nI 6)], some 6, false), ([.up (nI 3), .pl (.wd sAuto)], none, true), ([.up (nI 3), .pl (.shr 1728)], none, false),
   ([.bt (nI 2) (nI 9), .up (nI 1)], some 10, true), ([.pl (.wd sLeast)], none, false), ([.pl (.wd sAuto), .pl (nI 4)], none, true),
   ([.up (nI (2 * wide))], some (2 * wide), true), ([.bt (.wd sMost) (nI 0)], some 0, false),
   ([.up (.part 864)], room.map fun r => r / 2, true), ([.pl (.part 1728), .up (nI 1)], room.map fun r => r + 1, true)]
def imE (edge : Int) : Im := ⟨0, 1728 * edge, 0, 1728 * edge, none, none, none, none, none, none⟩
def dueS (lower upper small n1 : Int) : Option Int → Five
  | none => ⟨1728 * lower, 1728 * upper, 1728 * small, 1728 * lower, 1728 * upper⟩
  | some t => ⟨1728 * lower, 1728 * upper, 1728 * small, 1728 * max small (min lower (t + n1)), 1728 * max small (min upper (t + n1))⟩
def dueL (wide second edge space : Int) (c : List Sv × Option Int × Bool) : Five :=
  dueS (max wide second + 2 * edge) (wide + second + 3 + 2 * edge) (if c.2.2 = true then max wide second + 2 * edge else 2 * edge) (((c.1.length - 1 : Nat) : Int) * space) c.2.1
theorem askI_none {i : Im} {bs : List Bd} {g lo hi : Int} {least most mn : Int} (h1 : leI i true lo = least) (h2 : leI i true hi = most) (h3 : minI i true bs g lo least = mn) (h4 : limI bs g = none) : askI i true bs g lo hi = ⟨least, most, mn, least, most⟩ := by
  unfold askI
  rw [h1, h2, h3, h4]
  rfl
theorem askI_some {i : Im} {bs : List Bd} {g lo hi : Int} {least most mn l : Int} (h1 : leI i true lo = least) (h2 : leI i true hi = most) (h3 : minI i true bs g lo least = mn) (h4 : limI bs g = some l) : askI i true bs g lo hi = ⟨least, most, mn, max (min least l) mn, max (min most l) mn⟩ := by
  unfold askI
  rw [h1, h2, h3, h4]
  rfl
theorem le_imE {edge n : Int} (h : 0 ≤ edge) (hn : 0 ≤ n) : leI (imE edge) true (1728 * n) = 1728 * (n + 2 * edge) := by
  show max (1728 * n + (1728 * edge + 1728 * edge)) 0 = _
  omega
/-- minimum contributions: where nothing may be asked, where all may, where the lanes are fixed -/
theorem min_no {edge g lo x : Int} {bs : List Bd} (h : 0 ≤ edge) (hm : mayAsk bs = false) : minI (imE edge) true bs g lo x = 1728 * (2 * edge) := by
  show max (autoI (imE edge) true bs g lo (1728 * edge + 1728 * edge) + (1728 * edge + 1728 * edge)) 0 = _
  unfold autoI
  rw [hm, if_neg (by decide)]
  omega
theorem min_all {edge g lo x : Int} {bs : List Bd} (h : 0 ≤ edge) (hl : 0 ≤ lo) (hm : mayAsk bs = true) (hf : bs.all isFx = false) : minI (imE edge) true bs g (1728 * lo) x = 1728 * (lo + 2 * edge) := by
  show max (autoI (imE edge) true bs g (1728 * lo) (1728 * edge + 1728 * edge) + (1728 * edge + 1728 * edge)) 0 = _
  unfold autoI
  rw [hm, if_pos rfl, hf, if_neg (by decide)]
  show max (1728 * lo + (1728 * edge + 1728 * edge)) 0 = _
  omega
theorem five_some {edge g lo hi M N s l t n1 space : Int} {bs : List Bd} {c : List Sv × Option Int × Bool} {wide second : Int} (ec : c.2.1 = some t) (en : ((c.1.length - 1 : Nat) : Int) * space = n1) (eM : max wide second = M) (eN : wide + second + 3 = N) (h1 : leI (imE edge) true lo = 1728 * (M + 2 * edge)) (h2 : leI (imE edge) true hi = 1728 * (N + 2 * edge)) (h3 : minI (imE edge) true bs g lo (1728 * (M + 2 * edge)) = 1728 * s)
    (es : (if c.2.2 = true then M + 2 * edge else 2 * edge) = s) (h4 : limI bs g = some l) (el : l = 1728 * (t + n1)) : askI (imE edge) true bs g lo hi = dueL wide second edge space c := by
  rw [askI_some h1 h2 h3 h4]
  unfold dueL
  rw [ec, en, eM, eN, es]
  show Five.mk _ _ _ _ _ = Five.mk _ _ _ _ _
  rw [Five.mk.injEq]
  refine ⟨rfl, rfl, rfl, ?_, ?_⟩ <;> omega
theorem five_none {edge g lo hi M N s : Int} {space : Int} {bs : List Bd} {c : List Sv × Option Int × Bool} {wide second : Int} (ec : c.2.1 = none) (eM : max wide second = M) (eN : wide + second + 3 = N) (h1 : leI (imE edge) true lo = 1728 * (M + 2 * edge)) (h2 : leI (imE edge) true hi = 1728 * (N + 2 * edge)) (h3 : minI (imE edge) true bs g lo (1728 * (M + 2 * edge)) = 1728 * s)
    (es : (if c.2.2 = true then M + 2 * edge else 2 * edge) = s) (h4 : limI bs g = none) : askI (imE edge) true bs g lo hi = dueL wide second edge space c := by
  rw [askI_none h1 h2 h3 h4]
  unfold dueL
  rw [ec, eM, eN, es]
  rfl
theorem right_all {wide second edge space : Int} {room : Option Int} (w0 : 0 ≤ wide) (s0 : 0 ≤ second) (e0 : 0 ≤ edge) (p0 : 0 ≤ space) (hr : ∀ r, room = some r → ∃ k, r = 2 * k ∧ 0 ≤ k) :
    ∀ c ∈ casesL wide room, askI (imE edge) true (c.1.map (Sv.bd (room.map fun r => 1728 * r))) (1728 * space) (1728 * max wide second) (1728 * (wide + second + 3)) = dueL wide second edge space c := by
  intro c hc
  have m0 : 0 ≤ max wide second := by omega
  have h1 := le_imE (n := max wide second) e0 m0
  have h2 := le_imE (n := wide + second + 3) e0 (by omega)
  generalize eM : max wide second = M at m0 h1 ⊢
  generalize eN : wide + second + 3 = N at h2 ⊢
  simp only [casesL, List.mem_cons, List.not_mem_nil, or_false] at hc
  rcases hc with rfl | rfl | rfl | rfl | rfl | rfl | rfl | rfl | rfl | rfl | rfl | rfl | rfl
  · exact five_some (n1 := 0 * space) (l := 1728 * 3 + 0 * (1728 * space)) rfl rfl eM eN h1 h2 (min_all e0 m0 (by kernel_rfl) (by kernel_rfl)) rfl rfl (by omega)
  · exact five_some (n1 := 1 * space) (l := 1728 * 7 + 1 * (1728 * space)) rfl rfl eM eN h1 h2 (min_all e0 m0 (by kernel_rfl) (by kernel_rfl)) rfl rfl (by omega)
  · exact five_some (n1 := 1 * space) (l := 1728 * 7 + 1 * (1728 * space)) rfl rfl eM eN h1 h2 (min_no e0 (by kernel_rfl)) rfl rfl (by omega)
  · exact five_some (n1 := 0 * space) (l := 1728 * 6 + 0 * (1728 * space)) rfl rfl eM eN h1 h2 (min_no e0 (by kernel_rfl)) rfl rfl (by omega)
  · exact five_none rfl eM eN h1 h2 (min_all e0 m0 (by kernel_rfl) (by kernel_rfl)) rfl rfl
  · exact five_none rfl eM eN h1 h2 (min_no e0 (by kernel_rfl)) rfl rfl
  · exact five_some (n1 := 1 * space) (l := 1728 * 10 + 1 * (1728 * space)) rfl rfl eM eN h1 h2 (min_all e0 m0 (by kernel_rfl) (by kernel_rfl)) rfl rfl (by omega)
  · exact five_none rfl eM eN h1 h2 (min_no e0 (by kernel_rfl)) rfl rfl
  · exact five_none rfl eM eN h1 h2 (min_all e0 m0 (by kernel_rfl) (by kernel_rfl)) rfl rfl
  · exact five_some (n1 := 0 * space) (l := 0 + 1728 * (2 * wide) + 0 * (1728 * space)) rfl rfl eM eN h1 h2 (min_all e0 m0 (by kernel_rfl) (by kernel_rfl)) rfl rfl (by omega)
  · exact five_some (n1 := 0 * space) (l := 0 + 0 * (1728 * space)) rfl rfl eM eN h1 h2 (min_no e0 (by kernel_rfl)) rfl rfl (by omega)
  · cases room with
    | none => exact five_none rfl eM eN h1 h2 (min_all e0 m0 (by kernel_rfl) (by kernel_rfl)) rfl rfl
    | some r =>
      obtain ⟨k, rfl, k0⟩ := hr r rfl
      exact five_some (t := 2 * k / 2) (n1 := 0 * space) (l := 0 + 864 * (1728 * (2 * k)) / 1728 + 0 * (1728 * space)) rfl rfl eM eN h1 h2 (min_all e0 m0 (by kernel_rfl) (by kernel_rfl)) rfl rfl (by omega)
  · cases room with
    | none => exact five_none rfl eM eN h1 h2 (min_all e0 m0 (by kernel_rfl) (by kernel_rfl)) rfl rfl
    | some r =>
      obtain ⟨k, rfl, k0⟩ := hr r rfl
      exact five_some (t := 2 * k + 1) (n1 := 1 * space) (l := 0 + 1728 * (1728 * (2 * k)) / 1728 + 1728 * 1 + 1 * (1728 * space)) rfl rfl eM eN h1 h2 (min_all e0 m0 (by kernel_rfl) (by kernel_rfl)) rfl rfl (by omega)
/-- all of them are sizes -/
theorem cases_ok {wide : Int} {room : Option Int} (w0 : 0 ≤ wide) (w1 : wide ≤ 1000) (hr : ∀ r, room = some r → ∃ k, r = 2 * k ∧ 0 ≤ k ∧ k ≤ 1000) : ∀ c ∈ casesL wide room, 0 < c.1.length ∧ c.1.length ≤ 60 ∧ ∀ sv ∈ c.1, OkSv (room.map fun r => 1728 * r) sv := by
  intro c hc
  have num : ∀ (n : Int), 0 ≤ n → n ≤ 3000 → OkPv (room.map fun r => 1728 * r) (nI n) := fun n a b => by
    show 0 ≤ 1728 * n ∧ 1728 * n ≤ _
    omega
  have prt : ∀ n : Int, n = 864 ∨ n = 1728 → OkPv (room.map fun r => 1728 * r) (.part n) := fun n hn => by
    refine ⟨by omega, by omega, fun w hw => ?_⟩
    cases room with
    | none => exact nomatch hw
    | some r =>
      obtain ⟨k, rfl, k0, k1⟩ := hr r rfl
      have hw : 1728 * (2 * k) = w := Option.some.inj hw
      rcases hn with rfl | rfl
      · exact ⟨1728 * k, by omega, by omega, by omega⟩
      · exact ⟨1728 * (2 * k), by omega, by omega, by omega⟩
  have wd : ∀ (z : Str), z ∈ sizeWords → OkPv (room.map fun r => 1728 * r) (.wd z) := fun _ h => h
  simp only [casesL, List.mem_cons, List.not_mem_nil, or_false] at hc
  rcases hc with rfl | rfl | rfl | rfl | rfl | rfl | rfl | rfl | rfl | rfl | rfl | rfl | rfl
  all_goals refine ⟨by simp, by simp, ?_⟩
  all_goals
    intro sv hsv
    simp only [List.mem_cons, List.not_mem_nil, or_false] at hsv
  · subst hsv; exact ⟨num _ (by omega) (by omega), trivial⟩
  · rcases hsv with rfl | rfl
    · exact ⟨num _ (by omega) (by omega), trivial⟩
    · exact ⟨num _ (by omega) (by omega), trivial⟩
  · rcases hsv with rfl | rfl
    · exact ⟨wd _ (by decide), trivial, num _ (by omega) (by omega)⟩
    · exact num _ (by omega) (by omega)
  · subst hsv; exact num _ (by omega) (by omega)
  · rcases hsv with rfl | rfl
    · exact ⟨num _ (by omega) (by omega), trivial⟩
    · exact wd _ (by decide)
  · rcases hsv with rfl | rfl
    · exact ⟨num _ (by omega) (by omega), trivial⟩
    · show (0 : Int) ≤ 1728 ∧ (1728 : Int) ≤ _
      omega
  · rcases hsv with rfl | rfl
    · exact ⟨num _ (by omega) (by omega), trivial, num _ (by omega) (by omega)⟩
    · exact ⟨num _ (by omega) (by omega), trivial⟩
  · subst hsv; exact wd _ (by decide)
  · rcases hsv with rfl | rfl
    · exact wd _ (by decide)
    · exact num _ (by omega) (by omega)
  · subst hsv; exact ⟨num _ (by omega) (by omega), trivial⟩
  · subst hsv; exact ⟨wd _ (by decide), trivial, num _ (by omega) (by omega)⟩
  · subst hsv; exact ⟨prt _ (.inl rfl), trivial⟩
  · rcases hsv with rfl | rfl
    · exact prt _ (.inr rfl)
    · exact ⟨num _ (by omega) (by omega), trivial⟩
end K5

set_option Elab.async false
set_option linter.all false
set_option maxRecDepth 100000
set_option maxHeartbeats 8000000
namespace K5
open PySem PySem.Spec PyProof.Rows L2
open K1 (FnP top Nm Sz wm dat)
/-! ### the cases told as data -/
mutual
def noL : PyData → Bool
  | .list _ => false
  | .dict _ => false
  | .tuple ds => noLs ds
  | _ => true
def noLs : List PyData → Bool
  | [] => true
  | d :: ds => noL d && noLs ds
end
mutual
theorem dpL {K : PySem.W.Frag} {D : Addr} {ws : List V} {H H' : Hp} (e : Keep D H H') (hD : H D = some (.lst ws)) : ∀ {d : PyData} {v : V}, noL d = true → Dp K H v d → Dp K H' v d
  | .none, _, _, h => by cases h; exact .non
  | .bool _, _, _, h => by cases h; exact .bl _
  | .int _, _, _, h => by cases h; exact .int _
  | .str _, _, _, h => by cases h; exact .str _
  | .list ds, _, n, h => nomatch n
  | .tuple ds, _, n, h => by
    cases h with
    | tup h1 h2 => exact .tup (seqT_l e hD h1) (dpLs e hD n h2)
  | .dict _, _, n, _ => nomatch n
theorem dpLs {K : PySem.W.Frag} {D : Addr} {ws : List V} {H H' : Hp} (e : Keep D H H') (hD : H D = some (.lst ws)) : ∀ {ds : List PyData} {vs : List V}, noLs ds = true → DpAll K H vs ds → DpAll K H' vs ds
  | [], _, _, h => by cases h; exact .nil
  | _ :: _, _, n, h => by
    cases h with
    | cons h1 h2 =>
      obtain ⟨n1, n2⟩ := ba (show (noL _ && noLs _) = true from n)
      exact .cons (dpL e hD n1 h1) (dpLs e hD n2 h2)
end
theorem tupNew {K : PySem.W.Frag} {H : Hp} {p : Addr} {xs : List V} {ds : List PyData} (_ : H p = none) (h : DpAll K (upd H p (.tup xs)) xs ds) : Dp K (upd H p (.tup xs)) (.ref p) (.tuple ds) := .tup (SqT.of upd_same) h
theorem lstNew {H : Hp} {p : Addr} {xs : List V} (_ : H p = none) : upd H p (.lst xs) p = some (.lst xs) := upd_same
theorem updS {H : Hp} {p : Addr} {ws xs : List V} (_ : H p = some (.lst ws)) : upd H p (.lst xs) p = some (.lst xs) := upd_same
theorem kUp {H : Hp} {p : Addr} {ws xs : List V} (_ : H p = some (.lst ws)) : Keep p H (upd H p (.lst xs)) := (Keep.of (Same.refl _)).upd
def oi : Option Int → PyData
  | none => .none
  | some n => .int n
def caseD (c : List Sv × Option Int × Bool) : PyData := .tuple [.tuple (c.1.map Sv.d), oi c.2.1, .bool c.2.2]
theorem nq_half : nq 864 = .tuple [.int 1, .int 2] := by kernel_rfl
theorem cases_none (wide : Int) : (casesL wide none).map caseD = [.tuple [.tuple [.tuple [.str "upto", .int 3]], .int 3, .bool true],
    .tuple [.tuple [.tuple [.str "upto", .int 3], .tuple [.str "upto", .int 4]], .int 7, .bool true],
    .tuple [.tuple [.tuple [.str "between", .str "least", .int 5], .int 2], .int 7, .bool false],
    .tuple [.tuple [.int 6], .int 6, .bool false],
    .tuple [.tuple [.tuple [.str "upto", .int 3], .str "auto"], .none, .bool true],
    .tuple [.tuple [.tuple [.str "upto", .int 3], .tuple [.str "share", .int 1]], .none, .bool false],
    .tuple [.tuple [.tuple [.str "between", .int 2, .int 9], .tuple [.str "upto", .int 1]], .int 10, .bool true],
    .tuple [.tuple [.str "least"], .none, .bool false],
    .tuple [.tuple [.str "auto", .int 4], .none, .bool true],
    .tuple [.tuple [.tuple [.str "upto", .int (2 * wide)]], .int (2 * wide), .bool true],
    .tuple [.tuple [.tuple [.str "between", .str "most", .int 0]], .int 0, .bool false],
    .tuple [.tuple [.tuple [.str "upto", .tuple [.str "part", .tuple [.int 1, .int 2]]]], .none, .bool true],
    .tuple [.tuple [.tuple [.str "part", .int 1], .tuple [.str "upto", .int 1]], .none, .bool true]] := by
  simp only [casesL, List.map_cons, List.map_nil, caseD, Sv.d, Pv.d, nI, oi, Option.map_none, nq_int, nq_half, show nq 1728 = .int 1 from nq_int 1]
theorem cases_some (wide r : Int) : (casesL wide (some r)).map caseD = [.tuple [.tuple [.tuple [.str "upto", .int 3]], .int 3, .bool true],
    .tuple [.tuple [.tuple [.str "upto", .int 3], .tuple [.str "upto", .int 4]], .int 7, .bool true],
    .tuple [.tuple [.tuple [.str "between", .str "least", .int 5], .int 2], .int 7, .bool false],
    .tuple [.tuple [.int 6], .int 6, .bool false],
    .tuple [.tuple [.tuple [.str "upto", .int 3], .str "auto"], .none, .bool true],
    .tuple [.tuple [.tuple [.str "upto", .int 3], .tuple [.str "share", .int 1]], .none, .bool false],
    .tuple [.tuple [.tuple [.str "between", .int 2, .int 9], .tuple [.str "upto", .int 1]], .int 10, .bool true],
    .tuple [.tuple [.str "least"], .none, .bool false],
    .tuple [.tuple [.str "auto", .int 4], .none, .bool true],
    .tuple [.tuple [.tuple [.str "upto", .int (2 * wide)]], .int (2 * wide), .bool true],
    .tuple [.tuple [.tuple [.str "between", .str "most", .int 0]], .int 0, .bool false],
    .tuple [.tuple [.tuple [.str "upto", .tuple [.str "part", .tuple [.int 1, .int 2]]]], .int (r / 2), .bool true],
    .tuple [.tuple [.tuple [.str "part", .int 1], .tuple [.str "upto", .int 1]], .int (r + 1), .bool true]] := by
  simp only [casesL, List.map_cons, List.map_nil, caseD, Sv.d, Pv.d, nI, oi, Option.map_some, nq_int, nq_half, show nq 1728 = .int 1 from nq_int 1]
section
variable {P : Program} {w : World} {K : PySem.W.Frag} {mg : Str → Option Value} {base : Heap}
def spCL (K : PySem.W.Frag) : Sp := fun vs H Q _ => ∃ (wide : Int) (v : V) (room : Option Int), vs = [.int wide, v] ∧ Dp K H v (oi room) ∧ 0 ≤ wide ∧ wide ≤ 1000 ∧ (∀ r, room = some r → 0 ≤ r ∧ r ≤ 1000) ∧ ∀ H' D us, Same H H' → H' D = some (.lst us) → DpAll K H' us ((casesL wide room).map caseD) → Q (.ref D) H'
theorem scCL : FnScope ["wide", "room", "cases"] ["wide", "room"] (defScope (top 146)) := ⟨rfl, rfl, rfl, by decide +kernel, rfl, by decide +kernel, by decide +kernel⟩
theorem ok_cl {f : Addr} {fd : FuncData} (F : FnP K "_law_cases" (top 146) f fd) : FnOk P w K mg base CX0 1 f fd ["wide", "room"] (spCL K) := by
  refine F.ok scCL (fun vs H Q E h => ?_) (fun cdv A outer s H vs Q E hr h => ?_)
  · obtain ⟨wide, v, room, rfl, _⟩ := h
    rfl
  · obtain ⟨wide, v, room, rfl, hv, w0, w1, hr1, k⟩ := h
    refine ⟨_, PSs.nox (pss_cons (ps_set (i := 2) scCL.nd rfl (Or.inl rfl) (pe_lst (pa_cons (pe_tup (pa_cons (pe_tup (pa_cons (pe_tup (pa_cons pe_str (pa_cons pe_int pa_nil))) pa_nil)) (pa_cons pe_int (pa_cons pe_bl pa_nil)))) (pa_cons (pe_tup (pa_cons (pe_tup (pa_cons (pe_tup (pa_cons pe_str (pa_cons pe_int pa_nil))) (pa_cons (pe_tup (pa_cons pe_str (pa_cons pe_int pa_nil))) pa_nil))) (pa_cons pe_int (pa_cons pe_bl pa_nil)))) (pa_cons (pe_tup (pa_cons (pe_tup (pa_cons (pe_tup (pa_cons pe_str (pa_cons pe_str (pa_cons pe_int pa_nil)))) (pa_cons pe_int pa_nil))) (pa_cons pe_int (pa_cons pe_bl pa_nil)))) pa_nil)))))
  (pss_cons (ps_set (i := 2) scCL.nd rfl (Or.inl rfl) (pe_op op_catS (pv 2) (pe_lst (pa_cons (pe_tup (pa_cons (pe_tup (pa_cons pe_int pa_nil)) (pa_cons pe_int (pa_cons pe_bl pa_nil)))) (pa_cons (pe_tup (pa_cons (pe_tup (pa_cons (pe_tup (pa_cons pe_str (pa_cons pe_int pa_nil))) (pa_cons pe_str pa_nil))) (pa_cons pe_non (pa_cons pe_bl pa_nil)))) (pa_cons (pe_tup (pa_cons (pe_tup (pa_cons (pe_tup (pa_cons pe_str (pa_cons pe_int pa_nil))) (pa_cons (pe_tup (pa_cons pe_str (pa_cons pe_int pa_nil))) pa_nil))) (pa_cons pe_non (pa_cons pe_bl pa_nil)))) pa_nil))))))
  (pss_cons (ps_set (i := 2) scCL.nd rfl (Or.inl rfl) (pe_op op_catS (pv 2) (pe_lst (pa_cons (pe_tup (pa_cons (pe_tup (pa_cons (pe_tup (pa_cons pe_str (pa_cons pe_int (pa_cons pe_int pa_nil)))) (pa_cons (pe_tup (pa_cons pe_str (pa_cons pe_int pa_nil))) pa_nil))) (pa_cons pe_int (pa_cons pe_bl pa_nil)))) (pa_cons (pe_tup (pa_cons (pe_tup (pa_cons pe_str pa_nil)) (pa_cons pe_non (pa_cons pe_bl pa_nil)))) (pa_cons (pe_tup (pa_cons (pe_tup (pa_cons pe_str (pa_cons pe_int pa_nil))) (pa_cons pe_non (pa_cons pe_bl pa_nil)))) pa_nil))))))
  (pss_cons (ps_set (i := 2) scCL.nd rfl (Or.inl rfl) (pe_op op_catS (pv 2) (pe_lst (pa_cons (pe_tup (pa_cons (pe_tup (pa_cons (pe_tup (pa_cons pe_str (pa_cons (pe_op op_mulW pe_int (pv 0)) pa_nil))) pa_nil)) (pa_cons (pe_op op_mulW pe_int (pv 0)) (pa_cons pe_bl pa_nil)))) (pa_cons (pe_tup (pa_cons (pe_tup (pa_cons (pe_tup (pa_cons pe_str (pa_cons pe_str (pa_cons pe_int pa_nil)))) pa_nil)) (pa_cons pe_int (pa_cons pe_bl pa_nil)))) pa_nil)))))
  (pss_cons (ps_expr (pe_bm PySem.F.plainAttrs_list PySem.F.slot_list_append PySem.F.type_list_append mt_append (pv 2) (pa_cons (pe_tup (pa_cons (pe_tup (pa_cons (pe_tup (pa_cons pe_str (pa_cons (pe_tup (pa_cons pe_str (pa_cons (pe_tup (pa_cons pe_int (pa_cons pe_int pa_nil))) pa_nil))) pa_nil))) pa_nil)) (pa_cons (pe_ifExp (pt_cmp (pc_isN (pv 1))) pe_non (pe_op op_fdivW (pv 1) pe_int)) (pa_cons pe_bl pa_nil)))) pa_nil)))
  (pss_one (ps_ret (pe_op op_catS (pv 2) (pe_lst (pa_cons (pe_tup (pa_cons (pe_tup (pa_cons (pe_tup (pa_cons pe_str (pa_cons pe_int pa_nil))) (pa_cons (pe_tup (pa_cons pe_str (pa_cons pe_int pa_nil))) pa_nil))) (pa_cons (pe_ifExp (pt_cmp (pc_isN (pv 1))) pe_non (pe_op op_add (pv 1) pe_int)) (pa_cons pe_bl pa_nil)))) pa_nil)))))))))), ?_⟩
    cases room with
    | none =>
      cases hv
      rw [cases_none] at k
      refine ⟨(by show 2 ≤ sizeLine; decide), fun t1 nt1 => ?_⟩
      have st1 := same_upd (o := .tup [.str "upto", .int 3]) nt1
      have dt1 : Dp K _ (.ref t1) (.tuple [.str "upto", .int 3]) := tupNew (xs := [.str "upto", .int 3]) nt1 (.cons (.str _) (.cons (.int _) .nil))
      refine ⟨(by show 1 ≤ sizeLine; decide), fun t2 nt2 => ?_⟩
      have st2 := same_upd (o := .tup [.ref t1]) nt2
      have dt2 : Dp K _ (.ref t2) (.tuple [.tuple [.str "upto", .int 3]]) := tupNew (xs := [.ref t1]) nt2 (.cons (dpS st2 dt1) .nil)
      refine ⟨(by show 3 ≤ sizeLine; decide), fun t3 nt3 => ?_⟩
      have st3 := same_upd (o := .tup [.ref t2, .int 3, .bl true]) nt3
      have dt3 : Dp K _ (.ref t3) (.tuple [.tuple [.tuple [.str "upto", .int 3]], .int 3, .bool true]) := tupNew (xs := [.ref t2, .int 3, .bl true]) nt3 (.cons (dpS st3 dt2) (.cons (.int _) (.cons (.bl _) .nil)))
      refine ⟨(by show 2 ≤ sizeLine; decide), fun t4 nt4 => ?_⟩
      have st4 := same_upd (o := .tup [.str "upto", .int 3]) nt4
      have dt4 : Dp K _ (.ref t4) (.tuple [.str "upto", .int 3]) := tupNew (xs := [.str "upto", .int 3]) nt4 (.cons (.str _) (.cons (.int _) .nil))
      refine ⟨(by show 2 ≤ sizeLine; decide), fun t5 nt5 => ?_⟩
      have st5 := same_upd (o := .tup [.str "upto", .int 4]) nt5
      have dt5 : Dp K _ (.ref t5) (.tuple [.str "upto", .int 4]) := tupNew (xs := [.str "upto", .int 4]) nt5 (.cons (.str _) (.cons (.int _) .nil))
      refine ⟨(by show 2 ≤ sizeLine; decide), fun t6 nt6 => ?_⟩
      have st6 := same_upd (o := .tup [.ref t4, .ref t5]) nt6
      have dt6 : Dp K _ (.ref t6) (.tuple [.tuple [.str "upto", .int 3], .tuple [.str "upto", .int 4]]) := tupNew (xs := [.ref t4, .ref t5]) nt6 (.cons (dpS (st5.trans st6) dt4) (.cons (dpS st6 dt5) .nil))
      refine ⟨(by show 3 ≤ sizeLine; decide), fun t7 nt7 => ?_⟩
      have st7 := same_upd (o := .tup [.ref t6, .int 7, .bl true]) nt7
      have dt7 : Dp K _ (.ref t7) (.tuple [.tuple [.tuple [.str "upto", .int 3], .tuple [.str "upto", .int 4]], .int 7, .bool true]) := tupNew (xs := [.ref t6, .int 7, .bl true]) nt7 (.cons (dpS st7 dt6) (.cons (.int _) (.cons (.bl _) .nil)))
      refine ⟨(by show 3 ≤ sizeLine; decide), fun t8 nt8 => ?_⟩
      have st8 := same_upd (o := .tup [.str "between", .str "least", .int 5]) nt8
      have dt8 : Dp K _ (.ref t8) (.tuple [.str "between", .str "least", .int 5]) := tupNew (xs := [.str "between", .str "least", .int 5]) nt8 (.cons (.str _) (.cons (.str _) (.cons (.int _) .nil)))
      refine ⟨(by show 2 ≤ sizeLine; decide), fun t9 nt9 => ?_⟩
      have st9 := same_upd (o := .tup [.ref t8, .int 2]) nt9
      have dt9 : Dp K _ (.ref t9) (.tuple [.tuple [.str "between", .str "least", .int 5], .int 2]) := tupNew (xs := [.ref t8, .int 2]) nt9 (.cons (dpS st9 dt8) (.cons (.int _) .nil))
      refine ⟨(by show 3 ≤ sizeLine; decide), fun t10 nt10 => ?_⟩
      have st10 := same_upd (o := .tup [.ref t9, .int 7, .bl false]) nt10
      have dt10 : Dp K _ (.ref t10) (.tuple [.tuple [.tuple [.str "between", .str "least", .int 5], .int 2], .int 7, .bool false]) := tupNew (xs := [.ref t9, .int 7, .bl false]) nt10 (.cons (dpS st10 dt9) (.cons (.int _) (.cons (.bl _) .nil)))
      refine ⟨(by show 3 ≤ sizeLine; decide), fun l11 nl11 => ?_⟩
      have sl11 := same_upd (o := .lst [.ref t3, .ref t7, .ref t10]) nl11
      have sB := ((((((((((st1.trans st2).trans st3).trans st4).trans st5).trans st6).trans st7).trans st8).trans st9).trans st10).trans sl11)
      have hL := lstNew (xs := [.ref t3, .ref t7, .ref t10]) nl11
      have hall : DpAll K _ ([.ref t3, .ref t7, .ref t10] : List V) [.tuple [.tuple [.tuple [.str "upto", .int 3]], .int 3, .bool true], .tuple [.tuple [.tuple [.str "upto", .int 3], .tuple [.str "upto", .int 4]], .int 7, .bool true], .tuple [.tuple [.tuple [.str "between", .str "least", .int 5], .int 2], .int 7, .bool false]] := (.cons (dpS (((((((st4.trans st5).trans st6).trans st7).trans st8).trans st9).trans st10).trans sl11) dt3) (.cons (dpS (((st8.trans st9).trans st10).trans sl11) dt7) (.cons (dpS sl11 dt10) .nil)))
      refine ⟨_, rfl, ?_⟩
      refine ⟨(by show 1 ≤ sizeLine; decide), fun t12 nt12 => ?_⟩
      have st12 := same_upd (o := .tup [.int 6]) nt12
      have dt12 : Dp K _ (.ref t12) (.tuple [.int 6]) := tupNew (xs := [.int 6]) nt12 (.cons (.int _) .nil)
      refine ⟨(by show 3 ≤ sizeLine; decide), fun t13 nt13 => ?_⟩
      have st13 := same_upd (o := .tup [.ref t12, .int 6, .bl false]) nt13
      have dt13 : Dp K _ (.ref t13) (.tuple [.tuple [.int 6], .int 6, .bool false]) := tupNew (xs := [.ref t12, .int 6, .bl false]) nt13 (.cons (dpS st13 dt12) (.cons (.int _) (.cons (.bl _) .nil)))
      refine ⟨(by show 2 ≤ sizeLine; decide), fun t14 nt14 => ?_⟩
      have st14 := same_upd (o := .tup [.str "upto", .int 3]) nt14
      have dt14 : Dp K _ (.ref t14) (.tuple [.str "upto", .int 3]) := tupNew (xs := [.str "upto", .int 3]) nt14 (.cons (.str _) (.cons (.int _) .nil))
      refine ⟨(by show 2 ≤ sizeLine; decide), fun t15 nt15 => ?_⟩
      have st15 := same_upd (o := .tup [.ref t14, .str "auto"]) nt15
      have dt15 : Dp K _ (.ref t15) (.tuple [.tuple [.str "upto", .int 3], .str "auto"]) := tupNew (xs := [.ref t14, .str "auto"]) nt15 (.cons (dpS st15 dt14) (.cons (.str _) .nil))
      refine ⟨(by show 3 ≤ sizeLine; decide), fun t16 nt16 => ?_⟩
      have st16 := same_upd (o := .tup [.ref t15, .non, .bl true]) nt16
      have dt16 : Dp K _ (.ref t16) (.tuple [.tuple [.tuple [.str "upto", .int 3], .str "auto"], .none, .bool true]) := tupNew (xs := [.ref t15, .non, .bl true]) nt16 (.cons (dpS st16 dt15) (.cons .non (.cons (.bl _) .nil)))
      refine ⟨(by show 2 ≤ sizeLine; decide), fun t17 nt17 => ?_⟩
      have st17 := same_upd (o := .tup [.str "upto", .int 3]) nt17
      have dt17 : Dp K _ (.ref t17) (.tuple [.str "upto", .int 3]) := tupNew (xs := [.str "upto", .int 3]) nt17 (.cons (.str _) (.cons (.int _) .nil))
      refine ⟨(by show 2 ≤ sizeLine; decide), fun t18 nt18 => ?_⟩
      have st18 := same_upd (o := .tup [.str "share", .int 1]) nt18
      have dt18 : Dp K _ (.ref t18) (.tuple [.str "share", .int 1]) := tupNew (xs := [.str "share", .int 1]) nt18 (.cons (.str _) (.cons (.int _) .nil))
      refine ⟨(by show 2 ≤ sizeLine; decide), fun t19 nt19 => ?_⟩
      have st19 := same_upd (o := .tup [.ref t17, .ref t18]) nt19
      have dt19 : Dp K _ (.ref t19) (.tuple [.tuple [.str "upto", .int 3], .tuple [.str "share", .int 1]]) := tupNew (xs := [.ref t17, .ref t18]) nt19 (.cons (dpS (st18.trans st19) dt17) (.cons (dpS st19 dt18) .nil))
      refine ⟨(by show 3 ≤ sizeLine; decide), fun t20 nt20 => ?_⟩
      have st20 := same_upd (o := .tup [.ref t19, .non, .bl false]) nt20
      have dt20 : Dp K _ (.ref t20) (.tuple [.tuple [.tuple [.str "upto", .int 3], .tuple [.str "share", .int 1]], .none, .bool false]) := tupNew (xs := [.ref t19, .non, .bl false]) nt20 (.cons (dpS st20 dt19) (.cons .non (.cons (.bl _) .nil)))
      refine ⟨(by show 3 ≤ sizeLine; decide), fun l21 nl21 => ?_⟩
      have sl21 := same_upd (o := .lst [.ref t13, .ref t16, .ref t20]) nl21
      refine ⟨l11, l21, _, _, rfl, rfl, SqL.of ((((((((((st12.trans st13).trans st14).trans st15).trans st16).trans st17).trans st18).trans st19).trans st20).trans sl21) _ _ hL), SqL.of upd_same, (by show 6 ≤ sizeLine; decide), fun ql21 nql21 => ?_⟩
      have sql21 := same_upd (o := .lst ([.ref t3, .ref t7, .ref t10, .ref t13, .ref t16, .ref t20] : List V)) nql21
      have hall3 := dpSnoc (dpSA ((((((((((st12.trans st13).trans st14).trans st15).trans st16).trans st17).trans st18).trans st19).trans st20).trans sl21).trans sql21) hall) (dpSA sql21 ((.cons (dpS (((((((st14.trans st15).trans st16).trans st17).trans st18).trans st19).trans st20).trans sl21) dt13) (.cons (dpS ((((st17.trans st18).trans st19).trans st20).trans sl21) dt16) (.cons (dpS sl21 dt20) .nil))) : DpAll K _ _ [.tuple [.tuple [.int 6], .int 6, .bool false], .tuple [.tuple [.tuple [.str "upto", .int 3], .str "auto"], .none, .bool true], .tuple [.tuple [.tuple [.str "upto", .int 3], .tuple [.str "share", .int 1]], .none, .bool false]]))
      have sB2 := (sB.trans (((((((((st12.trans st13).trans st14).trans st15).trans st16).trans st17).trans st18).trans st19).trans st20).trans sl21)).trans sql21
      have nCur := none_of (sB.trans (((((((((st12.trans st13).trans st14).trans st15).trans st16).trans st17).trans st18).trans st19).trans st20).trans sl21)) nql21
      have sB := sB2
      have hL := lstNew (xs := [.ref t3, .ref t7, .ref t10, .ref t13, .ref t16, .ref t20]) nql21
      have hall : DpAll K _ ([.ref t3, .ref t7, .ref t10, .ref t13, .ref t16, .ref t20] : List V) [.tuple [.tuple [.tuple [.str "upto", .int 3]], .int 3, .bool true], .tuple [.tuple [.tuple [.str "upto", .int 3], .tuple [.str "upto", .int 4]], .int 7, .bool true], .tuple [.tuple [.tuple [.str "between", .str "least", .int 5], .int 2], .int 7, .bool false], .tuple [.tuple [.int 6], .int 6, .bool false], .tuple [.tuple [.tuple [.str "upto", .int 3], .str "auto"], .none, .bool true], .tuple [.tuple [.tuple [.str "upto", .int 3], .tuple [.str "share", .int 1]], .none, .bool false]] := hall3
      refine ⟨_, rfl, ?_⟩
      refine ⟨(by show 3 ≤ sizeLine; decide), fun t22 nt22 => ?_⟩
      have st22 := same_upd (o := .tup [.str "between", .int 2, .int 9]) nt22
      have dt22 : Dp K _ (.ref t22) (.tuple [.str "between", .int 2, .int 9]) := tupNew (xs := [.str "between", .int 2, .int 9]) nt22 (.cons (.str _) (.cons (.int _) (.cons (.int _) .nil)))
      refine ⟨(by show 2 ≤ sizeLine; decide), fun t23 nt23 => ?_⟩
      have st23 := same_upd (o := .tup [.str "upto", .int 1]) nt23
      have dt23 : Dp K _ (.ref t23) (.tuple [.str "upto", .int 1]) := tupNew (xs := [.str "upto", .int 1]) nt23 (.cons (.str _) (.cons (.int _) .nil))
      refine ⟨(by show 2 ≤ sizeLine; decide), fun t24 nt24 => ?_⟩
      have st24 := same_upd (o := .tup [.ref t22, .ref t23]) nt24
      have dt24 : Dp K _ (.ref t24) (.tuple [.tuple [.str "between", .int 2, .int 9], .tuple [.str "upto", .int 1]]) := tupNew (xs := [.ref t22, .ref t23]) nt24 (.cons (dpS (st23.trans st24) dt22) (.cons (dpS st24 dt23) .nil))
      refine ⟨(by show 3 ≤ sizeLine; decide), fun t25 nt25 => ?_⟩
      have st25 := same_upd (o := .tup [.ref t24, .int 10, .bl true]) nt25
      have dt25 : Dp K _ (.ref t25) (.tuple [.tuple [.tuple [.str "between", .int 2, .int 9], .tuple [.str "upto", .int 1]], .int 10, .bool true]) := tupNew (xs := [.ref t24, .int 10, .bl true]) nt25 (.cons (dpS st25 dt24) (.cons (.int _) (.cons (.bl _) .nil)))
      refine ⟨(by show 1 ≤ sizeLine; decide), fun t26 nt26 => ?_⟩
      have st26 := same_upd (o := .tup [.str "least"]) nt26
      have dt26 : Dp K _ (.ref t26) (.tuple [.str "least"]) := tupNew (xs := [.str "least"]) nt26 (.cons (.str _) .nil)
      refine ⟨(by show 3 ≤ sizeLine; decide), fun t27 nt27 => ?_⟩
      have st27 := same_upd (o := .tup [.ref t26, .non, .bl false]) nt27
      have dt27 : Dp K _ (.ref t27) (.tuple [.tuple [.str "least"], .none, .bool false]) := tupNew (xs := [.ref t26, .non, .bl false]) nt27 (.cons (dpS st27 dt26) (.cons .non (.cons (.bl _) .nil)))
      refine ⟨(by show 2 ≤ sizeLine; decide), fun t28 nt28 => ?_⟩
      have st28 := same_upd (o := .tup [.str "auto", .int 4]) nt28
      have dt28 : Dp K _ (.ref t28) (.tuple [.str "auto", .int 4]) := tupNew (xs := [.str "auto", .int 4]) nt28 (.cons (.str _) (.cons (.int _) .nil))
      refine ⟨(by show 3 ≤ sizeLine; decide), fun t29 nt29 => ?_⟩
      have st29 := same_upd (o := .tup [.ref t28, .non, .bl true]) nt29
      have dt29 : Dp K _ (.ref t29) (.tuple [.tuple [.str "auto", .int 4], .none, .bool true]) := tupNew (xs := [.ref t28, .non, .bl true]) nt29 (.cons (dpS st29 dt28) (.cons .non (.cons (.bl _) .nil)))
      refine ⟨(by show 3 ≤ sizeLine; decide), fun l30 nl30 => ?_⟩
      have sl30 := same_upd (o := .lst [.ref t25, .ref t27, .ref t29]) nl30
      refine ⟨ql21, l30, _, _, rfl, rfl, SqL.of (((((((((st22.trans st23).trans st24).trans st25).trans st26).trans st27).trans st28).trans st29).trans sl30) _ _ hL), SqL.of upd_same, (by show 9 ≤ sizeLine; decide), fun ql30 nql30 => ?_⟩
      have sql30 := same_upd (o := .lst ([.ref t3, .ref t7, .ref t10, .ref t13, .ref t16, .ref t20, .ref t25, .ref t27, .ref t29] : List V)) nql30
      have hall3 := dpSnoc (dpSA (((((((((st22.trans st23).trans st24).trans st25).trans st26).trans st27).trans st28).trans st29).trans sl30).trans sql30) hall) (dpSA sql30 ((.cons (dpS ((((st26.trans st27).trans st28).trans st29).trans sl30) dt25) (.cons (dpS ((st28.trans st29).trans sl30) dt27) (.cons (dpS sl30 dt29) .nil))) : DpAll K _ _ [.tuple [.tuple [.tuple [.str "between", .int 2, .int 9], .tuple [.str "upto", .int 1]], .int 10, .bool true], .tuple [.tuple [.str "least"], .none, .bool false], .tuple [.tuple [.str "auto", .int 4], .none, .bool true]]))
      have sB2 := (sB.trans ((((((((st22.trans st23).trans st24).trans st25).trans st26).trans st27).trans st28).trans st29).trans sl30)).trans sql30
      have nCur := none_of (sB.trans ((((((((st22.trans st23).trans st24).trans st25).trans st26).trans st27).trans st28).trans st29).trans sl30)) nql30
      have sB := sB2
      have hL := lstNew (xs := [.ref t3, .ref t7, .ref t10, .ref t13, .ref t16, .ref t20, .ref t25, .ref t27, .ref t29]) nql30
      have hall : DpAll K _ ([.ref t3, .ref t7, .ref t10, .ref t13, .ref t16, .ref t20, .ref t25, .ref t27, .ref t29] : List V) [.tuple [.tuple [.tuple [.str "upto", .int 3]], .int 3, .bool true], .tuple [.tuple [.tuple [.str "upto", .int 3], .tuple [.str "upto", .int 4]], .int 7, .bool true], .tuple [.tuple [.tuple [.str "between", .str "least", .int 5], .int 2], .int 7, .bool false], .tuple [.tuple [.int 6], .int 6, .bool false], .tuple [.tuple [.tuple [.str "upto", .int 3], .str "auto"], .none, .bool true], .tuple [.tuple [.tuple [.str "upto", .int 3], .tuple [.str "share", .int 1]], .none, .bool false], .tuple [.tuple [.tuple [.str "between", .int 2, .int 9], .tuple [.str "upto", .int 1]], .int 10, .bool true], .tuple [.tuple [.str "least"], .none, .bool false], .tuple [.tuple [.str "auto", .int 4], .none, .bool true]] := hall3
      refine ⟨_, rfl, ?_⟩
      refine ⟨_, rfl, _, _, rfl, rfl, wm (by decide) (by omega), ?_⟩
      refine ⟨(by show 2 ≤ sizeLine; decide), fun t31 nt31 => ?_⟩
      have st31 := same_upd (o := .tup [.str "upto", .int (2 * wide)]) nt31
      have dt31 : Dp K _ (.ref t31) (.tuple [.str "upto", .int (2 * wide)]) := tupNew (xs := [.str "upto", .int (2 * wide)]) nt31 (.cons (.str _) (.cons (.int _) .nil))
      refine ⟨(by show 1 ≤ sizeLine; decide), fun t32 nt32 => ?_⟩
      have st32 := same_upd (o := .tup [.ref t31]) nt32
      have dt32 : Dp K _ (.ref t32) (.tuple [.tuple [.str "upto", .int (2 * wide)]]) := tupNew (xs := [.ref t31]) nt32 (.cons (dpS st32 dt31) .nil)
      refine ⟨_, rfl, _, _, rfl, rfl, wm (by decide) (by omega), ?_⟩
      refine ⟨(by show 3 ≤ sizeLine; decide), fun t33 nt33 => ?_⟩
      have st33 := same_upd (o := .tup [.ref t32, .int (2 * wide), .bl true]) nt33
      have dt33 : Dp K _ (.ref t33) (.tuple [.tuple [.tuple [.str "upto", .int (2 * wide)]], .int (2 * wide), .bool true]) := tupNew (xs := [.ref t32, .int (2 * wide), .bl true]) nt33 (.cons (dpS st33 dt32) (.cons (.int _) (.cons (.bl _) .nil)))
      refine ⟨(by show 3 ≤ sizeLine; decide), fun t34 nt34 => ?_⟩
      have st34 := same_upd (o := .tup [.str "between", .str "most", .int 0]) nt34
      have dt34 : Dp K _ (.ref t34) (.tuple [.str "between", .str "most", .int 0]) := tupNew (xs := [.str "between", .str "most", .int 0]) nt34 (.cons (.str _) (.cons (.str _) (.cons (.int _) .nil)))
      refine ⟨(by show 1 ≤ sizeLine; decide), fun t35 nt35 => ?_⟩
      have st35 := same_upd (o := .tup [.ref t34]) nt35
      have dt35 : Dp K _ (.ref t35) (.tuple [.tuple [.str "between", .str "most", .int 0]]) := tupNew (xs := [.ref t34]) nt35 (.cons (dpS st35 dt34) .nil)
      refine ⟨(by show 3 ≤ sizeLine; decide), fun t36 nt36 => ?_⟩
      have st36 := same_upd (o := .tup [.ref t35, .int 0, .bl false]) nt36
      have dt36 : Dp K _ (.ref t36) (.tuple [.tuple [.tuple [.str "between", .str "most", .int 0]], .int 0, .bool false]) := tupNew (xs := [.ref t35, .int 0, .bl false]) nt36 (.cons (dpS st36 dt35) (.cons (.int _) (.cons (.bl _) .nil)))
      refine ⟨(by show 2 ≤ sizeLine; decide), fun l37 nl37 => ?_⟩
      have sl37 := same_upd (o := .lst [.ref t33, .ref t36]) nl37
      refine ⟨ql30, l37, _, _, rfl, rfl, SqL.of (((((((st31.trans st32).trans st33).trans st34).trans st35).trans st36).trans sl37) _ _ hL), SqL.of upd_same, (by show 11 ≤ sizeLine; decide), fun ql37 nql37 => ?_⟩
      have sql37 := same_upd (o := .lst ([.ref t3, .ref t7, .ref t10, .ref t13, .ref t16, .ref t20, .ref t25, .ref t27, .ref t29, .ref t33, .ref t36] : List V)) nql37
      have hall3 := dpSnoc (dpSA (((((((st31.trans st32).trans st33).trans st34).trans st35).trans st36).trans sl37).trans sql37) hall) (dpSA sql37 ((.cons (dpS (((st34.trans st35).trans st36).trans sl37) dt33) (.cons (dpS sl37 dt36) .nil)) : DpAll K _ _ [.tuple [.tuple [.tuple [.str "upto", .int (2 * wide)]], .int (2 * wide), .bool true], .tuple [.tuple [.tuple [.str "between", .str "most", .int 0]], .int 0, .bool false]]))
      have sB2 := (sB.trans ((((((st31.trans st32).trans st33).trans st34).trans st35).trans st36).trans sl37)).trans sql37
      have nCur := none_of (sB.trans ((((((st31.trans st32).trans st33).trans st34).trans st35).trans st36).trans sl37)) nql37
      have sB := sB2
      have hL := lstNew (xs := [.ref t3, .ref t7, .ref t10, .ref t13, .ref t16, .ref t20, .ref t25, .ref t27, .ref t29, .ref t33, .ref t36]) nql37
      have hall : DpAll K _ ([.ref t3, .ref t7, .ref t10, .ref t13, .ref t16, .ref t20, .ref t25, .ref t27, .ref t29, .ref t33, .ref t36] : List V) [.tuple [.tuple [.tuple [.str "upto", .int 3]], .int 3, .bool true], .tuple [.tuple [.tuple [.str "upto", .int 3], .tuple [.str "upto", .int 4]], .int 7, .bool true], .tuple [.tuple [.tuple [.str "between", .str "least", .int 5], .int 2], .int 7, .bool false], .tuple [.tuple [.int 6], .int 6, .bool false], .tuple [.tuple [.tuple [.str "upto", .int 3], .str "auto"], .none, .bool true], .tuple [.tuple [.tuple [.str "upto", .int 3], .tuple [.str "share", .int 1]], .none, .bool false], .tuple [.tuple [.tuple [.str "between", .int 2, .int 9], .tuple [.str "upto", .int 1]], .int 10, .bool true], .tuple [.tuple [.str "least"], .none, .bool false], .tuple [.tuple [.str "auto", .int 4], .none, .bool true], .tuple [.tuple [.tuple [.str "upto", .int (2 * wide)]], .int (2 * wide), .bool true], .tuple [.tuple [.tuple [.str "between", .str "most", .int 0]], .int 0, .bool false]] := hall3
      refine ⟨_, rfl, .inl ⟨rfl, _, SqL.of hL⟩, ?_⟩
      refine ⟨(by show 2 ≤ sizeLine; decide), fun t38 nt38 => ?_⟩
      have st38 := same_upd (o := .tup [.int 1, .int 2]) nt38
      have dt38 : Dp K _ (.ref t38) (.tuple [.int 1, .int 2]) := tupNew (xs := [.int 1, .int 2]) nt38 (.cons (.int _) (.cons (.int _) .nil))
      refine ⟨(by show 2 ≤ sizeLine; decide), fun t39 nt39 => ?_⟩
      have st39 := same_upd (o := .tup [.str "part", .ref t38]) nt39
      have dt39 : Dp K _ (.ref t39) (.tuple [.str "part", .tuple [.int 1, .int 2]]) := tupNew (xs := [.str "part", .ref t38]) nt39 (.cons (.str _) (.cons (dpS st39 dt38) .nil))
      refine ⟨(by show 2 ≤ sizeLine; decide), fun t40 nt40 => ?_⟩
      have st40 := same_upd (o := .tup [.str "upto", .ref t39]) nt40
      have dt40 : Dp K _ (.ref t40) (.tuple [.str "upto", .tuple [.str "part", .tuple [.int 1, .int 2]]]) := tupNew (xs := [.str "upto", .ref t39]) nt40 (.cons (.str _) (.cons (dpS st40 dt39) .nil))
      refine ⟨(by show 1 ≤ sizeLine; decide), fun t41 nt41 => ?_⟩
      have st41 := same_upd (o := .tup [.ref t40]) nt41
      have dt41 : Dp K _ (.ref t41) (.tuple [.tuple [.str "upto", .tuple [.str "part", .tuple [.int 1, .int 2]]]]) := tupNew (xs := [.ref t40]) nt41 (.cons (dpS st41 dt40) .nil)
      refine ⟨_, rfl, true, rfl, iteT ?_⟩
      refine ⟨(by show 3 ≤ sizeLine; decide), fun t42 nt42 => ?_⟩
      have st42 := same_upd (o := .tup [.ref t41, .non, .bl true]) nt42
      have dt42 : Dp K _ (.ref t42) (.tuple [.tuple [.tuple [.str "upto", .tuple [.str "part", .tuple [.int 1, .int 2]]]], .none, .bool true]) := tupNew (xs := [.ref t41, .non, .bl true]) nt42 (.cons (dpS st42 dt41) (.cons .non (.cons (.bl _) .nil)))
      have hL2 := ((((st38.trans st39).trans st40).trans st41).trans st42) _ _ hL
      have hall2 := dpSA ((((st38.trans st39).trans st40).trans st41).trans st42) hall
      have sB2 := sB.trans ((((st38.trans st39).trans st40).trans st41).trans st42)
      refine ⟨ql37, _, _, rfl, rfl, hL2, (by show 11 < sizeLine; decide), ?_⟩
      have kU := kUp (xs := [.ref t3, .ref t7, .ref t10, .ref t13, .ref t16, .ref t20, .ref t25, .ref t27, .ref t29, .ref t33, .ref t36, .ref t42]) hL2
      have hall3 := dpSnoc (dpLs kU hL2 (by rfl) hall2) (.cons (dpL kU hL2 (by rfl) dt42) .nil)
      have sB3 := same_upd' (o := .lst ([.ref t3, .ref t7, .ref t10, .ref t13, .ref t16, .ref t20, .ref t25, .ref t27, .ref t29, .ref t33, .ref t36, .ref t42] : List V)) nCur sB2
      have hL := updS (xs := [.ref t3, .ref t7, .ref t10, .ref t13, .ref t16, .ref t20, .ref t25, .ref t27, .ref t29, .ref t33, .ref t36, .ref t42]) hL2
      have hall : DpAll K _ ([.ref t3, .ref t7, .ref t10, .ref t13, .ref t16, .ref t20, .ref t25, .ref t27, .ref t29, .ref t33, .ref t36, .ref t42] : List V) [.tuple [.tuple [.tuple [.str "upto", .int 3]], .int 3, .bool true], .tuple [.tuple [.tuple [.str "upto", .int 3], .tuple [.str "upto", .int 4]], .int 7, .bool true], .tuple [.tuple [.tuple [.str "between", .str "least", .int 5], .int 2], .int 7, .bool false], .tuple [.tuple [.int 6], .int 6, .bool false], .tuple [.tuple [.tuple [.str "upto", .int 3], .str "auto"], .none, .bool true], .tuple [.tuple [.tuple [.str "upto", .int 3], .tuple [.str "share", .int 1]], .none, .bool false], .tuple [.tuple [.tuple [.str "between", .int 2, .int 9], .tuple [.str "upto", .int 1]], .int 10, .bool true], .tuple [.tuple [.str "least"], .none, .bool false], .tuple [.tuple [.str "auto", .int 4], .none, .bool true], .tuple [.tuple [.tuple [.str "upto", .int (2 * wide)]], .int (2 * wide), .bool true], .tuple [.tuple [.tuple [.str "between", .str "most", .int 0]], .int 0, .bool false], .tuple [.tuple [.tuple [.str "upto", .tuple [.str "part", .tuple [.int 1, .int 2]]]], .none, .bool true]] := hall3
      have sB := sB3
      refine ⟨_, rfl, ?_⟩
      refine ⟨(by show 2 ≤ sizeLine; decide), fun t43 nt43 => ?_⟩
      have st43 := same_upd (o := .tup [.str "part", .int 1]) nt43
      have dt43 : Dp K _ (.ref t43) (.tuple [.str "part", .int 1]) := tupNew (xs := [.str "part", .int 1]) nt43 (.cons (.str _) (.cons (.int _) .nil))
      refine ⟨(by show 2 ≤ sizeLine; decide), fun t44 nt44 => ?_⟩
      have st44 := same_upd (o := .tup [.str "upto", .int 1]) nt44
      have dt44 : Dp K _ (.ref t44) (.tuple [.str "upto", .int 1]) := tupNew (xs := [.str "upto", .int 1]) nt44 (.cons (.str _) (.cons (.int _) .nil))
      refine ⟨(by show 2 ≤ sizeLine; decide), fun t45 nt45 => ?_⟩
      have st45 := same_upd (o := .tup [.ref t43, .ref t44]) nt45
      have dt45 : Dp K _ (.ref t45) (.tuple [.tuple [.str "part", .int 1], .tuple [.str "upto", .int 1]]) := tupNew (xs := [.ref t43, .ref t44]) nt45 (.cons (dpS (st44.trans st45) dt43) (.cons (dpS st45 dt44) .nil))
      refine ⟨_, rfl, true, rfl, iteT ?_⟩
      refine ⟨(by show 3 ≤ sizeLine; decide), fun t46 nt46 => ?_⟩
      have st46 := same_upd (o := .tup [.ref t45, .non, .bl true]) nt46
      have dt46 : Dp K _ (.ref t46) (.tuple [.tuple [.tuple [.str "part", .int 1], .tuple [.str "upto", .int 1]], .none, .bool true]) := tupNew (xs := [.ref t45, .non, .bl true]) nt46 (.cons (dpS st46 dt45) (.cons .non (.cons (.bl _) .nil)))
      refine ⟨(by show 1 ≤ sizeLine; decide), fun l47 nl47 => ?_⟩
      have sl47 := same_upd (o := .lst [.ref t46]) nl47
      refine ⟨ql37, l47, _, _, rfl, rfl, SqL.of (((((st43.trans st44).trans st45).trans st46).trans sl47) _ _ hL), SqL.of upd_same, (by show 13 ≤ sizeLine; decide), fun ql47 nql47 => ?_⟩
      have sql47 := same_upd (o := .lst ([.ref t3, .ref t7, .ref t10, .ref t13, .ref t16, .ref t20, .ref t25, .ref t27, .ref t29, .ref t33, .ref t36, .ref t42, .ref t46] : List V)) nql47
      have hall3 := dpSnoc (dpSA (((((st43.trans st44).trans st45).trans st46).trans sl47).trans sql47) hall) (dpSA sql47 ((.cons (dpS sl47 dt46) .nil) : DpAll K _ _ [.tuple [.tuple [.tuple [.str "part", .int 1], .tuple [.str "upto", .int 1]], .none, .bool true]]))
      have sB2 := (sB.trans ((((st43.trans st44).trans st45).trans st46).trans sl47)).trans sql47
      have nCur := none_of (sB.trans ((((st43.trans st44).trans st45).trans st46).trans sl47)) nql47
      exact k _ ql47 _ sB2 upd_same hall3
    | some r =>
      cases hv
      obtain ⟨r0, r1⟩ := hr1 r rfl
      rw [cases_some] at k
      refine ⟨(by show 2 ≤ sizeLine; decide), fun t48 nt48 => ?_⟩
      have st48 := same_upd (o := .tup [.str "upto", .int 3]) nt48
      have dt48 : Dp K _ (.ref t48) (.tuple [.str "upto", .int 3]) := tupNew (xs := [.str "upto", .int 3]) nt48 (.cons (.str _) (.cons (.int _) .nil))
      refine ⟨(by show 1 ≤ sizeLine; decide), fun t49 nt49 => ?_⟩
      have st49 := same_upd (o := .tup [.ref t48]) nt49
      have dt49 : Dp K _ (.ref t49) (.tuple [.tuple [.str "upto", .int 3]]) := tupNew (xs := [.ref t48]) nt49 (.cons (dpS st49 dt48) .nil)
      refine ⟨(by show 3 ≤ sizeLine; decide), fun t50 nt50 => ?_⟩
      have st50 := same_upd (o := .tup [.ref t49, .int 3, .bl true]) nt50
      have dt50 : Dp K _ (.ref t50) (.tuple [.tuple [.tuple [.str "upto", .int 3]], .int 3, .bool true]) := tupNew (xs := [.ref t49, .int 3, .bl true]) nt50 (.cons (dpS st50 dt49) (.cons (.int _) (.cons (.bl _) .nil)))
      refine ⟨(by show 2 ≤ sizeLine; decide), fun t51 nt51 => ?_⟩
      have st51 := same_upd (o := .tup [.str "upto", .int 3]) nt51
      have dt51 : Dp K _ (.ref t51) (.tuple [.str "upto", .int 3]) := tupNew (xs := [.str "upto", .int 3]) nt51 (.cons (.str _) (.cons (.int _) .nil))
      refine ⟨(by show 2 ≤ sizeLine; decide), fun t52 nt52 => ?_⟩
      have st52 := same_upd (o := .tup [.str "upto", .int 4]) nt52
      have dt52 : Dp K _ (.ref t52) (.tuple [.str "upto", .int 4]) := tupNew (xs := [.str "upto", .int 4]) nt52 (.cons (.str _) (.cons (.int _) .nil))
      refine ⟨(by show 2 ≤ sizeLine; decide), fun t53 nt53 => ?_⟩
      have st53 := same_upd (o := .tup [.ref t51, .ref t52]) nt53
      have dt53 : Dp K _ (.ref t53) (.tuple [.tuple [.str "upto", .int 3], .tuple [.str "upto", .int 4]]) := tupNew (xs := [.ref t51, .ref t52]) nt53 (.cons (dpS (st52.trans st53) dt51) (.cons (dpS st53 dt52) .nil))
      refine ⟨(by show 3 ≤ sizeLine; decide), fun t54 nt54 => ?_⟩
      have st54 := same_upd (o := .tup [.ref t53, .int 7, .bl true]) nt54
      have dt54 : Dp K _ (.ref t54) (.tuple [.tuple [.tuple [.str "upto", .int 3], .tuple [.str "upto", .int 4]], .int 7, .bool true]) := tupNew (xs := [.ref t53, .int 7, .bl true]) nt54 (.cons (dpS st54 dt53) (.cons (.int _) (.cons (.bl _) .nil)))
      refine ⟨(by show 3 ≤ sizeLine; decide), fun t55 nt55 => ?_⟩
      have st55 := same_upd (o := .tup [.str "between", .str "least", .int 5]) nt55
      have dt55 : Dp K _ (.ref t55) (.tuple [.str "between", .str "least", .int 5]) := tupNew (xs := [.str "between", .str "least", .int 5]) nt55 (.cons (.str _) (.cons (.str _) (.cons (.int _) .nil)))
      refine ⟨(by show 2 ≤ sizeLine; decide), fun t56 nt56 => ?_⟩
      have st56 := same_upd (o := .tup [.ref t55, .int 2]) nt56
      have dt56 : Dp K _ (.ref t56) (.tuple [.tuple [.str "between", .str "least", .int 5], .int 2]) := tupNew (xs := [.ref t55, .int 2]) nt56 (.cons (dpS st56 dt55) (.cons (.int _) .nil))
      refine ⟨(by show 3 ≤ sizeLine; decide), fun t57 nt57 => ?_⟩
      have st57 := same_upd (o := .tup [.ref t56, .int 7, .bl false]) nt57
      have dt57 : Dp K _ (.ref t57) (.tuple [.tuple [.tuple [.str "between", .str "least", .int 5], .int 2], .int 7, .bool false]) := tupNew (xs := [.ref t56, .int 7, .bl false]) nt57 (.cons (dpS st57 dt56) (.cons (.int _) (.cons (.bl _) .nil)))
      refine ⟨(by show 3 ≤ sizeLine; decide), fun l58 nl58 => ?_⟩
      have sl58 := same_upd (o := .lst [.ref t50, .ref t54, .ref t57]) nl58
      have sB := ((((((((((st48.trans st49).trans st50).trans st51).trans st52).trans st53).trans st54).trans st55).trans st56).trans st57).trans sl58)
      have hL := lstNew (xs := [.ref t50, .ref t54, .ref t57]) nl58
      have hall : DpAll K _ ([.ref t50, .ref t54, .ref t57] : List V) [.tuple [.tuple [.tuple [.str "upto", .int 3]], .int 3, .bool true], .tuple [.tuple [.tuple [.str "upto", .int 3], .tuple [.str "upto", .int 4]], .int 7, .bool true], .tuple [.tuple [.tuple [.str "between", .str "least", .int 5], .int 2], .int 7, .bool false]] := (.cons (dpS (((((((st51.trans st52).trans st53).trans st54).trans st55).trans st56).trans st57).trans sl58) dt50) (.cons (dpS (((st55.trans st56).trans st57).trans sl58) dt54) (.cons (dpS sl58 dt57) .nil)))
      refine ⟨_, rfl, ?_⟩
      refine ⟨(by show 1 ≤ sizeLine; decide), fun t59 nt59 => ?_⟩
      have st59 := same_upd (o := .tup [.int 6]) nt59
      have dt59 : Dp K _ (.ref t59) (.tuple [.int 6]) := tupNew (xs := [.int 6]) nt59 (.cons (.int _) .nil)
      refine ⟨(by show 3 ≤ sizeLine; decide), fun t60 nt60 => ?_⟩
      have st60 := same_upd (o := .tup [.ref t59, .int 6, .bl false]) nt60
      have dt60 : Dp K _ (.ref t60) (.tuple [.tuple [.int 6], .int 6, .bool false]) := tupNew (xs := [.ref t59, .int 6, .bl false]) nt60 (.cons (dpS st60 dt59) (.cons (.int _) (.cons (.bl _) .nil)))
      refine ⟨(by show 2 ≤ sizeLine; decide), fun t61 nt61 => ?_⟩
      have st61 := same_upd (o := .tup [.str "upto", .int 3]) nt61
      have dt61 : Dp K _ (.ref t61) (.tuple [.str "upto", .int 3]) := tupNew (xs := [.str "upto", .int 3]) nt61 (.cons (.str _) (.cons (.int _) .nil))
      refine ⟨(by show 2 ≤ sizeLine; decide), fun t62 nt62 => ?_⟩
      have st62 := same_upd (o := .tup [.ref t61, .str "auto"]) nt62
      have dt62 : Dp K _ (.ref t62) (.tuple [.tuple [.str "upto", .int 3], .str "auto"]) := tupNew (xs := [.ref t61, .str "auto"]) nt62 (.cons (dpS st62 dt61) (.cons (.str _) .nil))
      refine ⟨(by show 3 ≤ sizeLine; decide), fun t63 nt63 => ?_⟩
      have st63 := same_upd (o := .tup [.ref t62, .non, .bl true]) nt63
      have dt63 : Dp K _ (.ref t63) (.tuple [.tuple [.tuple [.str "upto", .int 3], .str "auto"], .none, .bool true]) := tupNew (xs := [.ref t62, .non, .bl true]) nt63 (.cons (dpS st63 dt62) (.cons .non (.cons (.bl _) .nil)))
      refine ⟨(by show 2 ≤ sizeLine; decide), fun t64 nt64 => ?_⟩
      have st64 := same_upd (o := .tup [.str "upto", .int 3]) nt64
      have dt64 : Dp K _ (.ref t64) (.tuple [.str "upto", .int 3]) := tupNew (xs := [.str "upto", .int 3]) nt64 (.cons (.str _) (.cons (.int _) .nil))
      refine ⟨(by show 2 ≤ sizeLine; decide), fun t65 nt65 => ?_⟩
      have st65 := same_upd (o := .tup [.str "share", .int 1]) nt65
      have dt65 : Dp K _ (.ref t65) (.tuple [.str "share", .int 1]) := tupNew (xs := [.str "share", .int 1]) nt65 (.cons (.str _) (.cons (.int _) .nil))
      refine ⟨(by show 2 ≤ sizeLine; decide), fun t66 nt66 => ?_⟩
      have st66 := same_upd (o := .tup [.ref t64, .ref t65]) nt66
      have dt66 : Dp K _ (.ref t66) (.tuple [.tuple [.str "upto", .int 3], .tuple [.str "share", .int 1]]) := tupNew (xs := [.ref t64, .ref t65]) nt66 (.cons (dpS (st65.trans st66) dt64) (.cons (dpS st66 dt65) .nil))
      refine ⟨(by show 3 ≤ sizeLine; decide), fun t67 nt67 => ?_⟩
      have st67 := same_upd (o := .tup [.ref t66, .non, .bl false]) nt67
      have dt67 : Dp K _ (.ref t67) (.tuple [.tuple [.tuple [.str "upto", .int 3], .tuple [.str "share", .int 1]], .none, .bool false]) := tupNew (xs := [.ref t66, .non, .bl false]) nt67 (.cons (dpS st67 dt66) (.cons .non (.cons (.bl _) .nil)))
      refine ⟨(by show 3 ≤ sizeLine; decide), fun l68 nl68 => ?_⟩
      have sl68 := same_upd (o := .lst [.ref t60, .ref t63, .ref t67]) nl68
      refine ⟨l58, l68, _, _, rfl, rfl, SqL.of ((((((((((st59.trans st60).trans st61).trans st62).trans st63).trans st64).trans st65).trans st66).trans st67).trans sl68) _ _ hL), SqL.of upd_same, (by show 6 ≤ sizeLine; decide), fun ql68 nql68 => ?_⟩
      have sql68 := same_upd (o := .lst ([.ref t50, .ref t54, .ref t57, .ref t60, .ref t63, .ref t67] : List V)) nql68
      have hall3 := dpSnoc (dpSA ((((((((((st59.trans st60).trans st61).trans st62).trans st63).trans st64).trans st65).trans st66).trans st67).trans sl68).trans sql68) hall) (dpSA sql68 ((.cons (dpS (((((((st61.trans st62).trans st63).trans st64).trans st65).trans st66).trans st67).trans sl68) dt60) (.cons (dpS ((((st64.trans st65).trans st66).trans st67).trans sl68) dt63) (.cons (dpS sl68 dt67) .nil))) : DpAll K _ _ [.tuple [.tuple [.int 6], .int 6, .bool false], .tuple [.tuple [.tuple [.str "upto", .int 3], .str "auto"], .none, .bool true], .tuple [.tuple [.tuple [.str "upto", .int 3], .tuple [.str "share", .int 1]], .none, .bool false]]))
      have sB2 := (sB.trans (((((((((st59.trans st60).trans st61).trans st62).trans st63).trans st64).trans st65).trans st66).trans st67).trans sl68)).trans sql68
      have nCur := none_of (sB.trans (((((((((st59.trans st60).trans st61).trans st62).trans st63).trans st64).trans st65).trans st66).trans st67).trans sl68)) nql68
      have sB := sB2
      have hL := lstNew (xs := [.ref t50, .ref t54, .ref t57, .ref t60, .ref t63, .ref t67]) nql68
      have hall : DpAll K _ ([.ref t50, .ref t54, .ref t57, .ref t60, .ref t63, .ref t67] : List V) [.tuple [.tuple [.tuple [.str "upto", .int 3]], .int 3, .bool true], .tuple [.tuple [.tuple [.str "upto", .int 3], .tuple [.str "upto", .int 4]], .int 7, .bool true], .tuple [.tuple [.tuple [.str "between", .str "least", .int 5], .int 2], .int 7, .bool false], .tuple [.tuple [.int 6], .int 6, .bool false], .tuple [.tuple [.tuple [.str "upto", .int 3], .str "auto"], .none, .bool true], .tuple [.tuple [.tuple [.str "upto", .int 3], .tuple [.str "share", .int 1]], .none, .bool false]] := hall3
      refine ⟨_, rfl, ?_⟩
      refine ⟨(by show 3 ≤ sizeLine; decide), fun t69 nt69 => ?_⟩
      have st69 := same_upd (o := .tup [.str "between", .int 2, .int 9]) nt69
      have dt69 : Dp K _ (.ref t69) (.tuple [.str "between", .int 2, .int 9]) := tupNew (xs := [.str "between", .int 2, .int 9]) nt69 (.cons (.str _) (.cons (.int _) (.cons (.int _) .nil)))
      refine ⟨(by show 2 ≤ sizeLine; decide), fun t70 nt70 => ?_⟩
      have st70 := same_upd (o := .tup [.str "upto", .int 1]) nt70
      have dt70 : Dp K _ (.ref t70) (.tuple [.str "upto", .int 1]) := tupNew (xs := [.str "upto", .int 1]) nt70 (.cons (.str _) (.cons (.int _) .nil))
      refine ⟨(by show 2 ≤ sizeLine; decide), fun t71 nt71 => ?_⟩
      have st71 := same_upd (o := .tup [.ref t69, .ref t70]) nt71
      have dt71 : Dp K _ (.ref t71) (.tuple [.tuple [.str "between", .int 2, .int 9], .tuple [.str "upto", .int 1]]) := tupNew (xs := [.ref t69, .ref t70]) nt71 (.cons (dpS (st70.trans st71) dt69) (.cons (dpS st71 dt70) .nil))
      refine ⟨(by show 3 ≤ sizeLine; decide), fun t72 nt72 => ?_⟩
      have st72 := same_upd (o := .tup [.ref t71, .int 10, .bl true]) nt72
      have dt72 : Dp K _ (.ref t72) (.tuple [.tuple [.tuple [.str "between", .int 2, .int 9], .tuple [.str "upto", .int 1]], .int 10, .bool true]) := tupNew (xs := [.ref t71, .int 10, .bl true]) nt72 (.cons (dpS st72 dt71) (.cons (.int _) (.cons (.bl _) .nil)))
      refine ⟨(by show 1 ≤ sizeLine; decide), fun t73 nt73 => ?_⟩
      have st73 := same_upd (o := .tup [.str "least"]) nt73
      have dt73 : Dp K _ (.ref t73) (.tuple [.str "least"]) := tupNew (xs := [.str "least"]) nt73 (.cons (.str _) .nil)
      refine ⟨(by show 3 ≤ sizeLine; decide), fun t74 nt74 => ?_⟩
      have st74 := same_upd (o := .tup [.ref t73, .non, .bl false]) nt74
      have dt74 : Dp K _ (.ref t74) (.tuple [.tuple [.str "least"], .none, .bool false]) := tupNew (xs := [.ref t73, .non, .bl false]) nt74 (.cons (dpS st74 dt73) (.cons .non (.cons (.bl _) .nil)))
      refine ⟨(by show 2 ≤ sizeLine; decide), fun t75 nt75 => ?_⟩
      have st75 := same_upd (o := .tup [.str "auto", .int 4]) nt75
      have dt75 : Dp K _ (.ref t75) (.tuple [.str "auto", .int 4]) := tupNew (xs := [.str "auto", .int 4]) nt75 (.cons (.str _) (.cons (.int _) .nil))
      refine ⟨(by show 3 ≤ sizeLine; decide), fun t76 nt76 => ?_⟩
      have st76 := same_upd (o := .tup [.ref t75, .non, .bl true]) nt76
      have dt76 : Dp K _ (.ref t76) (.tuple [.tuple [.str "auto", .int 4], .none, .bool true]) := tupNew (xs := [.ref t75, .non, .bl true]) nt76 (.cons (dpS st76 dt75) (.cons .non (.cons (.bl _) .nil)))
      refine ⟨(by show 3 ≤ sizeLine; decide), fun l77 nl77 => ?_⟩
      have sl77 := same_upd (o := .lst [.ref t72, .ref t74, .ref t76]) nl77
      refine ⟨ql68, l77, _, _, rfl, rfl, SqL.of (((((((((st69.trans st70).trans st71).trans st72).trans st73).trans st74).trans st75).trans st76).trans sl77) _ _ hL), SqL.of upd_same, (by show 9 ≤ sizeLine; decide), fun ql77 nql77 => ?_⟩
      have sql77 := same_upd (o := .lst ([.ref t50, .ref t54, .ref t57, .ref t60, .ref t63, .ref t67, .ref t72, .ref t74, .ref t76] : List V)) nql77
      have hall3 := dpSnoc (dpSA (((((((((st69.trans st70).trans st71).trans st72).trans st73).trans st74).trans st75).trans st76).trans sl77).trans sql77) hall) (dpSA sql77 ((.cons (dpS ((((st73.trans st74).trans st75).trans st76).trans sl77) dt72) (.cons (dpS ((st75.trans st76).trans sl77) dt74) (.cons (dpS sl77 dt76) .nil))) : DpAll K _ _ [.tuple [.tuple [.tuple [.str "between", .int 2, .int 9], .tuple [.str "upto", .int 1]], .int 10, .bool true], .tuple [.tuple [.str "least"], .none, .bool false], .tuple [.tuple [.str "auto", .int 4], .none, .bool true]]))
      have sB2 := (sB.trans ((((((((st69.trans st70).trans st71).trans st72).trans st73).trans st74).trans st75).trans st76).trans sl77)).trans sql77
      have nCur := none_of (sB.trans ((((((((st69.trans st70).trans st71).trans st72).trans st73).trans st74).trans st75).trans st76).trans sl77)) nql77
      have sB := sB2
      have hL := lstNew (xs := [.ref t50, .ref t54, .ref t57, .ref t60, .ref t63, .ref t67, .ref t72, .ref t74, .ref t76]) nql77
      have hall : DpAll K _ ([.ref t50, .ref t54, .ref t57, .ref t60, .ref t63, .ref t67, .ref t72, .ref t74, .ref t76] : List V) [.tuple [.tuple [.tuple [.str "upto", .int 3]], .int 3, .bool true], .tuple [.tuple [.tuple [.str "upto", .int 3], .tuple [.str "upto", .int 4]], .int 7, .bool true], .tuple [.tuple [.tuple [.str "between", .str "least", .int 5], .int 2], .int 7, .bool false], .tuple [.tuple [.int 6], .int 6, .bool false], .tuple [.tuple [.tuple [.str "upto", .int 3], .str "auto"], .none, .bool true], .tuple [.tuple [.tuple [.str "upto", .int 3], .tuple [.str "share", .int 1]], .none, .bool false], .tuple [.tuple [.tuple [.str "between", .int 2, .int 9], .tuple [.str "upto", .int 1]], .int 10, .bool true], .tuple [.tuple [.str "least"], .none, .bool false], .tuple [.tuple [.str "auto", .int 4], .none, .bool true]] := hall3
      refine ⟨_, rfl, ?_⟩
      refine ⟨_, rfl, _, _, rfl, rfl, wm (by decide) (by omega), ?_⟩
      refine ⟨(by show 2 ≤ sizeLine; decide), fun t78 nt78 => ?_⟩
      have st78 := same_upd (o := .tup [.str "upto", .int (2 * wide)]) nt78
      have dt78 : Dp K _ (.ref t78) (.tuple [.str "upto", .int (2 * wide)]) := tupNew (xs := [.str "upto", .int (2 * wide)]) nt78 (.cons (.str _) (.cons (.int _) .nil))
      refine ⟨(by show 1 ≤ sizeLine; decide), fun t79 nt79 => ?_⟩
      have st79 := same_upd (o := .tup [.ref t78]) nt79
      have dt79 : Dp K _ (.ref t79) (.tuple [.tuple [.str "upto", .int (2 * wide)]]) := tupNew (xs := [.ref t78]) nt79 (.cons (dpS st79 dt78) .nil)
      refine ⟨_, rfl, _, _, rfl, rfl, wm (by decide) (by omega), ?_⟩
      refine ⟨(by show 3 ≤ sizeLine; decide), fun t80 nt80 => ?_⟩
      have st80 := same_upd (o := .tup [.ref t79, .int (2 * wide), .bl true]) nt80
      have dt80 : Dp K _ (.ref t80) (.tuple [.tuple [.tuple [.str "upto", .int (2 * wide)]], .int (2 * wide), .bool true]) := tupNew (xs := [.ref t79, .int (2 * wide), .bl true]) nt80 (.cons (dpS st80 dt79) (.cons (.int _) (.cons (.bl _) .nil)))
      refine ⟨(by show 3 ≤ sizeLine; decide), fun t81 nt81 => ?_⟩
      have st81 := same_upd (o := .tup [.str "between", .str "most", .int 0]) nt81
      have dt81 : Dp K _ (.ref t81) (.tuple [.str "between", .str "most", .int 0]) := tupNew (xs := [.str "between", .str "most", .int 0]) nt81 (.cons (.str _) (.cons (.str _) (.cons (.int _) .nil)))
      refine ⟨(by show 1 ≤ sizeLine; decide), fun t82 nt82 => ?_⟩
      have st82 := same_upd (o := .tup [.ref t81]) nt82
      have dt82 : Dp K _ (.ref t82) (.tuple [.tuple [.str "between", .str "most", .int 0]]) := tupNew (xs := [.ref t81]) nt82 (.cons (dpS st82 dt81) .nil)
      refine ⟨(by show 3 ≤ sizeLine; decide), fun t83 nt83 => ?_⟩
      have st83 := same_upd (o := .tup [.ref t82, .int 0, .bl false]) nt83
      have dt83 : Dp K _ (.ref t83) (.tuple [.tuple [.tuple [.str "between", .str "most", .int 0]], .int 0, .bool false]) := tupNew (xs := [.ref t82, .int 0, .bl false]) nt83 (.cons (dpS st83 dt82) (.cons (.int _) (.cons (.bl _) .nil)))
      refine ⟨(by show 2 ≤ sizeLine; decide), fun l84 nl84 => ?_⟩
      have sl84 := same_upd (o := .lst [.ref t80, .ref t83]) nl84
      refine ⟨ql77, l84, _, _, rfl, rfl, SqL.of (((((((st78.trans st79).trans st80).trans st81).trans st82).trans st83).trans sl84) _ _ hL), SqL.of upd_same, (by show 11 ≤ sizeLine; decide), fun ql84 nql84 => ?_⟩
      have sql84 := same_upd (o := .lst ([.ref t50, .ref t54, .ref t57, .ref t60, .ref t63, .ref t67, .ref t72, .ref t74, .ref t76, .ref t80, .ref t83] : List V)) nql84
      have hall3 := dpSnoc (dpSA (((((((st78.trans st79).trans st80).trans st81).trans st82).trans st83).trans sl84).trans sql84) hall) (dpSA sql84 ((.cons (dpS (((st81.trans st82).trans st83).trans sl84) dt80) (.cons (dpS sl84 dt83) .nil)) : DpAll K _ _ [.tuple [.tuple [.tuple [.str "upto", .int (2 * wide)]], .int (2 * wide), .bool true], .tuple [.tuple [.tuple [.str "between", .str "most", .int 0]], .int 0, .bool false]]))
      have sB2 := (sB.trans ((((((st78.trans st79).trans st80).trans st81).trans st82).trans st83).trans sl84)).trans sql84
      have nCur := none_of (sB.trans ((((((st78.trans st79).trans st80).trans st81).trans st82).trans st83).trans sl84)) nql84
      have sB := sB2
      have hL := lstNew (xs := [.ref t50, .ref t54, .ref t57, .ref t60, .ref t63, .ref t67, .ref t72, .ref t74, .ref t76, .ref t80, .ref t83]) nql84
      have hall : DpAll K _ ([.ref t50, .ref t54, .ref t57, .ref t60, .ref t63, .ref t67, .ref t72, .ref t74, .ref t76, .ref t80, .ref t83] : List V) [.tuple [.tuple [.tuple [.str "upto", .int 3]], .int 3, .bool true], .tuple [.tuple [.tuple [.str "upto", .int 3], .tuple [.str "upto", .int 4]], .int 7, .bool true], .tuple [.tuple [.tuple [.str "between", .str "least", .int 5], .int 2], .int 7, .bool false], .tuple [.tuple [.int 6], .int 6, .bool false], .tuple [.tuple [.tuple [.str "upto", .int 3], .str "auto"], .none, .bool true], .tuple [.tuple [.tuple [.str "upto", .int 3], .tuple [.str "share", .int 1]], .none, .bool false], .tuple [.tuple [.tuple [.str "between", .int 2, .int 9], .tuple [.str "upto", .int 1]], .int 10, .bool true], .tuple [.tuple [.str "least"], .none, .bool false], .tuple [.tuple [.str "auto", .int 4], .none, .bool true], .tuple [.tuple [.tuple [.str "upto", .int (2 * wide)]], .int (2 * wide), .bool true], .tuple [.tuple [.tuple [.str "between", .str "most", .int 0]], .int 0, .bool false]] := hall3
      refine ⟨_, rfl, .inl ⟨rfl, _, SqL.of hL⟩, ?_⟩
      refine ⟨(by show 2 ≤ sizeLine; decide), fun t85 nt85 => ?_⟩
      have st85 := same_upd (o := .tup [.int 1, .int 2]) nt85
      have dt85 : Dp K _ (.ref t85) (.tuple [.int 1, .int 2]) := tupNew (xs := [.int 1, .int 2]) nt85 (.cons (.int _) (.cons (.int _) .nil))
      refine ⟨(by show 2 ≤ sizeLine; decide), fun t86 nt86 => ?_⟩
      have st86 := same_upd (o := .tup [.str "part", .ref t85]) nt86
      have dt86 : Dp K _ (.ref t86) (.tuple [.str "part", .tuple [.int 1, .int 2]]) := tupNew (xs := [.str "part", .ref t85]) nt86 (.cons (.str _) (.cons (dpS st86 dt85) .nil))
      refine ⟨(by show 2 ≤ sizeLine; decide), fun t87 nt87 => ?_⟩
      have st87 := same_upd (o := .tup [.str "upto", .ref t86]) nt87
      have dt87 : Dp K _ (.ref t87) (.tuple [.str "upto", .tuple [.str "part", .tuple [.int 1, .int 2]]]) := tupNew (xs := [.str "upto", .ref t86]) nt87 (.cons (.str _) (.cons (dpS st87 dt86) .nil))
      refine ⟨(by show 1 ≤ sizeLine; decide), fun t88 nt88 => ?_⟩
      have st88 := same_upd (o := .tup [.ref t87]) nt88
      have dt88 : Dp K _ (.ref t88) (.tuple [.tuple [.str "upto", .tuple [.str "part", .tuple [.int 1, .int 2]]]]) := tupNew (xs := [.ref t87]) nt88 (.cons (dpS st88 dt87) .nil)
      refine ⟨_, rfl, false, rfl, iteF ?_⟩
      refine ⟨_, rfl, _, _, rfl, rfl, wide_div (b := 40) (by decide) (by decide) (by decide) (by decide), ?_⟩
      refine ⟨(by show 3 ≤ sizeLine; decide), fun t89 nt89 => ?_⟩
      have st89 := same_upd (o := .tup [.ref t88, .int (r / 2), .bl true]) nt89
      have dt89 : Dp K _ (.ref t89) (.tuple [.tuple [.tuple [.str "upto", .tuple [.str "part", .tuple [.int 1, .int 2]]]], .int (r / 2), .bool true]) := tupNew (xs := [.ref t88, .int (r / 2), .bl true]) nt89 (.cons (dpS st89 dt88) (.cons (.int _) (.cons (.bl _) .nil)))
      have hL2 := ((((st85.trans st86).trans st87).trans st88).trans st89) _ _ hL
      have hall2 := dpSA ((((st85.trans st86).trans st87).trans st88).trans st89) hall
      have sB2 := sB.trans ((((st85.trans st86).trans st87).trans st88).trans st89)
      refine ⟨ql84, _, _, rfl, rfl, hL2, (by show 11 < sizeLine; decide), ?_⟩
      have kU := kUp (xs := [.ref t50, .ref t54, .ref t57, .ref t60, .ref t63, .ref t67, .ref t72, .ref t74, .ref t76, .ref t80, .ref t83, .ref t89]) hL2
      have hall3 := dpSnoc (dpLs kU hL2 (by rfl) hall2) (.cons (dpL kU hL2 (by rfl) dt89) .nil)
      have sB3 := same_upd' (o := .lst ([.ref t50, .ref t54, .ref t57, .ref t60, .ref t63, .ref t67, .ref t72, .ref t74, .ref t76, .ref t80, .ref t83, .ref t89] : List V)) nCur sB2
      have hL := updS (xs := [.ref t50, .ref t54, .ref t57, .ref t60, .ref t63, .ref t67, .ref t72, .ref t74, .ref t76, .ref t80, .ref t83, .ref t89]) hL2
      have hall : DpAll K _ ([.ref t50, .ref t54, .ref t57, .ref t60, .ref t63, .ref t67, .ref t72, .ref t74, .ref t76, .ref t80, .ref t83, .ref t89] : List V) [.tuple [.tuple [.tuple [.str "upto", .int 3]], .int 3, .bool true], .tuple [.tuple [.tuple [.str "upto", .int 3], .tuple [.str "upto", .int 4]], .int 7, .bool true], .tuple [.tuple [.tuple [.str "between", .str "least", .int 5], .int 2], .int 7, .bool false], .tuple [.tuple [.int 6], .int 6, .bool false], .tuple [.tuple [.tuple [.str "upto", .int 3], .str "auto"], .none, .bool true], .tuple [.tuple [.tuple [.str "upto", .int 3], .tuple [.str "share", .int 1]], .none, .bool false], .tuple [.tuple [.tuple [.str "between", .int 2, .int 9], .tuple [.str "upto", .int 1]], .int 10, .bool true], .tuple [.tuple [.str "least"], .none, .bool false], .tuple [.tuple [.str "auto", .int 4], .none, .bool true], .tuple [.tuple [.tuple [.str "upto", .int (2 * wide)]], .int (2 * wide), .bool true], .tuple [.tuple [.tuple [.str "between", .str "most", .int 0]], .int 0, .bool false], .tuple [.tuple [.tuple [.str "upto", .tuple [.str "part", .tuple [.int 1, .int 2]]]], .int (r / 2), .bool true]] := hall3
      have sB := sB3
      refine ⟨_, rfl, ?_⟩
      refine ⟨(by show 2 ≤ sizeLine; decide), fun t90 nt90 => ?_⟩
      have st90 := same_upd (o := .tup [.str "part", .int 1]) nt90
      have dt90 : Dp K _ (.ref t90) (.tuple [.str "part", .int 1]) := tupNew (xs := [.str "part", .int 1]) nt90 (.cons (.str _) (.cons (.int _) .nil))
      refine ⟨(by show 2 ≤ sizeLine; decide), fun t91 nt91 => ?_⟩
      have st91 := same_upd (o := .tup [.str "upto", .int 1]) nt91
      have dt91 : Dp K _ (.ref t91) (.tuple [.str "upto", .int 1]) := tupNew (xs := [.str "upto", .int 1]) nt91 (.cons (.str _) (.cons (.int _) .nil))
      refine ⟨(by show 2 ≤ sizeLine; decide), fun t92 nt92 => ?_⟩
      have st92 := same_upd (o := .tup [.ref t90, .ref t91]) nt92
      have dt92 : Dp K _ (.ref t92) (.tuple [.tuple [.str "part", .int 1], .tuple [.str "upto", .int 1]]) := tupNew (xs := [.ref t90, .ref t91]) nt92 (.cons (dpS (st91.trans st92) dt90) (.cons (dpS st92 dt91) .nil))
      refine ⟨_, rfl, false, rfl, iteF ?_⟩
      refine ⟨_, rfl, _, _, rfl, rfl, ?_⟩
      refine ⟨(by show 3 ≤ sizeLine; decide), fun t93 nt93 => ?_⟩
      have st93 := same_upd (o := .tup [.ref t92, .int (r + 1), .bl true]) nt93
      have dt93 : Dp K _ (.ref t93) (.tuple [.tuple [.tuple [.str "part", .int 1], .tuple [.str "upto", .int 1]], .int (r + 1), .bool true]) := tupNew (xs := [.ref t92, .int (r + 1), .bl true]) nt93 (.cons (dpS st93 dt92) (.cons (.int _) (.cons (.bl _) .nil)))
      refine ⟨(by show 1 ≤ sizeLine; decide), fun l94 nl94 => ?_⟩
      have sl94 := same_upd (o := .lst [.ref t93]) nl94
      refine ⟨ql84, l94, _, _, rfl, rfl, SqL.of (((((st90.trans st91).trans st92).trans st93).trans sl94) _ _ hL), SqL.of upd_same, (by show 13 ≤ sizeLine; decide), fun ql94 nql94 => ?_⟩
      have sql94 := same_upd (o := .lst ([.ref t50, .ref t54, .ref t57, .ref t60, .ref t63, .ref t67, .ref t72, .ref t74, .ref t76, .ref t80, .ref t83, .ref t89, .ref t93] : List V)) nql94
      have hall3 := dpSnoc (dpSA (((((st90.trans st91).trans st92).trans st93).trans sl94).trans sql94) hall) (dpSA sql94 ((.cons (dpS sl94 dt93) .nil) : DpAll K _ _ [.tuple [.tuple [.tuple [.str "part", .int 1], .tuple [.str "upto", .int 1]], .int (r + 1), .bool true]]))
      have sB2 := (sB.trans ((((st90.trans st91).trans st92).trans st93).trans sl94)).trans sql94
      have nCur := none_of (sB.trans ((((st90.trans st91).trans st92).trans st93).trans sl94)) nql94
      exact k _ ql94 _ sB2 upd_same hall3
end
end K5

set_option Elab.async false
set_option linter.all false
set_option maxRecDepth 100000
set_option maxHeartbeats 8000000
namespace K5
open PySem PySem.Spec PyProof.Rows L2
open K1 (FnP top Nm Sz wm dat)
/-! ### words of two widths -/
theorem rat1728 (i : Int) : mkRat (1728 * i) 1728 = (i : Rat) := by
  have h : mkRat (1728 * i) 1728 = mkRat i 1 := (Rat.mkRat_eq_iff (by decide) (by decide)).mpr (by omega)
  rw [h]
  exact Rat.mkRat_one i
def ws2 (a b : Int) : Nat → Rat := fun i => if i = 0 then (a : Rat) else (b : Rat)
theorem len_int {a : Int} (h0 : 0 ≤ a) (h1 : a ≤ 1000000000) : K1.Len (a : Rat) := by
  refine ⟨?_, ?_, ?_, ?_⟩
  · rw [Rat.num_intCast]
    exact h0
  · rw [Rat.num_intCast]
    omega
  · rw [Rat.den_intCast]
    decide
  · rw [Rat.den_intCast]
    decide
theorem fr_int {a : Int} (h0 : 0 ≤ a) (h1 : a ≤ 1000000000) : K1.Fr K1.D0 K1.B0 (a : Rat) := by
  obtain ⟨n, rfl⟩ := Int.eq_ofNat_of_zero_le h0
  refine ⟨n * K1.D0, ?_, ?_⟩
  · have : n ≤ 1000000000 := by omega
    exact Nat.mul_le_mul_right _ this
  · rw [Int.natCast_mul]
    have h := Rat.mkRat_mul_right (n := (n : Int)) (d := 1) (a := K1.D0) (by decide)
    rw [Nat.one_mul] at h
    rw [h]
    exact (Rat.mkRat_one _).symm
theorem mx2 {a b : Int} (h0 : 0 ≤ a) (h1 : 0 ≤ b) : K1.mx (ws2 a b) 2 = mkRat (1728 * max a b) 1728 := by
  rw [rat1728]
  show (if (if (0 : Rat) ≤ (a : Rat) then (a : Rat) else 0) ≤ (b : Rat) then (b : Rat) else (if (0 : Rat) ≤ (a : Rat) then (a : Rat) else 0)) = _
  rw [if_pos (show (0 : Rat) ≤ (a : Rat) from Rat.intCast_le_intCast.mpr h0)]
  by_cases h : a ≤ b
  · rw [if_pos (Rat.intCast_le_intCast.mpr h), show max a b = b by omega]
  · rw [if_neg (fun z => h (Rat.intCast_le_intCast.mp z)), show max a b = a by omega]
theorem lo2 (a b c : Int) : K1.lo (c : Rat) (ws2 a b) 2 = mkRat (1728 * (a + b + c)) 1728 := by
  rw [rat1728]
  show (0 + (a : Rat)) + ((c : Rat) + (b : Rat)) = _
  rw [Rat.zero_add, Rat.intCast_add, Rat.intCast_add, Rat.add_assoc, Rat.add_comm (c : Rat)]
theorem nums2 {H : Hp} (a b : Int) : K1.Nums H [.int a, .int b] (ws2 a b) := fun i v e => by
  match i, e with
  | 0, e =>
    cases e
    exact K1.numInt a
  | 1, e =>
    cases e
    exact K1.numInt b
theorem frw2 {a b c : Int} (h0 : 0 ≤ a) (h1 : a ≤ 1000000000) (h2 : 0 ≤ b) (h3 : b ≤ 1000000000) (h4 : 0 ≤ c) (h5 : c ≤ 1000000000) : K1.FrW (ws2 a b) (c : Rat) :=
  ⟨fun i => by
    unfold ws2
    split
    · exact fr_int h0 h1
    · exact fr_int h2 h3, fr_int h4 h5⟩
theorem len2w {a b : Int} (h0 : 0 ≤ a) (h1 : a ≤ 1000000000) (h2 : 0 ≤ b) (h3 : b ≤ 1000000000) : ∀ i, K1.Len (ws2 a b i) := fun i => by
  unfold ws2
  split
  · exact len_int h0 h1
  · exact len_int h2 h3
theorem int_num {a : Int} {H : Hp} : K1.NumAt H (.int a) (a : Rat) := K1.numInt a
/-- data of ints that are compared -/
theorem five_sh (a b c d e : Int) : SeqAt.shaped (.tuple [.int a, .int b, .int c, .int d, .int e]) = true ∧ PyData.eqv (.tuple [.int a, .int b, .int c, .int d, .int e]) (.tuple [.int a, .int b, .int c, .int d, .int e]) = true := by
  have h : K1.Ok 2 (.tuple [.int a, .int b, .int c, .int d, .int e]) := K1.ok_tup fun x hx => by
    simp only [List.mem_cons, List.not_mem_nil, or_false] at hx
    rcases hx with rfl | rfl | rfl | rfl | rfl <;> exact K1.ok_int' 1 _
  exact ⟨h.sh (by decide), h.eq⟩
theorem room_oq {K : PySem.W.Frag} {H : Hp} {v : V} {room : Option Int} (h : Dp K H v (oi room)) : Dp K H v (oq (room.map fun r => 1728 * r)) := by
  cases room with
  | none => exact h
  | some r =>
    show Dp K H v (nq (1728 * r))
    rw [nq_int]
    exact h
theorem oi_non {K : PySem.W.Frag} {H : Hp} {v : V} {n : Int} (h : Dp K H v (oi (some n))) : v = .int n := by
  cases h
  rfl
end K5

set_option Elab.async false
set_option linter.all false
set_option maxRecDepth 100000
set_option maxHeartbeats 8000000
namespace K5
open PySem PySem.Spec PyProof.Rows L2
open K1 (FnP top Nm Sz wm dat)
section
variable {P : Program} {w : World} {K : PySem.W.Frag} {mg : Str → Option Value} {base : Heap} {CW CB CI : Addr}
structure DI (P : Program) (w : World) (K : PySem.W.Frag) (mg : Str → Option Value) (base : Heap) (CW CB CI f : Addr) (fd : FuncData) : Prop where
  M : Mk K CI f
  G : FnOk P w K mg base CX0 5 f fd ("self" :: inames) (spII K CW CB CI)
  gC : mg "Item" = some (.ref CI)
structure DC (P : Program) (w : World) (K : PySem.W.Frag) (mg : Str → Option Value) (base : Heap) (CW CB CI f : Addr) (fd : FuncData) : Prop where
  G : FnOk P w K mg base CX0 10 f fd ["item", "axis", "sizes", "gap", "whole", "inner", "own"] (spCo K CW CB CI)
  g : mg "contributions" = some (.ref f)
  kp : PySem.W.keepIn K (.ref f) = true
theorem same_new {H H2 : Hp} {x dx C : Addr} (nx : H x = none) (ndx : H dx = none) (ne : dx ≠ x) (k : Keep x (upd (upd H dx (.own x)) x (.ins C dx [])) H2) : Same H H2 := fun b o e => by
  have h1 : b ≠ x := ne_of_none e nx
  have h2 : b ≠ dx := ne_of_none e ndx
  exact k b o h1 (by rw [upd_ne h1, upd_ne h2]; exact e)
theorem same_mk {H : Hp} {x dx C : Addr} (nx : H x = none) (ndx : H dx = none) : Same H (upd (upd H dx (.own x)) x (.ins C dx [])) := fun b o e => by
  rw [upd_ne (ne_of_none e nx), upd_ne (ne_of_none e ndx)]
  exact e
theorem imE_ds (edge : Int) : (imE edge).ds = [.int 0, .tuple [.none, .none], .tuple [.none, .none], .tuple [.int 0, .int edge, .int 0, .int edge], .none, .none, .none, .none, .none, .none, .none, .none] := by
  show [PyData.int 0, _, _, .tuple [nq (1728 * 0), nq (1728 * edge), nq (1728 * 0), nq (1728 * edge)], .none, .none, .none, .none, .none, .none, .none, .none] = _
  rw [nq_int, nq_int]
theorem imE_ok {edge : Int} (h0 : 0 ≤ edge) (h1 : edge ≤ 1000) : OkIm (imE edge) := by
  have n : Bo none := fun _ h => nomatch h
  have z : Bm (1728 * 0) := ⟨by decide, by decide⟩
  have y : Bm (1728 * edge) := ⟨by omega, by omega⟩
  exact ⟨z, y, z, y, n, n, n, n, n, n⟩
theorem due_none (a b d n1 : Int) : (dueS a b d n1 none).ds = [.int a, .int b, .int d, .int a, .int b] := by
  show [nq (1728 * a), nq (1728 * b), nq (1728 * d), nq (1728 * a), nq (1728 * b)] = _
  rw [nq_int, nq_int, nq_int]
theorem due_some (a b d n1 t : Int) : (dueS a b d n1 (some t)).ds = [.int a, .int b, .int d, .int (max d (min a (t + n1))), .int (max d (min b (t + n1)))] := by
  show [nq (1728 * a), nq (1728 * b), nq (1728 * d), nq (1728 * _), nq (1728 * _)] = _
  rw [nq_int, nq_int, nq_int, nq_int, nq_int]
theorem ints5 {K : PySem.W.Frag} {H : Hp} (a b d e g : Int) : DpAll K H [.int a, .int b, .int d, .int e, .int g] [.int a, .int b, .int d, .int e, .int g] := .cons (.int _) (.cons (.int _) (.cons (.int _) (.cons (.int _) (.cons (.int _) .nil))))
theorem ints5' {K : PySem.W.Frag} {H : Hp} (a b d : Int) {e g e' g' : Int} (h1 : e = e') (h2 : g = g') : DpAll K H [.int a, .int b, .int d, .int e, .int g] [.int a, .int b, .int d, .int e', .int g'] := by
  subst h1
  subst h2
  exact ints5 _ _ _ _ _
theorem mxmn (d a t : Int) : (if (if t < a then t else a) > d then (if t < a then t else a) else d) = max d (min a t) := by
  by_cases h : t < a
  · rw [if_pos h]
    split <;> omega
  · rw [if_neg h]
    split <;> omega
theorem parts_of {H : Hp} {v : V} {b : Bool} {i j : Int} {d : PyData} (h : Dp K H v (.tuple [.bool b, .int i, .int j, d])) : ∃ q vr, v = .ref q ∧ SqT K H q [.bl b, .int i, .int j, vr] ∧ Dp K H vr d := by
  cases h with
  | tup hq hqs =>
    cases hqs with
    | cons q1 hqs =>
    cases hqs with
    | cons q2 hqs =>
    cases hqs with
    | cons q3 hqs =>
    cases hqs with
    | cons q4 hqs =>
    cases hqs
    cases q1
    cases q2
    cases q3
    exact ⟨_, _, rfl, hq, q4⟩
def spLR (K : PySem.W.Frag) : Sp := fun vs H Q _ => ∃ (wide second edge space : Int) (room : Option Int) (vl vt vp : V) (c : List Sv × Option Int × Bool), vs = [.int wide, .int second, vl, vt, vp] ∧ 0 ≤ wide ∧ wide ≤ 1000 ∧ 0 ≤ second ∧ second ≤ 1000 ∧ 0 ≤ edge ∧ edge ≤ 1000 ∧ 0 ≤ space ∧ space ≤ 1000 ∧ (∀ r, room = some r → ∃ k, r = 2 * k ∧ 0 ≤ k ∧ k ≤ 1000) ∧ c ∈ casesL wide room ∧
  Dp K H vl (.tuple (c.1.map Sv.d)) ∧ Dp K H vt (oi c.2.1) ∧ Dp K H vp (.tuple [.bool c.2.2, .int edge, .int space, oi room]) ∧ ∀ H', Same H H' → Q (.bl true) H'
theorem scLR : FnScope ["first", "second", "lanes", "total_v", "parts", "is_auto", "edge", "space", "room", "one", "lower", "upper", "small", "due", "most_so"] ["first", "second", "lanes", "total_v", "parts"] (defScope (top 147)) := ⟨rfl, rfl, rfl, by decide +kernel, rfl, by decide +kernel, by decide +kernel⟩
theorem ok_lr {f fW fI fC : Addr} {fd dW dI dC : FuncData} (F : FnP K "_law_right" (top 147) f fd) (hmax : mg "max" = none) (hmin : mg "min" = none) (N : Nm mg) {fWE fB fBE eC eR eM : Addr} {mv mv' : List Value} (T2 : K1.T2 K mg CW CB fW fWE fB fBE) (d_Words : DM P w K mg base "Words" ["self", "widths", "blank", "line", "base"] 5 (K1.spWI CW) CW fW dW) (d_Item : DI P w K mg base CW CB CI fI dI) (d_contributions : DC P w K mg base CW CB CI fC dC)
    (kI : KBn K dI ("self" :: inames) 2 ["margins"] (fun us ws => gIA us mv ws) (fun vs zs => gIA vs ((msIA eC eR eM).map (·.2)) zs)) (hC : ∀ H, Dp K H (.ref eC) (.tuple [.none, .none])) (hR : ∀ H, Dp K H (.ref eR) (.tuple [.none, .none]))
    (kb_contributions : KBn K dC ["item", "axis", "sizes", "gap", "whole", "inner", "own"] 4 ["whole"] (fun us ws => us ++ ws ++ mv') (fun vs zs => vs ++ zs ++ (kwC.drop 1).map (·.2))) : FnOk P w K mg base CX0 11 f fd ["first", "second", "lanes", "total_v", "parts"] (spLR K) := by
  refine F.ok scLR (fun vs H Q E h => ?_) (fun cdv A outer s H vs Q E hr h => ?_)
  · obtain ⟨wide, second, edge, space, room, vl, vt, vp, c, rfl, _⟩ := h
    rfl
  · obtain ⟨wide, second, edge, space, room, vl, vt, vp, c, rfl, w0, w1, s0, s1, e0, e1, p0, p1, hr1, hc, hl, ht, hp, k⟩ := h
    refine ⟨_, PSs.nox (pss_cons (ps_asg (pv 4) (pg_tup rfl (pgs_cons (pg_name (i := 5) scLR.nd rfl (Or.inl rfl)) (pgs_cons (pg_name (i := 6) scLR.nd rfl (Or.inl rfl)) (pgs_cons (pg_name (i := 7) scLR.nd rfl (Or.inl rfl)) (pgs_cons (pg_name (i := 8) scLR.nd rfl (Or.inl rfl)) pgs_nil))))))
  (pss_cons (ps_set (i := 9) scLR.nd rfl (Or.inl rfl) (pe_makeK d_Item.M d_Item.G (hr.mono (by decide)) (by rfl) d_Item.gC kI pass0 (pa_cons (pe_make d_Words.M d_Words.G (hr.mono (by decide)) (by rfl) d_Words.gC d_Words.b .nil pass0 (pa_cons (pe_tup (pa_cons (pv 0) (pa_cons (pv 1) pa_nil))) (pa_cons pe_int (pa_cons pe_int (pa_cons pe_int pa_nil))))) pa_nil) (pk_cons (pe_tup (pa_cons pe_int (pa_cons (pv 6) (pa_cons pe_int (pa_cons (pv 6) pa_nil))))) pk_nil)))
  (pss_cons (ps_par (i := 10) (j := 11) rfl scLR.nd rfl rfl (by decide) (by rfl) (by rfl) (pa_cons (pe_op op_add (pe_callB (call_max2 rfl) (by rfl) hmax (by decide +kernel) (pa_cons (pv 0) (pa_cons (pv 1) pa_nil))) (pe_op op_mulW pe_int (pv 6))) (pa_cons (pe_op op_add (pe_op op_add (pe_op op_add (pv 0) (pv 1)) pe_int) (pe_op op_mulW pe_int (pv 6))) pa_nil)) (by rfl))
  (pss_cons (ps_set (i := 12) scLR.nd rfl (Or.inl rfl) (pe_ifExp (pt_val (pv 5)) (pv 10) (pe_op op_mulW pe_int (pv 6))))
  (pss_cons (ps_set (i := 13) scLR.nd rfl (Or.inl rfl) (pe_tup (pa_cons (pv 10) (pa_cons (pv 11) (pa_cons (pv 12) (pa_cons (pv 10) (pa_cons (pv 11) pa_nil)))))))
  (pss_cons (ps_if (pt_cmp (pc_notN (pv 3)))
    (pss_cons (ps_set (i := 14) scLR.nd rfl (Or.inl rfl) (pe_op op_add (pv 3) (pe_op op_mulW (pv 7) (pe_op op_sub (pe_callB call_len_seq (by rfl) N.len PySem.boot_len (pa_cons (pv 2) pa_nil)) pe_int))))
  (pss_one (ps_set (i := 13) scLR.nd rfl (Or.inl rfl) (pe_tup (pa_cons (pv 10) (pa_cons (pv 11) (pa_cons (pv 12) (pa_cons (pe_callB (call_max2 rfl) (by rfl) hmax (by decide +kernel) (pa_cons (pv 12) (pa_cons (pe_callB (call_min2 rfl) (by rfl) hmin (by decide +kernel) (pa_cons (pv 10) (pa_cons (pv 14) pa_nil))) pa_nil))) (pa_cons (pe_callB (call_max2 rfl) (by rfl) hmax (by decide +kernel) (pa_cons (pv 12) (pa_cons (pe_callB (call_min2 rfl) (by rfl) hmin (by decide +kernel) (pa_cons (pv 11) (pa_cons (pv 14) pa_nil))) pa_nil))) pa_nil)))))))))
    pss_nil)
  (pss_one (ps_ret (pe_cmpR (op_eqD hr.units) (pe_callN d_contributions.G (hr.mono (by decide)) (by rfl) d_contributions.g d_contributions.kp kb_contributions pass0 (pa_cons (pv 9) (pa_cons pe_str (pa_cons (pv 2) (pa_cons (pv 7) pa_nil)))) (pk_cons (pv 8) pk_nil)) (pv 13) (nomark _)))))))))), ?_⟩
    have hm0 : 0 ≤ max wide second := by omega
    obtain ⟨q, vr, rfl, hq, hvr⟩ := parts_of hp
    refine ⟨_, rfl, q, _, rfl, hq, rfl, _, _, rfl, _, _, rfl, _, _, rfl, _, _, rfl, rfl, ?_⟩
    refine ⟨_, rfl, _, rfl, (by show 2 ≤ sizeLine; decide), fun t nt x dx nx ndx ne => ?_⟩
    have s1 := same_upd (o := .tup [.int wide, .int second]) nt
    have s2 := same_mk (C := CW) nx ndx
    have s12 := s1.trans s2
    refine ⟨x, t, dx, [.int wide, .int second], .int 3, .int 10, .int 8, ws2 wide second, ((3 : Int) : Rat), ((10 : Int) : Rat), ((8 : Int) : Rat), rfl, upd_same, .inr (s2 _ _ upd_same), (by show 2 ≤ 20; decide), nums2 _ _, len2w w0 (by omega) s0 (by omega), K1.numInt 3, K1.numInt 10, K1.numInt 8, len_int (by decide) (by decide), len_int (by decide) (by decide), len_int (by decide) (by decide), fun H3 tw k3 hW => ⟨rfl, ?_⟩⟩
    have s3 : Same (upd H t (.tup [.int wide, .int second])) H3 := same_new nx ndx ne k3
    refine ⟨_, rfl, _, rfl, (by show 4 ≤ sizeLine; decide), fun m nm => ⟨rfl, rfl, fun y dy ny ndy ney => ?_⟩⟩
    have s4 := same_upd (o := .tup [.int 0, .int edge, .int 0, .int edge]) nm
    have s5 := same_mk (C := CI) ny ndy
    have s45 := s4.trans s5
    have hW := hW.same s4
    refine ⟨y, dy, x, [.int 0, .ref eC, .ref eR, .ref m, .non, .non, .non, .non, .non, .non, .non, .non], imE edge, rfl, upd_same, ⟨_, _, .inl (s5 _ _ hW.1.choose_spec)⟩, ?_, ?_, fun H6 k6 e6 => ⟨rfl, ?_⟩⟩
    · rw [imE_ds]
      exact .cons (.int _) (.cons (hC _) (.cons (hR _) (.cons (.tup (SqT.of (s5 _ _ upd_same)) (.cons (.int _) (.cons (.int _) (.cons (.int _) (.cons (.int _) .nil))))) (.cons .non (.cons .non (.cons .non (.cons .non (.cons .non (.cons .non (.cons .non (.cons .non .nil)))))))))))
    · exact imE_ok e0 e1
    have s6 : Same (upd H3 m (.tup [.int 0, .int edge, .int 0, .int edge])) H6 := same_new ny ndy ney k6
    have sm : Same H H6 := ((s1.trans s3).trans s4).trans s6
    have it : ItAt K CI H6 y x (imE edge) := by
      refine ⟨dy, _, e6, ?_⟩
      rw [imE_ds]
      exact .cons (.int _) (.cons (hC _) (.cons (hR _) (.cons (.tup (SqT.of (s6 _ _ upd_same)) (.cons (.int _) (.cons (.int _) (.cons (.int _) (.cons (.int _) .nil))))) (.cons .non (.cons .non (.cons .non (.cons .non (.cons .non (.cons .non (.cons .non (.cons .non .nil)))))))))))
    have hth : ThAt CW CB H6 x (1728 * max wide second) (1728 * (wide + second + 3)) := .inl ⟨tw, _, _, _, _, _, _, _, _, hW.same s6, (by show 2 ≤ 20; decide), frw2 w0 (by omega) s0 (by omega) (by decide) (by decide), mx2 w0 s0, lo2 _ _ _⟩
    have hl6 := dpS sm hl
    have ht6 := dpS sm ht
    have hv6 := dpS sm hvr
    have er := right_all w0 s0 e0 p0 (fun r h => by obtain ⟨k, a, b, _⟩ := hr1 r h; exact ⟨k, a, b⟩) c hc
    obtain ⟨c0, c60, oks⟩ := cases_ok w0 w1 hr1 c hc
    clear hW e6 k6 s45 s5 s4 s3 hq hp hl ht hvr
    refine ⟨_, rfl, _, rfl, _, _, rfl, _, rfl, _, _, rfl, rfl, wm (by decide) (by omega), _, _, rfl, rfl, ?_⟩
    have emx : (if second > wide then second else wide) = max wide second := by
      split <;> omega
    rw [emx]
    refine ⟨_, rfl, _, rfl, _, _, rfl, rfl, _, _, rfl, rfl, _, rfl, _, _, rfl, rfl, wm (by decide) (by omega), _, _, rfl, rfl, ?_⟩
    have hB2 : B2 (1728 * space) := ⟨by omega, by omega⟩
    have hBl : B2 (1728 * max wide second) := ⟨by omega, by omega⟩
    have hBh : B2 (1728 * (wide + second + 3)) := ⟨by omega, by omega⟩
    have hBo : Bo (room.map fun r => 1728 * r) := by
      intro n hn
      cases room with
      | none => exact nomatch hn
      | some r =>
        obtain ⟨k, rfl, k0, k1⟩ := hr1 r rfl
        have hn : 1728 * (2 * k) = n := Option.some.inj hn
        omega
    have hU : ∀ H, U K H (.int space) (1728 * space) := fun H => by
      show Dp K H _ (nq (1728 * space))
      rw [nq_int]
      exact .int _
    obtain ⟨pl, xl, rfl, hpl, hxl⟩ : ∃ pl xl, vl = .ref pl ∧ SqT K H6 pl xl ∧ DpAll K H6 xl (c.1.map Sv.d) := by
      cases hl6 with
      | tup h1 h2 => exact ⟨_, _, rfl, h1, h2⟩
    have hlen : xl.length = c.1.length := by
      have := dpLen hxl
      rw [List.length_map] at this
      exact this
    refine ⟨_, _, rfl, _, rfl, c.2.2, rfl, ite2 (fun cc => ⟨_, rfl, ?_⟩) (fun cc => ⟨_, rfl, _, _, rfl, rfl, wm (by decide) (by omega), ?_⟩)⟩
    · have ed : dueL wide second edge space c = dueS (max wide second + 2 * edge) (wide + second + 3 + 2 * edge) (max wide second + 2 * edge) (((c.1.length - 1 : Nat) : Int) * space) c.2.1 := by
        unfold dueL
        rw [if_pos cc]
      rw [ed] at er
      refine ⟨_, rfl, _, rfl, _, rfl, _, rfl, _, rfl, (by show 5 ≤ sizeLine; decide), fun z nz => ?_⟩
      have sz := same_upd (o := .tup [.int (max wide second + 2 * edge), .int (wide + second + 3 + 2 * edge), .int (max wide second + 2 * edge), .int (max wide second + 2 * edge), .int (wide + second + 3 + 2 * edge)]) nz
      cases ec : c.2.1 with
      | none =>
        rw [ec] at ht6 er
        cases ht6
        refine ⟨_, rfl, false, rfl, iteF ?_⟩
        refine ⟨_, rfl, _, rfl, _, rfl, _, rfl, rfl, rfl, y, x, pl, xl, imE edge, c.1, .int space, vr, 1728 * space, 1728 * max wide second, 1728 * (wide + second + 3), (room.map fun r => 1728 * r), rfl, it.same sz, imE_ok e0 e1, Same.seqT sz hpl, dpSA sz hxl, c0, c60, oks, hU _, hB2, room_oq (dpS sz hv6), hBo, hth.same sz, hBl, hBh, fun H8 u s8 hu => ?_⟩
        rw [er, due_none] at hu
        have hd : Dp K H8 (.ref z) (.tuple [.int (max wide second + 2 * edge), .int (wide + second + 3 + 2 * edge), .int (max wide second + 2 * edge), .int (max wide second + 2 * edge), .int (wide + second + 3 + 2 * edge)]) := dpS s8 (tupNew nz (ints5 _ _ _ _ _))
        obtain ⟨sh, ev⟩ := five_sh (max wide second + 2 * edge) (wide + second + 3 + 2 * edge) (max wide second + 2 * edge) (max wide second + 2 * edge) (wide + second + 3 + 2 * edge)
        refine ⟨_, rfl, _, _, hu, hd, sh, sh, ?_⟩
        rw [ev]
        exact k _ ((sm.trans sz).trans s8)
      | some n =>
        rw [ec] at ht6 er
        obtain rfl := oi_non ht6
        refine ⟨_, rfl, true, rfl, iteT ?_⟩
        have en : space * ((xl.length : Int) - 1) = ((c.1.length - 1 : Nat) : Int) * space := by
          rw [hlen, Int.mul_comm]
          congr 1
          omega
        refine ⟨_, rfl, _, rfl, _, rfl, pl, xl, rfl, .inr (Same.seqT sz hpl), _, _, rfl, rfl, _, _, rfl, rfl, wm (by omega) (by omega), _, _, rfl, rfl, ?_⟩
        refine ⟨_, rfl, _, rfl, _, rfl, _, rfl, _, rfl, _, rfl, _, _, rfl, _, _, rfl, _, rfl, _, rfl, _, rfl, _, _, rfl, _, _, rfl, (by show 5 ≤ sizeLine; decide), fun z2 nz2 => ?_⟩
        have e4 := mxmn (max wide second + 2 * edge) (max wide second + 2 * edge) (n + space * ((xl.length : Int) - 1))
        have e5 := mxmn (max wide second + 2 * edge) (wide + second + 3 + 2 * edge) (n + space * ((xl.length : Int) - 1))
        have sz := sz.trans (same_upd (o := .tup [.int (max wide second + 2 * edge), .int (wide + second + 3 + 2 * edge), .int (max wide second + 2 * edge), .int (if (if (n + space * ((xl.length : Int) - 1)) < (max wide second + 2 * edge) then (n + space * ((xl.length : Int) - 1)) else (max wide second + 2 * edge)) > (max wide second + 2 * edge) then (if (n + space * ((xl.length : Int) - 1)) < (max wide second + 2 * edge) then (n + space * ((xl.length : Int) - 1)) else (max wide second + 2 * edge)) else (max wide second + 2 * edge)), .int (if (if (n + space * ((xl.length : Int) - 1)) < (wide + second + 3 + 2 * edge) then (n + space * ((xl.length : Int) - 1)) else (wide + second + 3 + 2 * edge)) > (max wide second + 2 * edge) then (if (n + space * ((xl.length : Int) - 1)) < (wide + second + 3 + 2 * edge) then (n + space * ((xl.length : Int) - 1)) else (wide + second + 3 + 2 * edge)) else (max wide second + 2 * edge))]) nz2)
        refine ⟨_, rfl, _, rfl, _, rfl, _, rfl, rfl, rfl, y, x, pl, xl, imE edge, c.1, .int space, vr, 1728 * space, 1728 * max wide second, 1728 * (wide + second + 3), (room.map fun r => 1728 * r), rfl, it.same sz, imE_ok e0 e1, Same.seqT sz hpl, dpSA sz hxl, c0, c60, oks, hU _, hB2, room_oq (dpS sz hv6), hBo, hth.same sz, hBl, hBh, fun H8 u s8 hu => ?_⟩
        rw [er, due_some] at hu
        rw [en] at e4 e5
        have hd : Dp K H8 (.ref z2) (.tuple [.int (max wide second + 2 * edge), .int (wide + second + 3 + 2 * edge), .int (max wide second + 2 * edge), .int (max (max wide second + 2 * edge) (min (max wide second + 2 * edge) (n + ((c.1.length - 1 : Nat) : Int) * space))), .int (max (max wide second + 2 * edge) (min (wide + second + 3 + 2 * edge) (n + ((c.1.length - 1 : Nat) : Int) * space)))]) := dpS s8 (tupNew nz2 (by rw [en]; exact ints5' _ _ _ e4 e5))
        obtain ⟨sh, ev⟩ := five_sh (max wide second + 2 * edge) (wide + second + 3 + 2 * edge) (max wide second + 2 * edge) (max (max wide second + 2 * edge) (min (max wide second + 2 * edge) (n + ((c.1.length - 1 : Nat) : Int) * space))) (max (max wide second + 2 * edge) (min (wide + second + 3 + 2 * edge) (n + ((c.1.length - 1 : Nat) : Int) * space)))
        refine ⟨_, rfl, _, _, hu, hd, sh, sh, ?_⟩
        rw [ev]
        exact k _ ((sm.trans sz).trans s8)
    · have ed : dueL wide second edge space c = dueS (max wide second + 2 * edge) (wide + second + 3 + 2 * edge) (2 * edge) (((c.1.length - 1 : Nat) : Int) * space) c.2.1 := by
        unfold dueL
        rw [if_neg cc]
      rw [ed] at er
      refine ⟨_, rfl, _, rfl, _, rfl, _, rfl, _, rfl, (by show 5 ≤ sizeLine; decide), fun z nz => ?_⟩
      have sz := same_upd (o := .tup [.int (max wide second + 2 * edge), .int (wide + second + 3 + 2 * edge), .int (2 * edge), .int (max wide second + 2 * edge), .int (wide + second + 3 + 2 * edge)]) nz
      cases ec : c.2.1 with
      | none =>
        rw [ec] at ht6 er
        cases ht6
        refine ⟨_, rfl, false, rfl, iteF ?_⟩
        refine ⟨_, rfl, _, rfl, _, rfl, _, rfl, rfl, rfl, y, x, pl, xl, imE edge, c.1, .int space, vr, 1728 * space, 1728 * max wide second, 1728 * (wide + second + 3), (room.map fun r => 1728 * r), rfl, it.same sz, imE_ok e0 e1, Same.seqT sz hpl, dpSA sz hxl, c0, c60, oks, hU _, hB2, room_oq (dpS sz hv6), hBo, hth.same sz, hBl, hBh, fun H8 u s8 hu => ?_⟩
        rw [er, due_none] at hu
        have hd : Dp K H8 (.ref z) (.tuple [.int (max wide second + 2 * edge), .int (wide + second + 3 + 2 * edge), .int (2 * edge), .int (max wide second + 2 * edge), .int (wide + second + 3 + 2 * edge)]) := dpS s8 (tupNew nz (ints5 _ _ _ _ _))
        obtain ⟨sh, ev⟩ := five_sh (max wide second + 2 * edge) (wide + second + 3 + 2 * edge) (2 * edge) (max wide second + 2 * edge) (wide + second + 3 + 2 * edge)
        refine ⟨_, rfl, _, _, hu, hd, sh, sh, ?_⟩
        rw [ev]
        exact k _ ((sm.trans sz).trans s8)
      | some n =>
        rw [ec] at ht6 er
        obtain rfl := oi_non ht6
        refine ⟨_, rfl, true, rfl, iteT ?_⟩
        have en : space * ((xl.length : Int) - 1) = ((c.1.length - 1 : Nat) : Int) * space := by
          rw [hlen, Int.mul_comm]
          congr 1
          omega
        refine ⟨_, rfl, _, rfl, _, rfl, pl, xl, rfl, .inr (Same.seqT sz hpl), _, _, rfl, rfl, _, _, rfl, rfl, wm (by omega) (by omega), _, _, rfl, rfl, ?_⟩
        refine ⟨_, rfl, _, rfl, _, rfl, _, rfl, _, rfl, _, rfl, _, _, rfl, _, _, rfl, _, rfl, _, rfl, _, rfl, _, _, rfl, _, _, rfl, (by show 5 ≤ sizeLine; decide), fun z2 nz2 => ?_⟩
        have e4 := mxmn (2 * edge) (max wide second + 2 * edge) (n + space * ((xl.length : Int) - 1))
        have e5 := mxmn (2 * edge) (wide + second + 3 + 2 * edge) (n + space * ((xl.length : Int) - 1))
        have sz := sz.trans (same_upd (o := .tup [.int (max wide second + 2 * edge), .int (wide + second + 3 + 2 * edge), .int (2 * edge), .int (if (if (n + space * ((xl.length : Int) - 1)) < (max wide second + 2 * edge) then (n + space * ((xl.length : Int) - 1)) else (max wide second + 2 * edge)) > (2 * edge) then (if (n + space * ((xl.length : Int) - 1)) < (max wide second + 2 * edge) then (n + space * ((xl.length : Int) - 1)) else (max wide second + 2 * edge)) else (2 * edge)), .int (if (if (n + space * ((xl.length : Int) - 1)) < (wide + second + 3 + 2 * edge) then (n + space * ((xl.length : Int) - 1)) else (wide + second + 3 + 2 * edge)) > (2 * edge) then (if (n + space * ((xl.length : Int) - 1)) < (wide + second + 3 + 2 * edge) then (n + space * ((xl.length : Int) - 1)) else (wide + second + 3 + 2 * edge)) else (2 * edge))]) nz2)
        refine ⟨_, rfl, _, rfl, _, rfl, _, rfl, rfl, rfl, y, x, pl, xl, imE edge, c.1, .int space, vr, 1728 * space, 1728 * max wide second, 1728 * (wide + second + 3), (room.map fun r => 1728 * r), rfl, it.same sz, imE_ok e0 e1, Same.seqT sz hpl, dpSA sz hxl, c0, c60, oks, hU _, hB2, room_oq (dpS sz hv6), hBo, hth.same sz, hBl, hBh, fun H8 u s8 hu => ?_⟩
        rw [er, due_some] at hu
        rw [en] at e4 e5
        have hd : Dp K H8 (.ref z2) (.tuple [.int (max wide second + 2 * edge), .int (wide + second + 3 + 2 * edge), .int (2 * edge), .int (max (2 * edge) (min (max wide second + 2 * edge) (n + ((c.1.length - 1 : Nat) : Int) * space))), .int (max (2 * edge) (min (wide + second + 3 + 2 * edge) (n + ((c.1.length - 1 : Nat) : Int) * space)))]) := dpS s8 (tupNew nz2 (by rw [en]; exact ints5' _ _ _ e4 e5))
        obtain ⟨sh, ev⟩ := five_sh (max wide second + 2 * edge) (wide + second + 3 + 2 * edge) (2 * edge) (max (2 * edge) (min (max wide second + 2 * edge) (n + ((c.1.length - 1 : Nat) : Int) * space))) (max (2 * edge) (min (wide + second + 3 + 2 * edge) (n + ((c.1.length - 1 : Nat) : Int) * space)))
        refine ⟨_, rfl, _, _, hu, hd, sh, sh, ?_⟩
        rw [ev]
        exact k _ ((sm.trans sz).trans s8)
end
end K5

set_option Elab.async false
set_option linter.all false
set_option maxRecDepth 100000
set_option maxHeartbeats 8000000
namespace K5
open PySem PySem.Spec PyProof.Rows L2
open K1 (FnP top Nm Sz wm dat)
theorem mx4 {L : Int} (h : 0 ≤ L) : 0 ≤ (if (if L < 4 then L else 4) > 1 then (if L < 4 then L else 4) else (1 : Int)) ∧ (if (if L < 4 then L else 4) > 1 then (if L < 4 then L else 4) else (1 : Int)) ≤ 4 := by
  split <;> split <;> omega
theorem noL_nq (n : Int) : noL (nq n) = true := by
  show noL (dat (mkRat n 1728)) = true
  unfold dat
  split <;> rfl
theorem noL_pv (p : Pv) : noL p.d = true := by
  cases p with
  | wd z => rfl
  | num n => exact noL_nq n
  | part n =>
    show (true && (noL (nq n) && true)) = true
    rw [noL_nq]
    rfl
  | shr n =>
    show (true && (noL (nq n) && true)) = true
    rw [noL_nq]
    rfl
theorem and3 {a b : Bool} (h : a = true) (g : b = true) : (a && b) = true := by
  rw [h, g]
  rfl
theorem noL_sv (p : Sv) : noL p.d = true := by
  cases p with
  | pl q => exact noL_pv q
  | bt q r =>
    show (true && (noL q.d && (noL r.d && true))) = true
    rw [noL_pv, noL_pv]
    rfl
  | up q =>
    show (true && (noL q.d && true)) = true
    rw [noL_pv]
    rfl
theorem noLs_sv : ∀ l : List Sv, noLs (l.map Sv.d) = true
  | [] => rfl
  | p :: l => by
    show (noL p.d && noLs (l.map Sv.d)) = true
    rw [noL_sv, noLs_sv l]
    rfl
theorem noL_oi (o : Option Int) : noL (oi o) = true := by
  cases o <;> rfl
theorem noL_case (c : List Sv × Option Int × Bool) : noL (caseD c) = true := by
  show (noLs (c.1.map Sv.d) && (noL (oi c.2.1) && (true && true))) = true
  rw [noLs_sv, noL_oi]
  rfl
theorem case_of {K : PySem.W.Frag} {H : Hp} {v : V} {d e : PyData} {b : Bool} (h : Dp K H v (.tuple [d, e, .bool b])) : ∃ q vl vt, v = .ref q ∧ SqT K H q [vl, vt, .bl b] ∧ Dp K H vl d ∧ Dp K H vt e := by
  cases h with
  | tup hq hqs =>
    cases hqs with
    | cons q1 hqs =>
    cases hqs with
    | cons q2 hqs =>
    cases hqs with
    | cons q3 hqs =>
    cases hqs
    cases q3
    exact ⟨_, _, _, rfl, hq, q1, q2⟩
section
variable {P : Program} {w : World} {K : PySem.W.Frag} {mg : Str → Option Value} {base : Heap}
def spLaw (K : PySem.W.Frag) : Sp := fun vs H Q _ => ∃ (a : Addr) (ns : List Int), vs = [.ref a] ∧ SqL K H a (ns.map V.int) ∧ ns.length ≤ 63 ∧ ∀ H', Q (.bl true) H'
theorem scLaw : FnScope ["script", "k", "well", "wide", "edge", "space", "room", "lanes", "total_v", "is_auto"] ["script"] (defScope (top 148)) := ⟨rfl, rfl, rfl, by decide +kernel, rfl, by decide +kernel, by decide +kernel⟩
theorem ok_law {f f1 f2 f3 f4 : Addr} {fd d1 d2 d3 d4 : FuncData} (F : FnP K "law" (top 148) f fd) (N : Nm mg) (hmax : mg "max" = none) (hmin : mg "min" = none)
    (d__law_source : D2 P w K mg base "_law_source" "script" "k" 1 (spSo K) f1 d1) (d__law_draw : D2 P w K mg base "_law_draw" "well" "limit" 2 spDr f2 d2) (d__law_cases : D2 P w K mg base "_law_cases" "wide" "room" 1 (spCL K) f3 d3)
    (d__law_right : DN P w K mg base "_law_right" ["first", "second", "lanes", "total_v", "parts"] 11 (spLR K) f4 d4) : FnOk P w K mg base CX0 12 f fd ["script"] (spLaw K) := by
  refine F.ok scLaw (fun vs H Q E h => ?_) (fun cdv A outer s H vs Q E hr h => ?_)
  · obtain ⟨a, ns, rfl, _⟩ := h
    rfl
  · obtain ⟨a, ns, rfl, ha, hn, k⟩ := h
    refine ⟨_, PSs.nox (pss_cons (ps_for PassesOwn.never rfl (pi_range1 rfl N.rng (pa_cons (pe_callB (call_max2 rfl) (by rfl) hmax (by decide +kernel) (pa_cons pe_int (pa_cons (pe_callB (call_min2 rfl) (by rfl) hmin (by decide +kernel) (pa_cons pe_int (pa_cons (pe_callB call_len_seq (by rfl) N.len PySem.boot_len (pa_cons (pv 0) pa_nil)) pa_nil))) pa_nil))) pa_nil))
    (pg_name (i := 1) scLaw.nd rfl (Or.inl rfl))
    (pss_cons (ps_set (i := 2) scLaw.nd rfl (Or.inl rfl) (pe_call d__law_source.G (hr.mono (by decide)) (by rfl) d__law_source.g d__law_source.kp d__law_source.b .nil pass0 (pa_cons (pv 0) (pa_cons (pv 1) pa_nil))))
  (pss_cons (ps_par3 (i := 3) (j := 4) (l := 5) rfl scLaw.nd rfl rfl rfl (by decide) (by decide) (by decide) (by rfl) (by rfl) (by rfl) (pa_cons (pe_op op_add pe_int (pe_call d__law_draw.G (hr.mono (by decide)) (by rfl) d__law_draw.g d__law_draw.kp d__law_draw.b .nil pass0 (pa_cons (pv 2) (pa_cons pe_int pa_nil)))) (pa_cons (pe_call d__law_draw.G (hr.mono (by decide)) (by rfl) d__law_draw.g d__law_draw.kp d__law_draw.b .nil pass0 (pa_cons (pv 2) (pa_cons pe_int pa_nil))) (pa_cons (pe_call d__law_draw.G (hr.mono (by decide)) (by rfl) d__law_draw.g d__law_draw.kp d__law_draw.b .nil pass0 (pa_cons (pv 2) (pa_cons pe_int pa_nil))) pa_nil))) (by rfl))
  (pss_one (ps_for PassesOwn.never rfl (pi_tup (pe_tup (pa_cons pe_non (pa_cons (pe_op op_add pe_int (pe_op op_mulW pe_int (pe_call d__law_draw.G (hr.mono (by decide)) (by rfl) d__law_draw.g d__law_draw.kp d__law_draw.b .nil pass0 (pa_cons (pv 2) (pa_cons pe_int pa_nil))))) pa_nil))))
    (pg_name (i := 6) scLaw.nd rfl (Or.inl rfl))
    (pss_one (ps_for PassesOwn.never rfl (pi_list (pe_call d__law_cases.G (hr.mono (by decide)) (by rfl) d__law_cases.g d__law_cases.kp d__law_cases.b .nil pass0 (pa_cons (pv 3) (pa_cons (pv 6) pa_nil))))
    (pg_tup rfl (pgs_cons (pg_name (i := 7) scLaw.nd rfl (Or.inl rfl)) (pgs_cons (pg_name (i := 8) scLaw.nd rfl (Or.inl rfl)) (pgs_cons (pg_name (i := 9) scLaw.nd rfl (Or.inl rfl)) pgs_nil))))
    (pss_one (ps_if (pt_not (pt_val (pe_call d__law_right.G (hr.mono (by decide)) (by rfl) d__law_right.g d__law_right.kp d__law_right.b .nil pass0 (pa_cons (pv 3) (pa_cons (pe_call d__law_draw.G (hr.mono (by decide)) (by rfl) d__law_draw.g d__law_draw.kp d__law_draw.b .nil pass0 (pa_cons (pv 2) (pa_cons (pv 3) pa_nil))) (pa_cons (pv 7) (pa_cons (pv 8) (pa_cons (pe_tup (pa_cons (pv 9) (pa_cons (pv 4) (pa_cons (pv 5) (pa_cons (pv 6) pa_nil))))) pa_nil))))))))
    (pss_one (ps_ret pe_bl))
    pss_nil)))))))))
  (pss_one (ps_ret pe_bl))), ?_⟩
    have hM := mx4 (L := (((ns.map V.int).length : Nat) : Int)) (by omega)
    refine ⟨_, rfl, a, _, rfl, .inl ha, _, _, rfl, _, _, rfl, _, rfl, ?_, ?_, ?_⟩
    · exact Int.le_trans (by decide) hM.1
    · exact Int.lt_of_le_of_lt hM.2 (by decide)
    refine for_range (fun i σ H' => Same H H' ∧ ∃ v1 v2 v3 v4 v5 v6 v7 v8 v9, σ = [some (.ref a), v1, v2, v3, v4, v5, v6, v7, v8, v9])
      ⟨Same.refl _, _, _, _, _, _, _, _, _, _, rfl⟩ ?_ ?_
    rotate_left
    · rintro σ H6 ⟨s6, v1, v2, v3, v4, v5, v6, v7, v8, v9, rfl⟩
      exact k H6
    rintro i σ H6 hi ⟨s6, v1, v2, v3, v4, v5, v6, v7, v8, v9, rfl⟩
    have hi : i < 4 := by
      have := hM.2
      omega
    refine ⟨_, rfl, _, rfl, a, ns, i, (by show [V.ref a, V.int ((0 : Int) + (i : Int))] = _; rw [Int.zero_add]), s6.seq ha, hn, by omega, fun H7 wl s7 nwl w7 => ?_⟩
    have nwl0 : H wl = none := none_of (s6) nwl
    refine ⟨_, rfl, wl, 60, 0, rfl, w7, by decide, by decide, by decide, fun r1 H8 a0 a1 b8 w8 => ⟨_, _, rfl, rfl, ?_⟩⟩
    refine ⟨_, rfl, wl, 5, _, rfl, w8, by decide, by decide, by decide, fun edge H9 e0 e1 b9 w9 => ?_⟩
    refine ⟨_, rfl, wl, 4, _, rfl, w9, by decide, by decide, by decide, fun space H10 p0 p1 b10 w10 => ⟨_, _, _, rfl, ?_⟩⟩
    have k10 : Keep wl H7 H10 := (b8.keep.trans b9.keep).trans b10.keep
    refine ⟨_, rfl, wl, 50, _, rfl, w10, by decide, by decide, by decide, fun r5 H11 c0 c1 b11 w11 => ⟨_, _, rfl, rfl, wm (by decide) (by omega), _, _, rfl, rfl, (by show 2 ≤ sizeLine; decide), fun p np => ?_⟩⟩
    have k11 : Keep wl H7 H11 := k10.trans b11.keep
    have hp11 : upd H11 p (.tup [.non, .int (2 + 2 * r5)]) p = some (.tup [.non, .int (2 + 2 * r5)]) := upd_same
    have sp := same_upd (o := .tup [.non, .int (2 + 2 * r5)]) np
    have k12 : Keep wl H7 (upd H11 p (.tup [.non, .int (2 + 2 * r5)])) := k11.trans (Keep.of sp)
    have w12 := w11.same sp
    generalize upd H11 p (.tup [.non, .int (2 + 2 * r5)]) = H12 at hp11 k12 w12 ⊢
    obtain ⟨wide, hwide⟩ : ∃ wide : Int, wide = 20 + r1 := ⟨_, rfl⟩
    have g0 : 0 ≤ wide := by omega
    have g1 : wide ≤ 1000 := by omega
    have g2 : 0 < wide := by omega
    have npw : p ≠ wl := fun z => by
      obtain ⟨_, _, _, e, _⟩ := w12
      rw [← z, hp11] at e
      cases e
    refine ⟨p, rfl, ⟨_, SqT.of hp11⟩, for_tup (K := K) (a := p) (xs := [.non, .int (2 + 2 * r5)]) (fun q σ H' => Keep wl H12 H' ∧ Wl H' wl (100 + 13 * (q : Int)) ∧ ∃ v6 v7 v8 v9, σ = [some (.ref a), some (.int (0 + (i : Int))), some (.ref wl), some (.int wide), some (.int edge), some (.int space), v6, v7, v8, v9])
      ⟨Keep.of (Same.refl _), w12.mono (by omega), _, _, _, _, by rw [hwide]; rfl⟩ (fun q σ H' _ h => SqT.of (h.1 _ _ npw hp11)) ?_ ?_⟩
    rotate_left
    · rintro σ H13 ⟨k13, w13, v6, v7, v8, v9, rfl⟩
      exact ⟨fun b o e => (k12.trans k13) b o (ne_of_none e nwl0) ((s6.trans s7) b o e), _, _, _, _, _, _, _, _, _, rfl⟩
    rintro q rv σ H13 hq ⟨k13, w13, v6, v7, v8, v9, rfl⟩
    obtain ⟨room, hroom, hr1, q2⟩ : ∃ room : Option Int, (∀ H, Dp K H rv (oi room)) ∧ (∀ r, room = some r → ∃ k, r = 2 * k ∧ 0 ≤ k ∧ k ≤ 100) ∧ q < 2 := by
      match q, hq with
      | 0, hq =>
        cases hq
        exact ⟨none, fun _ => .non, (fun _ h => (nomatch h)), by decide⟩
      | 1, hq =>
        cases hq
        exact ⟨some (2 + 2 * r5), fun _ => .int _, fun r h => ⟨1 + r5, by have h : 2 + 2 * r5 = r := Option.some.inj h; omega, by omega, by omega⟩, by decide⟩
      | _ + 2, hq => exact nomatch hq
    refine ⟨_, rfl, _, rfl, wide, rv, room, rfl, hroom _, g0, g1, fun r h => (by obtain ⟨k, e1, e2, e3⟩ := hr1 r h; omega), fun H14 D us s14 hD hus => ?_⟩
    have w14 := w13.same s14
    have nDw : D ≠ wl := fun z => by
      obtain ⟨_, _, _, e, _⟩ := w14
      rw [← z, hD] at e
      cases e
      exact nomatch dpLen hus
    refine ⟨D, rfl, ⟨_, SqL.of hD⟩, for_list (K := K) (a := D) (xs := us) (fun j σ H' => Keep wl H14 H' ∧ Wl H' wl (100 + 13 * (q : Int) + (j : Int)) ∧ ∃ v7 v8 v9, σ = [some (.ref a), some (.int (0 + (i : Int))), some (.ref wl), some (.int wide), some (.int edge), some (.int space), some rv, v7, v8, v9])
      ⟨Keep.of (Same.refl _), w14.mono (by omega), _, _, _, rfl⟩ (fun j σ H' _ h => SqL.of (h.1 _ _ nDw hD)) ?_ ?_⟩
    rotate_left
    · rintro σ H15 ⟨k15, w15, v7, v8, v9, rfl⟩
      have el : us.length = 13 := (dpLen hus).trans (by rw [List.length_map]; rfl)
      rw [el] at w15
      exact ⟨(k13.trans (Keep.of s14)).trans k15, w15.mono (by omega), _, _, _, _, rfl⟩
    rintro j x σ H15 hj ⟨k15, w15, v7, v8, v9, rfl⟩
    have el : us.length = 13 := (dpLen hus).trans (by rw [List.length_map]; rfl)
    have j13 : j < 13 := by
      have := (List.getElem?_eq_some_iff.mp hj).1
      omega
    obtain ⟨c, hc⟩ : ∃ c, (casesL wide room)[j]? = some c := ⟨_, List.getElem?_eq_getElem (show j < 13 from j13)⟩
    obtain ⟨x', ex, hx⟩ := dpAt j hus (d := caseD c) (by rw [List.getElem?_map, hc]; rfl)
    rw [hj] at ex
    cases ex
    have hcm := List.mem_of_getElem? hc
    obtain ⟨wws, ew14⟩ := w14.lst
    have hx := dpL k15 ew14 (noL_case c) hx
    obtain ⟨t, vl, vt, rfl, ht, hvl, hvt⟩ := case_of hx
    refine ⟨t, _, rfl, ht, rfl, _, _, rfl, _, _, rfl, _, _, rfl, rfl, ?_⟩
    obtain ⟨wws2, ew15⟩ := w15.lst
    refine ⟨_, rfl, _, rfl, _, rfl, wl, wide, _, rfl, w15, by omega, g2, by omega, fun r2 H16 d0 d1 b16 w16 => ?_⟩
    have hvl := dpL b16.keep ew15 (show noL (.tuple (c.1.map Sv.d)) = true from noLs_sv c.1) hvl
    have hvt := dpL b16.keep ew15 (noL_oi _) hvt
    refine ⟨_, rfl, _, rfl, _, rfl, _, rfl, _, rfl, _, rfl, (by show 4 ≤ sizeLine; decide), fun z nz => ?_⟩
    have sz := same_upd (o := .tup [.bl c.2.2, .int edge, .int space, rv]) nz
    refine ⟨wide, r2, edge, space, room, vl, vt, .ref z, c, rfl, g0, g1, d0, by omega, e0, by omega, p0, by omega, fun r h => (by obtain ⟨k, e1, e2, e3⟩ := hr1 r h; exact ⟨k, e1, e2, by omega⟩), hcm, dpS sz hvl, dpS sz hvt, tupNew nz (.cons (.bl _) (.cons (.int _) (.cons (.int _) (.cons (hroom _) .nil)))), fun H17 s17 => ⟨true, rfl, iteF ?_⟩⟩
    exact ⟨(k15.trans b16.keep).trans (Keep.of (sz.trans s17)), (w16.same (sz.trans s17)).mono (by omega), _, _, _, rfl⟩
end
end K5

set_option Elab.async false
set_option linter.all false
set_option maxRecDepth 100000
set_option maxHeartbeats 4000000
namespace K5
open PySem PySem.Spec PyProof.Rows L2
open K1 (FnP top Nm wm)
abbrev ga := He.ga
abbrev ma := He.ma
/-! ### what the top has written -/
def tupA (K : PySem.W.Frag) (a : Addr) (vs : List V) : Bool := match K.lookup a with
  | some ⟨.type c, _, .seq its _, _⟩ => decide (c = "tuple") && (decide (its.size ≤ sizeLine) && He.relAll vs its.toList)
  | _ => false
theorem tupA_ok {K : PySem.W.Frag} {a : Addr} {vs : List V} (h : tupA K a vs = true) (H : Hp) : SqT K H a vs := by
  unfold tupA at h
  split at h
  · rename_i c _ its n _ q
    obtain ⟨h1, h2⟩ := ba h
    obtain ⟨h3, h4⟩ := ba h2
    exact .inr ⟨_, its, n, q, congrArg Value.type (of_decide_eq_true h1), rfl, of_decide_eq_true h3, He.relAll_ok h4⟩
  · exact nomatch h
/-- a keyword-only default that is an object -/
def kwdAt (f : Str × Option Str) (x : Str) (K : PySem.W.Frag) : Addr := match K.lookup (He.fAd K f) with
  | some ⟨_, _, .func fd, _⟩ => (match fd.kwdefaults with
    | .ref D => (match PySem.W.nsIn K D x with
      | some (some (.ref a)) => a
      | _ => 0)
    | _ => 0)
  | _ => 0

def gI : Str × Option Str := ("Item", some "__init__")
abbrev aC := kwdAt gI "column"
abbrev aR := kwdAt gI "row"
abbrev aM := kwdAt gI "margins"
def dvStrs (l : List Str) : List He.Dv := l.map He.Dv.str
/-- what a class of one's own is, without its == -/
def clI (K : PySem.W.Frag) (x : Str) : Bool := decide (PySem.W.findIn K (.ref (ga K x)) "__class__" = some (some (.builtin "object.__class__"))) && (decide (PySem.W.mroIn K (ga K x) (.type "object") = some true) && decide (PySem.W.kitOne K (.ref (ga K x)) (.ref (ga K x)) = some true))
def clsB (K : PySem.W.Frag) (x : Str) : Bool := decide (PySem.W.findIn K (.ref (ga K x)) "__ne__" = some (some (.builtin "object.__ne__"))) && (decide (PySem.W.findIn K (.ref (ga K x)) "__class__" = some (some (.builtin "object.__class__"))) && (decide (PySem.W.mroIn K (ga K x) (.type "object") = some true) &&
  (decide (PySem.W.kitOne K (.ref (ga K x)) (.ref (ga K x)) = some true) && PySem.W.notFirst K (ga K x) (.ref (ga K x)))))
def momB (K : PySem.W.Frag) : Bool := ["NoneType", "bool", "int", "str", "list", "tuple", "dict"].all fun t => decide (PySem.W.kitOne K (.type t) (.ref (ga K "Moment")) = some false)
theorem momB_ok {K : PySem.W.Frag} (h : momB K = true) (d : PyData) : PySem.W.kitOne K (.type (tyN d)) (.ref (ga K "Moment")) = some false := by
  have h := List.all_eq_true.mp h
  cases d <;> exact of_decide_eq_true (h _ (by simp [tyN]))

def exB0 (K : PySem.W.Frag) : Bool := clsB K "Words" && (clsB K "Block" && (clI K "Item" && (clI K "Bounds" && (decide (PySem.W.specialIn K (.builtin "object.__class__") "__get__" = some (some (.builtin "getset_descriptor.__get__"))) && (decide (PySem.W.takesIn K (.builtin "object.__class__") = some true) && (decide (PySem.W.kitOne K (.ref (ga K "Words")) (.ref (ga K "Block")) = some false) && (decide (PySem.W.kitOne K (.ref (ga K "Block")) (.ref (ga K "Words")) = some false) && (decide (PySem.W.kitOne K (.ref (ga K "Words")) (.ref (ga K "Page")) = some false) && (decide (PySem.W.kitOne K (.ref (ga K "Block")) (.ref (ga K "Page")) = some false) && (PySem.W.notFirst K (ga K "Words") (.ref (ga K "Block")) && (He.eqO (PySem.W.nsIn K mainGlobals "gcd") (some (some (.builtin "math.gcd"))) && (He.tupB K "SIZE_WORDS" (dvStrs sizeWords) && (He.tupB K "AXES" (dvStrs ["column", "row"]) && (tupA K (aC K) [.non, .non] && (tupA K (aR K) [.non, .non])))))))))))))))
def exB (K : PySem.W.Frag) : Bool := momB K && exB0 K
theorem dvStrs_v {K : PySem.W.Frag} : ∀ l : List Str, (dvStrs l).map (He.Dv.v K) = l.map V.str
  | [] => rfl
  | x :: l => congrArg (V.str x :: ·) (dvStrs_v l)
theorem tupS {K : PySem.W.Frag} {x : Str} {l : List Str} (h : He.tupB K x (dvStrs l) = true) (H : Hp) : SqT K H (ga K x) (l.map V.str) := by
  have := He.tupB_ok h H
  rw [dvStrs_v] at this
  exact this
abbrev AlP : Type := He.AlD × Bool
def obsPG (n : Nat) (fa : List He.Fa) (fn : List He.DefD) (ex : PySem.W.Frag → Bool) (g : Addr → Option Obj) : AlP := (He.obsD fa fn (He.frG g (List.range n)), ex (He.frG g (List.range n)))
def hookP (n : Nat) (fa : List He.Fa) (fn : List He.DefD) (ex : PySem.W.Frag → Bool) : PySem.W.Hook where
  α := AlP
  obs := fun s => obsPG n fa fn ex s.heap.get?
  val := fun _ => (He.valD fn, true)
  says := fun _ h => ∃ K : PySem.W.Frag, K.In h ∧ He.SaysD fa fn K ∧ ex K = true
  of := fun _ _ e => ⟨_, He.frG_in, congrArg (fun z : AlP => z.1) e, congrArg (fun z : AlP => z.2) e⟩
  keeps := fun _ _ _ ⟨K, hK, c⟩ k => ⟨K, PySem.W.Frag.In.keeps hK k, c⟩
theorem obsPG_eq {n : Nat} {fa : List He.Fa} {fn : List He.DefD} {ex : PySem.W.Frag → Bool} {g : Addr → Option Obj} {s : Shared} (h : ∀ a, g a = s.heap.get? a) : obsPG n fa fn ex g = (hookP n fa fn ex).obs s := by
  have e : g = s.heap.get? := funext h
  rw [e] <;> rfl


def D_is_integer : He.DefD := ⟨("is_integer", none), "is_integer", "is_integer", defArgs (top 29), defBody (top 29), defScope (top 29), [], []⟩
def D_is_number : He.DefD := ⟨("is_number", none), "is_number", "is_number", defArgs (top 30), defBody (top 30), defScope (top 30), [], []⟩
def D_fraction_of : He.DefD := ⟨("fraction_of", none), "fraction_of", "fraction_of", defArgs (top 32), defBody (top 32), defScope (top 32), [], []⟩
def D_number_of : He.DefD := ⟨("number_of", none), "number_of", "number_of", defArgs (top 33), defBody (top 33), defScope (top 33), [], []⟩
def D_is_moving : He.DefD := ⟨("is_moving", none), "is_moving", "is_moving", defArgs (top 34), defBody (top 34), defScope (top 34), [], []⟩
def D_at_most : He.DefD := ⟨("at_most", none), "at_most", "at_most", defArgs (top 41), defBody (top 41), defScope (top 41), [], []⟩
def D_plus : He.DefD := ⟨("plus", none), "plus", "plus", defArgs (top 44), defBody (top 44), defScope (top 44), [], []⟩
def D_is_length : He.DefD := ⟨("is_length", none), "is_length", "is_length", defArgs (top 31), defBody (top 31), defScope (top 31), [], []⟩
def D_check_widths : He.DefD := ⟨("check_widths", none), "check_widths", "check_widths", defArgs (top 53), defBody (top 53), defScope (top 53), [], []⟩
def D_check_length : He.DefD := ⟨("check_length", none), "check_length", "check_length", defArgs (top 54), defBody (top 54), defScope (top 54), [], []⟩
def D_check_content : He.DefD := ⟨("check_content", none), "check_content", "check_content", defArgs (top 55), defBody (top 55), defScope (top 55), [], []⟩
def D_least_width : He.DefD := ⟨("least_width", none), "least_width", "least_width", defArgs (top 57), defBody (top 57), defScope (top 57), [], []⟩
def D_most_width : He.DefD := ⟨("most_width", none), "most_width", "most_width", defArgs (top 58), defBody (top 58), defScope (top 58), [], []⟩
def D_is_word : He.DefD := ⟨("is_word", none), "is_word", "is_word", defArgs (top 14), defBody (top 14), defScope (top 14), [], []⟩
def D_is_marked : He.DefD := ⟨("is_marked", none), "is_marked", "is_marked", defArgs (top 15), defBody (top 15), defScope (top 15), [], []⟩
def D_is_part : He.DefD := ⟨("is_part", none), "is_part", "is_part", defArgs (top 73), defBody (top 73), defScope (top 73), [], []⟩
def D_is_share : He.DefD := ⟨("is_share", none), "is_share", "is_share", defArgs (top 74), defBody (top 74), defScope (top 74), [], []⟩
def D_is_fixed : He.DefD := ⟨("is_fixed", none), "is_fixed", "is_fixed", defArgs (top 75), defBody (top 75), defScope (top 75), [], []⟩
def D_is_plain_size : He.DefD := ⟨("is_plain_size", none), "is_plain_size", "is_plain_size", defArgs (top 76), defBody (top 76), defScope (top 76), [], []⟩
def D_is_upto : He.DefD := ⟨("is_upto", none), "is_upto", "is_upto", defArgs (top 78), defBody (top 78), defScope (top 78), [], []⟩
def D_is_between : He.DefD := ⟨("is_between", none), "is_between", "is_between", defArgs (top 77), defBody (top 77), defScope (top 77), [], []⟩
def D_is_size : He.DefD := ⟨("is_size", none), "is_size", "is_size", defArgs (top 79), defBody (top 79), defScope (top 79), [], []⟩
def D_minus : He.DefD := ⟨("minus", none), "minus", "minus", defArgs (top 45), defBody (top 45), defScope (top 45), [], []⟩
def D_times : He.DefD := ⟨("times", none), "times", "times", defArgs (top 46), defBody (top 46), defScope (top 46), [], []⟩
def D_lesser : He.DefD := ⟨("lesser", none), "lesser", "lesser", defArgs (top 42), defBody (top 42), defScope (top 42), [], []⟩
def D_greater : He.DefD := ⟨("greater", none), "greater", "greater", defArgs (top 43), defBody (top 43), defScope (top 43), [], []⟩
def D_total : He.DefD := ⟨("total", none), "total", "total", defArgs (top 47), defBody (top 47), defScope (top 47), [], []⟩
def D_with_gaps : He.DefD := ⟨("with_gaps", none), "with_gaps", "with_gaps", defArgs (top 48), defBody (top 48), defScope (top 48), [], []⟩
def D_check_item : He.DefD := ⟨("check_item", none), "check_item", "check_item", defArgs (top 105), defBody (top 105), defScope (top 105), [], []⟩
def D_is_told_length : He.DefD := ⟨("is_told_length", none), "is_told_length", "is_told_length", defArgs (top 107), defBody (top 107), defScope (top 107), [], []⟩
def D_is_line_count : He.DefD := ⟨("is_line_count", none), "is_line_count", "is_line_count", defArgs (top 65), defBody (top 65), defScope (top 65), [], []⟩
def D_is_name : He.DefD := ⟨("is_name", none), "is_name", "is_name", defArgs (top 16), defBody (top 16), defScope (top 16), [], []⟩
def D_is_own : He.DefD := ⟨("is_own", none), "is_own", "is_own", defArgs (top 134), defBody (top 134), defScope (top 134), [], []⟩
def D_height_in : He.DefD := ⟨("height_in", none), "height_in", "height_in", defArgs (top 61), defBody (top 61), defScope (top 61), [], []⟩
def D_is_edge : He.DefD := ⟨("is_edge", none), "is_edge", "is_edge", defArgs (top 66), defBody (top 66), defScope (top 66), [], []⟩
def D_are_edges : He.DefD := ⟨("are_edges", none), "are_edges", "are_edges", defArgs (top 67), defBody (top 67), defScope (top 67), [], []⟩
def D_are_margins : He.DefD := ⟨("are_margins", none), "are_margins", "are_margins", defArgs (top 106), defBody (top 106), defScope (top 106), [], []⟩
def D_length_in : He.DefD := ⟨("length_in", none), "length_in", "length_in", defArgs (top 114), defBody (top 114), defScope (top 114), [], []⟩
def D_bound_of : He.DefD := ⟨("bound_of", none), "bound_of", "bound_of", defArgs (top 115), defBody (top 115), defScope (top 115), [], []⟩
def D_bounds_of : He.DefD := ⟨("bounds_of", none), "bounds_of", "bounds_of", defArgs (top 116), defBody (top 116), defScope (top 116), [], []⟩
def D_all_bounds : He.DefD := ⟨("all_bounds", none), "all_bounds", "all_bounds", defArgs (top 117), defBody (top 117), defScope (top 117), [], []⟩
def D_size_in : He.DefD := ⟨("size_in", none), "size_in", "size_in", defArgs (top 122), defBody (top 122), defScope (top 122), [], []⟩
def D_least_in : He.DefD := ⟨("least_in", none), "least_in", "least_in", defArgs (top 123), defBody (top 123), defScope (top 123), [], []⟩
def D_greatest_in : He.DefD := ⟨("greatest_in", none), "greatest_in", "greatest_in", defArgs (top 124), defBody (top 124), defScope (top 124), [], []⟩
def D_margins_in : He.DefD := ⟨("margins_in", none), "margins_in", "margins_in", defArgs (top 125), defBody (top 125), defScope (top 125), [], []⟩
def D_margins_of : He.DefD := ⟨("margins_of", none), "margins_of", "margins_of", defArgs (top 126), defBody (top 126), defScope (top 126), [], []⟩
def D_held : He.DefD := ⟨("held", none), "held", "held", defArgs (top 127), defBody (top 127), defScope (top 127), [], []⟩
def D_outer : He.DefD := ⟨("outer", none), "outer", "outer", defArgs (top 128), defBody (top 128), defScope (top 128), [], []⟩
def D_may_ask : He.DefD := ⟨("may_ask", none), "may_ask", "may_ask", defArgs (top 129), defBody (top 129), defScope (top 129), [], []⟩
def D_automatic_least : He.DefD := ⟨("automatic_least", none), "automatic_least", "automatic_least", defArgs (top 130), defBody (top 130), defScope (top 130), [], []⟩
def D_limit_of : He.DefD := ⟨("limit_of", none), "limit_of", "limit_of", defArgs (top 131), defBody (top 131), defScope (top 131), [], []⟩
def D_asked_of : He.DefD := ⟨("asked_of", none), "asked_of", "asked_of", defArgs (top 132), defBody (top 132), defScope (top 132), [], []⟩
def D_own_sizes : He.DefD := ⟨("own_sizes", none), "own_sizes", "own_sizes", defArgs (top 133), defBody (top 133), defScope (top 133), [], []⟩
def D_check_sizes : He.DefD := ⟨("check_sizes", none), "check_sizes", "check_sizes", defArgs (top 135), defBody (top 135), defScope (top 135), [], []⟩
def D_check_axis : He.DefD := ⟨("check_axis", none), "check_axis", "check_axis", defArgs (top 111), defBody (top 111), defScope (top 111), [], []⟩
def D_is_whole : He.DefD := ⟨("is_whole", none), "is_whole", "is_whole", defArgs (top 119), defBody (top 119), defScope (top 119), [], []⟩
def D_check_whole : He.DefD := ⟨("check_whole", none), "check_whole", "check_whole", defArgs (top 120), defBody (top 120), defScope (top 120), [], []⟩
def D_check_inner : He.DefD := ⟨("check_inner", none), "check_inner", "check_inner", defArgs (top 136), defBody (top 136), defScope (top 136), [], []⟩
def D__law_mix : He.DefD := ⟨("_law_mix", none), "_law_mix", "_law_mix", defArgs (top 139), defBody (top 139), defScope (top 139), [], []⟩
def D__law_draw : He.DefD := ⟨("_law_draw", none), "_law_draw", "_law_draw", defArgs (top 141), defBody (top 141), defScope (top 141), [], []⟩
def D__law_source : He.DefD := ⟨("_law_source", none), "_law_source", "_law_source", defArgs (top 140), defBody (top 140), defScope (top 140), [], []⟩
def D__law_cases : He.DefD := ⟨("_law_cases", none), "_law_cases", "_law_cases", defArgs (top 146), defBody (top 146), defScope (top 146), [], []⟩
def D__law_right : He.DefD := ⟨("_law_right", none), "_law_right", "_law_right", defArgs (top 147), defBody (top 147), defScope (top 147), [], []⟩
def D_contributions : He.DefD := ⟨("contributions", none), "contributions", "contributions", defArgs (top 137), defBody (top 137), defScope (top 137), [], [("whole", .non), ("inner", .non), ("own", .non)]⟩
def D_law : He.DefD := ⟨("law", none), "law", "law", defArgs (top 148), defBody (top 148), defScope (top 148), [], []⟩
def D_Item__init__ : He.DefD := ⟨("Item", some "__init__"), "__init__", "Item.__init__", defArgs (inClass (top 100) 0), defBody (inClass (top 100) 0), defScope (inClass (top 100) 0), [], [("order", .int 0), ("column", .adr aC), ("row", .adr aR), ("margins", .adr aM), ("width", .non), ("height", .non), ("least_width", .non), ("greatest_width", .non), ("least_height", .non), ("greatest_height", .non), ("justify", .non), ("align", .non)]⟩
def D_Bounds__init__ : He.DefD := ⟨("Bounds", some "__init__"), "__init__", "Bounds.__init__", defArgs (inClass (top 113) 0), defBody (inClass (top 113) 0), defScope (inClass (top 113) 0), [], []⟩
def D_Words__init__ : He.DefD := ⟨("Words", some "__init__"), "__init__", "Words.__init__", defArgs (inClass (top 51) 0), defBody (inClass (top 51) 0), defScope (inClass (top 51) 0), [], []⟩
def D_Block__init__ : He.DefD := ⟨("Block", some "__init__"), "__init__", "Block.__init__", defArgs (inClass (top 52) 0), defBody (inClass (top 52) 0), defScope (inClass (top 52) 0), [], []⟩
def fn : List He.DefD := [D_is_integer, D_is_number, D_fraction_of, D_number_of, D_is_moving, D_at_most, D_plus, D_is_length, D_check_widths, D_check_length, D_check_content, D_least_width, D_most_width, D_is_word, D_is_marked, D_is_part, D_is_share, D_is_fixed, D_is_plain_size, D_is_upto, D_is_between, D_is_size, D_minus, D_times, D_lesser, D_greater, D_total, D_with_gaps, D_check_item, D_is_told_length, D_is_line_count, D_is_name, D_is_own, D_height_in, D_is_edge, D_are_edges, D_are_margins, D_length_in, D_bound_of, D_bounds_of, D_all_bounds, D_size_in, D_least_in, D_greatest_in, D_margins_in, D_margins_of, D_held, D_outer, D_may_ask, D_automatic_least, D_limit_of, D_asked_of, D_own_sizes, D_check_sizes, D_check_axis, D_is_whole, D_check_whole, D_check_inner, D__law_mix, D__law_draw, D__law_source, D__law_cases, D__law_right, D_contributions, D_law, D_Item__init__, D_Bounds__init__, D_Words__init__, D_Block__init__]
theorem K1b1 {K : PySem.W.Frag} {x p : Str} {i : Nat} {f : Addr} {fd : FuncData} (F : FnP K x (top i) f fd) (h : ∀ (kV doc pm : Value) (an : Option Addr) (cdv ct : Value) (u : Value), bindArgs (PySem.W.fnOf x x (defArgs (top i)) (defBody (top i)) (defScope (top i)) .none kV doc pm an cdv ct) ⟨[u], []⟩ = pure [(p, u)] := by intros; rfl) : Binds K fd [p] [] := F.bindsN fun _ _ _ _ _ _ us hl => match us, hl with | [_], _ => h _ _ _ _ _ _ _
theorem K1b2 {K : PySem.W.Frag} {x p q : Str} {i : Nat} {f : Addr} {fd : FuncData} (F : FnP K x (top i) f fd) (h : ∀ (kV doc pm : Value) (an : Option Addr) (cdv ct : Value) (u v : Value), bindArgs (PySem.W.fnOf x x (defArgs (top i)) (defBody (top i)) (defScope (top i)) .none kV doc pm an cdv ct) ⟨[u, v], []⟩ = pure [(p, u), (q, v)] := by intros; rfl) : Binds K fd [p, q] [] := F.bindsN fun _ _ _ _ _ _ us hl => match us, hl with | [_, _], _ => h _ _ _ _ _ _ _ _
theorem K1b3 {K : PySem.W.Frag} {x p q r : Str} {i : Nat} {f : Addr} {fd : FuncData} (F : FnP K x (top i) f fd) (h : ∀ (kV doc pm : Value) (an : Option Addr) (cdv ct : Value) (u v z : Value), bindArgs (PySem.W.fnOf x x (defArgs (top i)) (defBody (top i)) (defScope (top i)) .none kV doc pm an cdv ct) ⟨[u, v, z], []⟩ = pure [(p, u), (q, v), (r, z)] := by intros; rfl) : Binds K fd [p, q, r] [] := F.bindsN fun _ _ _ _ _ _ us hl => match us, hl with | [_, _, _], _ => h _ _ _ _ _ _ _ _ _
theorem K1b5 {K : PySem.W.Frag} {x p q r t l : Str} {i : Nat} {f : Addr} {fd : FuncData} (F : FnP K x (top i) f fd) (h : ∀ (kV doc pm : Value) (an : Option Addr) (cdv ct : Value) (u v z y o : Value), bindArgs (PySem.W.fnOf x x (defArgs (top i)) (defBody (top i)) (defScope (top i)) .none kV doc pm an cdv ct) ⟨[u, v, z, y, o], []⟩ = pure [(p, u), (q, v), (r, z), (t, y), (l, o)] := by intros; rfl) : Binds K fd [p, q, r, t, l] [] := F.bindsN fun _ _ _ _ _ _ us hl => match us, hl with | [_, _, _, _, _], _ => h _ _ _ _ _ _ _ _ _ _ _
theorem K1b6 {K : PySem.W.Frag} {x p q r t l m : Str} {i : Nat} {f : Addr} {fd : FuncData} (F : FnP K x (top i) f fd) (h : ∀ (kV doc pm : Value) (an : Option Addr) (cdv ct : Value) (u v z y o n : Value), bindArgs (PySem.W.fnOf x x (defArgs (top i)) (defBody (top i)) (defScope (top i)) .none kV doc pm an cdv ct) ⟨[u, v, z, y, o, n], []⟩ = pure [(p, u), (q, v), (r, z), (t, y), (l, o), (m, n)] := by intros; rfl) : Binds K fd [p, q, r, t, l, m] [] := F.bindsN fun _ _ _ _ _ _ us hl => match us, hl with | [_, _, _, _, _, _], _ => h _ _ _ _ _ _ _ _ _ _ _ _
def fa : List He.Fa := [.glo "law", .free "isinstance", .free "int", .free "bool", .free "tuple", .free "list", .free "len", .free "abs", .free "range", .free "enumerate", .free "zip", .free "str", .free "all", .free "any", .free "max", .free "min", .int "MOST_WORDS" 20, .glo "SIZE_WORDS", .glo "AXES", .glo "Moment", .glo "WAYS_ACROSS", .glo "WAYS_DOWN", .mkr "Words", .meth "Words" "__eq__", .glo "Words", .cls "Words", .mkr "Block", .meth "Block" "__eq__", .glo "Block", .cls "Block", .noat "Words" "widths", .noat "Words" "blank", .noat "Words" "line", .noat "Words" "base", .noat "Block" "width", .noat "Block" "height", .noat "Item" "content", .noat "Item" "order", .noat "Item" "column", .noat "Item" "row", .noat "Item" "margins", .noat "Item" "width", .noat "Item" "height", .noat "Item" "least_width", .noat "Item" "greatest_width", .noat "Item" "least_height", .noat "Item" "greatest_height", .noat "Item" "justify", .noat "Item" "align", .mkr "Item", .glo "Item", .cls "Item", .noat "Bounds" "low_word", .noat "Bounds" "low", .noat "Bounds" "high_word", .noat "Bounds" "high", .noat "Bounds" "share", .noat "Bounds" "cap", .mkr "Bounds", .glo "Bounds", .cls "Bounds", .glo "Page", .glo "is_integer", .glo "is_number", .glo "fraction_of", .glo "number_of", .glo "is_moving", .glo "at_most", .glo "plus", .glo "is_length", .glo "check_widths", .glo "check_length", .glo "check_content", .glo "least_width", .glo "most_width", .glo "is_word", .glo "is_marked", .glo "is_part", .glo "is_share", .glo "is_fixed", .glo "is_plain_size", .glo "is_upto", .glo "is_between", .glo "is_size", .glo "minus", .glo "times", .glo "lesser", .glo "greater", .glo "total", .glo "with_gaps", .glo "check_item", .glo "is_told_length", .glo "is_line_count", .glo "is_name", .glo "is_own", .glo "height_in", .glo "is_edge", .glo "are_edges", .glo "are_margins", .glo "length_in", .glo "bound_of", .glo "bounds_of", .glo "all_bounds", .glo "size_in", .glo "least_in", .glo "greatest_in", .glo "margins_in", .glo "margins_of", .glo "held", .glo "outer", .glo "may_ask", .glo "automatic_least", .glo "limit_of", .glo "asked_of", .glo "own_sizes", .glo "check_sizes", .glo "check_axis", .glo "is_whole", .glo "check_whole", .glo "check_inner", .glo "contributions", .glo "_law_mix", .glo "_law_draw", .glo "_law_source", .glo "_law_cases", .glo "_law_right"]
theorem facts {P : Program} {w : World} {K : PySem.W.Frag} {h : Heap} {mg : Str → Option Value} {f : Addr} (X : K.In h) (G : h.Ns mainGlobals mg) (hfa : mg ("law" : Str) = some (.ref f)) (c : He.SaysD fa fn K) (x : exB K = true) :
    ∃ fd : FuncData, (∀ (s : Shared) (v : Value), BindsTo s fd ⟨[v], []⟩ [("script", v)]) ∧ ∀ base : Heap, K.In base → base.Ns mainGlobals mg → FnOk P w K mg base CX0 12 f fd ["script"] (spLaw K) := by
  obtain ⟨xm, x⟩ := ba x
  obtain ⟨xW, x⟩ := ba x
  obtain ⟨xB, x⟩ := ba x
  obtain ⟨xI, x⟩ := ba x
  obtain ⟨xD, x⟩ := ba x
  obtain ⟨x1, x⟩ := ba x
  obtain ⟨x2, x⟩ := ba x
  obtain ⟨x3, x⟩ := ba x
  obtain ⟨x4, x⟩ := ba x
  obtain ⟨x7, x⟩ := ba x
  obtain ⟨x8, x⟩ := ba x
  obtain ⟨x5, x⟩ := ba x
  obtain ⟨x6, x⟩ := ba x
  obtain ⟨z1, x⟩ := ba x
  obtain ⟨z6, x⟩ := ba x
  obtain ⟨y1, y2⟩ := ba x
  obtain ⟨w1, xW⟩ := ba xW
  obtain ⟨w2, xW⟩ := ba xW
  obtain ⟨w3, xW⟩ := ba xW
  obtain ⟨w4, w5⟩ := ba xW
  obtain ⟨b1, xB⟩ := ba xB
  obtain ⟨b2, xB⟩ := ba xB
  obtain ⟨b3, xB⟩ := ba xB
  obtain ⟨b4, b5⟩ := ba xB
  obtain ⟨i1, xI⟩ := ba xI
  obtain ⟨i2, i3⟩ := ba xI
  obtain ⟨d1, xD⟩ := ba xD
  obtain ⟨d2, d3⟩ := ba xD
  obtain ⟨f_is_integer, F_is_integer⟩ := c.def_ 0 (d := D_is_integer) rfl
  obtain ⟨f_is_number, F_is_number⟩ := c.def_ 1 (d := D_is_number) rfl
  obtain ⟨f_fraction_of, F_fraction_of⟩ := c.def_ 2 (d := D_fraction_of) rfl
  obtain ⟨f_number_of, F_number_of⟩ := c.def_ 3 (d := D_number_of) rfl
  obtain ⟨f_is_moving, F_is_moving⟩ := c.def_ 4 (d := D_is_moving) rfl
  obtain ⟨f_at_most, F_at_most⟩ := c.def_ 5 (d := D_at_most) rfl
  obtain ⟨f_plus, F_plus⟩ := c.def_ 6 (d := D_plus) rfl
  obtain ⟨f_is_length, F_is_length⟩ := c.def_ 7 (d := D_is_length) rfl
  obtain ⟨f_check_widths, F_check_widths⟩ := c.def_ 8 (d := D_check_widths) rfl
  obtain ⟨f_check_length, F_check_length⟩ := c.def_ 9 (d := D_check_length) rfl
  obtain ⟨f_check_content, F_check_content⟩ := c.def_ 10 (d := D_check_content) rfl
  obtain ⟨f_least_width, F_least_width⟩ := c.def_ 11 (d := D_least_width) rfl
  obtain ⟨f_most_width, F_most_width⟩ := c.def_ 12 (d := D_most_width) rfl
  obtain ⟨f_is_word, F_is_word⟩ := c.def_ 13 (d := D_is_word) rfl
  obtain ⟨f_is_marked, F_is_marked⟩ := c.def_ 14 (d := D_is_marked) rfl
  obtain ⟨f_is_part, F_is_part⟩ := c.def_ 15 (d := D_is_part) rfl
  obtain ⟨f_is_share, F_is_share⟩ := c.def_ 16 (d := D_is_share) rfl
  obtain ⟨f_is_fixed, F_is_fixed⟩ := c.def_ 17 (d := D_is_fixed) rfl
  obtain ⟨f_is_plain_size, F_is_plain_size⟩ := c.def_ 18 (d := D_is_plain_size) rfl
  obtain ⟨f_is_upto, F_is_upto⟩ := c.def_ 19 (d := D_is_upto) rfl
  obtain ⟨f_is_between, F_is_between⟩ := c.def_ 20 (d := D_is_between) rfl
  obtain ⟨f_is_size, F_is_size⟩ := c.def_ 21 (d := D_is_size) rfl
  obtain ⟨f_minus, F_minus⟩ := c.def_ 22 (d := D_minus) rfl
  obtain ⟨f_times, F_times⟩ := c.def_ 23 (d := D_times) rfl
  obtain ⟨f_lesser, F_lesser⟩ := c.def_ 24 (d := D_lesser) rfl
  obtain ⟨f_greater, F_greater⟩ := c.def_ 25 (d := D_greater) rfl
  obtain ⟨f_total, F_total⟩ := c.def_ 26 (d := D_total) rfl
  obtain ⟨f_with_gaps, F_with_gaps⟩ := c.def_ 27 (d := D_with_gaps) rfl
  obtain ⟨f_check_item, F_check_item⟩ := c.def_ 28 (d := D_check_item) rfl
  obtain ⟨f_is_told_length, F_is_told_length⟩ := c.def_ 29 (d := D_is_told_length) rfl
  obtain ⟨f_is_line_count, F_is_line_count⟩ := c.def_ 30 (d := D_is_line_count) rfl
  obtain ⟨f_is_name, F_is_name⟩ := c.def_ 31 (d := D_is_name) rfl
  obtain ⟨f_is_own, F_is_own⟩ := c.def_ 32 (d := D_is_own) rfl
  obtain ⟨f_height_in, F_height_in⟩ := c.def_ 33 (d := D_height_in) rfl
  obtain ⟨f_is_edge, F_is_edge⟩ := c.def_ 34 (d := D_is_edge) rfl
  obtain ⟨f_are_edges, F_are_edges⟩ := c.def_ 35 (d := D_are_edges) rfl
  obtain ⟨f_are_margins, F_are_margins⟩ := c.def_ 36 (d := D_are_margins) rfl
  obtain ⟨f_length_in, F_length_in⟩ := c.def_ 37 (d := D_length_in) rfl
  obtain ⟨f_bound_of, F_bound_of⟩ := c.def_ 38 (d := D_bound_of) rfl
  obtain ⟨f_bounds_of, F_bounds_of⟩ := c.def_ 39 (d := D_bounds_of) rfl
  obtain ⟨f_all_bounds, F_all_bounds⟩ := c.def_ 40 (d := D_all_bounds) rfl
  obtain ⟨f_size_in, F_size_in⟩ := c.def_ 41 (d := D_size_in) rfl
  obtain ⟨f_least_in, F_least_in⟩ := c.def_ 42 (d := D_least_in) rfl
  obtain ⟨f_greatest_in, F_greatest_in⟩ := c.def_ 43 (d := D_greatest_in) rfl
  obtain ⟨f_margins_in, F_margins_in⟩ := c.def_ 44 (d := D_margins_in) rfl
  obtain ⟨f_margins_of, F_margins_of⟩ := c.def_ 45 (d := D_margins_of) rfl
  obtain ⟨f_held, F_held⟩ := c.def_ 46 (d := D_held) rfl
  obtain ⟨f_outer, F_outer⟩ := c.def_ 47 (d := D_outer) rfl
  obtain ⟨f_may_ask, F_may_ask⟩ := c.def_ 48 (d := D_may_ask) rfl
  obtain ⟨f_automatic_least, F_automatic_least⟩ := c.def_ 49 (d := D_automatic_least) rfl
  obtain ⟨f_limit_of, F_limit_of⟩ := c.def_ 50 (d := D_limit_of) rfl
  obtain ⟨f_asked_of, F_asked_of⟩ := c.def_ 51 (d := D_asked_of) rfl
  obtain ⟨f_own_sizes, F_own_sizes⟩ := c.def_ 52 (d := D_own_sizes) rfl
  obtain ⟨f_check_sizes, F_check_sizes⟩ := c.def_ 53 (d := D_check_sizes) rfl
  obtain ⟨f_check_axis, F_check_axis⟩ := c.def_ 54 (d := D_check_axis) rfl
  obtain ⟨f_is_whole, F_is_whole⟩ := c.def_ 55 (d := D_is_whole) rfl
  obtain ⟨f_check_whole, F_check_whole⟩ := c.def_ 56 (d := D_check_whole) rfl
  obtain ⟨f_check_inner, F_check_inner⟩ := c.def_ 57 (d := D_check_inner) rfl
  obtain ⟨f__law_mix, F__law_mix⟩ := c.def_ 58 (d := D__law_mix) rfl
  obtain ⟨f__law_draw, F__law_draw⟩ := c.def_ 59 (d := D__law_draw) rfl
  obtain ⟨f__law_source, F__law_source⟩ := c.def_ 60 (d := D__law_source) rfl
  obtain ⟨f__law_cases, F__law_cases⟩ := c.def_ 61 (d := D__law_cases) rfl
  obtain ⟨f__law_right, F__law_right⟩ := c.def_ 62 (d := D__law_right) rfl
  obtain ⟨f_contributions, F_contributions⟩ := c.def_ 63 (d := D_contributions) rfl
  obtain ⟨f_law, F_law⟩ := c.def_ 64 (d := D_law) rfl
  obtain ⟨f_Item__init__, F_Item__init__⟩ := c.def_ 65 (d := D_Item__init__) rfl
  obtain ⟨f_Bounds__init__, F_Bounds__init__⟩ := c.def_ 66 (d := D_Bounds__init__) rfl
  obtain ⟨f_Words__init__, F_Words__init__⟩ := c.def_ 67 (d := D_Words__init__) rfl
  obtain ⟨f_Block__init__, F_Block__init__⟩ := c.def_ 68 (d := D_Block__init__) rfl
  have e := hfa.symm.trans (He.glo_ok X G (c.fact 0 (f := .glo "law") rfl))
  cases e
  have bL := FunD.bindsA (ps := ["script"]) F_law fun _ _ _ _ _ _ us hl => match us, hl with | [_], _ => rfl
  refine ⟨f_law, fun s v => bL s [v] rfl, fun base _ _ => ?_⟩
  have N : Nm mg := { isi := He.free_ok X G (c.fact 1 (f := .free "isinstance") rfl), tint := He.free_ok X G (c.fact 2 (f := .free "int") rfl), tbool := He.free_ok X G (c.fact 3 (f := .free "bool") rfl), ttup := He.free_ok X G (c.fact 4 (f := .free "tuple") rfl), tlst := He.free_ok X G (c.fact 5 (f := .free "list") rfl), len := He.free_ok X G (c.fact 6 (f := .free "len") rfl), abs := He.free_ok X G (c.fact 7 (f := .free "abs") rfl), rng := He.free_ok X G (c.fact 8 (f := .free "range") rfl), enu := He.free_ok X G (c.fact 9 (f := .free "enumerate") rfl), zip := He.free_ok X G (c.fact 10 (f := .free "zip") rfl), gcd := PySem.W.mg_of X G (He.eqO_ok x6) }
  have hs := He.free_ok X G (c.fact 11 (f := .free "str") rfl)
  have hall := He.free_ok X G (c.fact 12 (f := .free "all") rfl)
  have hany := He.free_ok X G (c.fact 13 (f := .free "any") rfl)
  have hmax := He.free_ok X G (c.fact 14 (f := .free "max") rfl)
  have hmin := He.free_ok X G (c.fact 15 (f := .free "min") rfl)
  obtain ⟨tk, gM⟩ := He.int_ok X G (c.fact 16 (f := .int "MOST_WORDS" 20) rfl)
  have gS := He.glo_ok X G (c.fact 17 (f := .glo "SIZE_WORDS") rfl)
  have hS := tupS z1
  have gX := He.glo_ok X G (c.fact 18 (f := .glo "AXES") rfl)
  have hX := tupS z6
  have gMo := He.glo_ok X G (c.fact 19 (f := .glo "Moment") rfl)
  have Mo : Mom K mg (ga K "Moment") := ⟨gMo, momB_ok xm⟩
  have gA := He.glo_ok X G (c.fact 20 (f := .glo "WAYS_ACROSS") rfl)
  have gD := He.glo_ok X G (c.fact 21 (f := .glo "WAYS_DOWN") rfl)
  have MWords := He.mkr_ok (c.fact 22 (f := .mkr "Words") rfl)
  have EWords := He.meth_ok (c.fact 23 (f := .meth "Words" "__eq__") rfl)
  have TWords : K1.TC K mg "Words" (ga K "Words") (ma K (ga K "Words") "__init__") (ma K (ga K "Words") "__eq__") := ⟨He.glo_ok X G (c.fact 24 (f := .glo "Words") rfl), He.cls_ok (c.fact 25 (f := .cls "Words") rfl), MWords, EWords.at_, EWords.fn, of_decide_eq_true w1, of_decide_eq_true w2, of_decide_eq_true w3, of_decide_eq_true x1, of_decide_eq_true x2, of_decide_eq_true w4, w5⟩
  have MBlock := He.mkr_ok (c.fact 26 (f := .mkr "Block") rfl)
  have EBlock := He.meth_ok (c.fact 27 (f := .meth "Block" "__eq__") rfl)
  have TBlock : K1.TC K mg "Block" (ga K "Block") (ma K (ga K "Block") "__init__") (ma K (ga K "Block") "__eq__") := ⟨He.glo_ok X G (c.fact 28 (f := .glo "Block") rfl), He.cls_ok (c.fact 29 (f := .cls "Block") rfl), MBlock, EBlock.at_, EBlock.fn, of_decide_eq_true b1, of_decide_eq_true b2, of_decide_eq_true b3, of_decide_eq_true x1, of_decide_eq_true x2, of_decide_eq_true b4, b5⟩
  have T2 : K1.T2 K mg (ga K "Words") (ga K "Block") _ _ _ _ := ⟨TWords, TBlock, of_decide_eq_true x3, of_decide_eq_true x4, x5, He.noat_ok (c.fact 30 (f := .noat "Words" "widths") rfl), He.noat_ok (c.fact 31 (f := .noat "Words" "blank") rfl), He.noat_ok (c.fact 32 (f := .noat "Words" "line") rfl), He.noat_ok (c.fact 33 (f := .noat "Words" "base") rfl), He.noat_ok (c.fact 34 (f := .noat "Block" "width") rfl), He.noat_ok (c.fact 35 (f := .noat "Block" "height") rfl)⟩
  have naItem : ∀ y ∈ inames, NoAttr K (ga K "Item") y := by
    intro y hy
    simp only [inames, List.mem_cons, List.not_mem_nil, or_false] at hy
    rcases hy with rfl | rfl | rfl | rfl | rfl | rfl | rfl | rfl | rfl | rfl | rfl | rfl | rfl
    · exact He.noat_ok (c.fact 36 (f := .noat "Item" "content") rfl)
    · exact He.noat_ok (c.fact 37 (f := .noat "Item" "order") rfl)
    · exact He.noat_ok (c.fact 38 (f := .noat "Item" "column") rfl)
    · exact He.noat_ok (c.fact 39 (f := .noat "Item" "row") rfl)
    · exact He.noat_ok (c.fact 40 (f := .noat "Item" "margins") rfl)
    · exact He.noat_ok (c.fact 41 (f := .noat "Item" "width") rfl)
    · exact He.noat_ok (c.fact 42 (f := .noat "Item" "height") rfl)
    · exact He.noat_ok (c.fact 43 (f := .noat "Item" "least_width") rfl)
    · exact He.noat_ok (c.fact 44 (f := .noat "Item" "greatest_width") rfl)
    · exact He.noat_ok (c.fact 45 (f := .noat "Item" "least_height") rfl)
    · exact He.noat_ok (c.fact 46 (f := .noat "Item" "greatest_height") rfl)
    · exact He.noat_ok (c.fact 47 (f := .noat "Item" "justify") rfl)
    · exact He.noat_ok (c.fact 48 (f := .noat "Item" "align") rfl)
  have MItem := He.mkr_ok (c.fact 49 (f := .mkr "Item") rfl)
  have TItem : TI K mg "Item" (ga K "Item") (ma K (ga K "Item") "__init__") inames := ⟨He.glo_ok X G (c.fact 50 (f := .glo "Item") rfl), He.cls_ok (c.fact 51 (f := .cls "Item") rfl), MItem, of_decide_eq_true i1, of_decide_eq_true i2, of_decide_eq_true x1, of_decide_eq_true x2, of_decide_eq_true i3, naItem⟩
  have naBounds : ∀ y ∈ bnames, NoAttr K (ga K "Bounds") y := by
    intro y hy
    simp only [bnames, List.mem_cons, List.not_mem_nil, or_false] at hy
    rcases hy with rfl | rfl | rfl | rfl | rfl | rfl
    · exact He.noat_ok (c.fact 52 (f := .noat "Bounds" "low_word") rfl)
    · exact He.noat_ok (c.fact 53 (f := .noat "Bounds" "low") rfl)
    · exact He.noat_ok (c.fact 54 (f := .noat "Bounds" "high_word") rfl)
    · exact He.noat_ok (c.fact 55 (f := .noat "Bounds" "high") rfl)
    · exact He.noat_ok (c.fact 56 (f := .noat "Bounds" "share") rfl)
    · exact He.noat_ok (c.fact 57 (f := .noat "Bounds" "cap") rfl)
  have MBounds := He.mkr_ok (c.fact 58 (f := .mkr "Bounds") rfl)
  have TBounds : TI K mg "Bounds" (ga K "Bounds") (ma K (ga K "Bounds") "__init__") bnames := ⟨He.glo_ok X G (c.fact 59 (f := .glo "Bounds") rfl), He.cls_ok (c.fact 60 (f := .cls "Bounds") rfl), MBounds, of_decide_eq_true d1, of_decide_eq_true d2, of_decide_eq_true x1, of_decide_eq_true x2, of_decide_eq_true d3, naBounds⟩
  have Kd : Kinds K mg (ga K "Words") (ga K "Block") (ga K "Page") := ⟨TWords.gC, TBlock.gC, He.glo_ok X G (c.fact 61 (f := .glo "Page") rfl), of_decide_eq_true x3, of_decide_eq_true x7, of_decide_eq_true x4, of_decide_eq_true x8⟩
  have e_is_integer : K1.D1 P w K mg base "is_integer" "value" 1 (K1.spInt) _ _ := ⟨(K1.ok_int F_is_integer N), He.glo_ok X G (c.fact 62 (f := .glo "is_integer") rfl), F_is_integer.kp, K1b1 (x := "is_integer") (i := 29) F_is_integer⟩
  have e_is_number : K1.D1 P w K mg base "is_number" "value" 2 (K1.spNum) _ _ := ⟨(K1.ok_num F_is_number N gMo e_is_integer), He.glo_ok X G (c.fact 63 (f := .glo "is_number") rfl), F_is_number.kp, K1b1 (x := "is_number") (i := 30) F_is_number⟩
  have e_fraction_of : K1.D1 P w K mg base "fraction_of" "number" 1 (K1.spPair) _ _ := ⟨(K1.ok_frac F_fraction_of N), He.glo_ok X G (c.fact 64 (f := .glo "fraction_of") rfl), F_fraction_of.kp, K1b1 (x := "fraction_of") (i := 32) F_fraction_of⟩
  have e_number_of : K1.D2 P w K mg base "number_of" "top" "bottom" 1 (K1.spMkN) _ _ := ⟨(K1.ok_nof F_number_of N), He.glo_ok X G (c.fact 65 (f := .glo "number_of") rfl), F_number_of.kp, K1b2 (x := "number_of") (i := 33) F_number_of⟩
  have e_is_moving : K1.D1 P w K mg base "is_moving" "number" 1 (K1.spMov) _ _ := ⟨(K1.ok_mov F_is_moving N), He.glo_ok X G (c.fact 66 (f := .glo "is_moving") rfl), F_is_moving.kp, K1b1 (x := "is_moving") (i := 34) F_is_moving⟩
  have e_at_most : K1.D2 P w K mg base "at_most" "one" "other" 2 (K1.spLe) _ _ := ⟨(K1.ok_le F_at_most N e_is_moving e_fraction_of), He.glo_ok X G (c.fact 67 (f := .glo "at_most") rfl), F_at_most.kp, K1b2 (x := "at_most") (i := 41) F_at_most⟩
  have e_plus : K1.D2 P w K mg base "plus" "one" "other" 2 (K1.spPlus) _ _ := ⟨(K1.ok_plus F_plus N e_is_moving e_fraction_of e_number_of), He.glo_ok X G (c.fact 68 (f := .glo "plus") rfl), F_plus.kp, K1b2 (x := "plus") (i := 44) F_plus⟩
  have e_is_length : K1.D1 P w K mg base "is_length" "value" 3 (K1.spLen) _ _ := ⟨(K1.ok_len F_is_length e_is_number e_at_most), He.glo_ok X G (c.fact 69 (f := .glo "is_length") rfl), F_is_length.kp, K1b1 (x := "is_length") (i := 31) F_is_length⟩
  have e_check_widths : K1.D1 P w K mg base "check_widths" "widths" 4 (K1.spCkW) _ _ := ⟨(K1.ok_ckw F_check_widths N gM e_is_length), He.glo_ok X G (c.fact 70 (f := .glo "check_widths") rfl), F_check_widths.kp, K1b1 (x := "check_widths") (i := 53) F_check_widths⟩
  have e_check_length : K1.D2 P w K mg base "check_length" "part" "value" 4 (K1.spCkL) _ _ := ⟨(K1.ok_ckl F_check_length e_is_length), He.glo_ok X G (c.fact 71 (f := .glo "check_length") rfl), F_check_length.kp, K1b2 (x := "check_length") (i := 54) F_check_length⟩
  have e_check_content : K1.D1 P w K mg base "check_content" "content" 1 (K1.spCkC (ga K "Words") (ga K "Block")) _ _ := ⟨(K1.ok_ckc F_check_content N T2), He.glo_ok X G (c.fact 72 (f := .glo "check_content") rfl), F_check_content.kp, K1b1 (x := "check_content") (i := 55) F_check_content⟩
  have e_least_width : K1.D1 P w K mg base "least_width" "content" 3 (K1.spLW (ga K "Words") (ga K "Block") fun ws _ n => K1.mx ws n) _ _ := ⟨(K1.ok_lw F_least_width N T2 e_check_content e_at_most), He.glo_ok X G (c.fact 73 (f := .glo "least_width") rfl), F_least_width.kp, K1b1 (x := "least_width") (i := 57) F_least_width⟩
  have e_most_width : K1.D1 P w K mg base "most_width" "content" 3 (K1.spLW (ga K "Words") (ga K "Block") fun ws b n => K1.lo b ws n) _ _ := ⟨(K1.ok_mw F_most_width N T2 e_check_content e_plus), He.glo_ok X G (c.fact 74 (f := .glo "most_width") rfl), F_most_width.kp, K1b1 (x := "most_width") (i := 58) F_most_width⟩
  have d_is_integer : D1 P w K mg base "is_integer" "value" 1 (spQ K any isInt) _ _ := ⟨(K5.ok_int F_is_integer N), He.glo_ok X G (c.fact 62 (f := .glo "is_integer") rfl), F_is_integer.kp, K1b1 (x := "is_integer") (i := 29) F_is_integer⟩
  have d_is_number : D1 P w K mg base "is_number" "value" 2 (spQ K any isNum) _ _ := ⟨(K5.ok_num F_is_number N Mo d_is_integer), He.glo_ok X G (c.fact 63 (f := .glo "is_number") rfl), F_is_number.kp, K1b1 (x := "is_number") (i := 30) F_is_number⟩
  have d_fraction_of : D1 P w K mg base "fraction_of" "number" 1 (spPair K) _ _ := ⟨(K5.ok_frac F_fraction_of N), He.glo_ok X G (c.fact 64 (f := .glo "fraction_of") rfl), F_fraction_of.kp, K1b1 (x := "fraction_of") (i := 32) F_fraction_of⟩
  have d_is_moving : D1 P w K mg base "is_moving" "number" 1 (spMov K) _ _ := ⟨(K5.ok_mov F_is_moving N), He.glo_ok X G (c.fact 66 (f := .glo "is_moving") rfl), F_is_moving.kp, K1b1 (x := "is_moving") (i := 34) F_is_moving⟩
  have d_at_most : D2 P w K mg base "at_most" "one" "other" 2 (spLe K) _ _ := ⟨(K5.ok_le F_at_most N d_is_moving d_fraction_of), He.glo_ok X G (c.fact 67 (f := .glo "at_most") rfl), F_at_most.kp, K1b2 (x := "at_most") (i := 41) F_at_most⟩
  have d_is_length : D1 P w K mg base "is_length" "value" 3 (spQ K okL isLen) _ _ := ⟨(K5.ok_len F_is_length d_is_number d_at_most), He.glo_ok X G (c.fact 69 (f := .glo "is_length") rfl), F_is_length.kp, K1b1 (x := "is_length") (i := 31) F_is_length⟩
  have d_is_word : D2 P w K mg base "is_word" "value" "words" 1 (spWord K) _ _ := ⟨(K5.ok_word F_is_word N hs), He.glo_ok X G (c.fact 75 (f := .glo "is_word") rfl), F_is_word.kp, K1b2 (x := "is_word") (i := 14) F_is_word⟩
  have d_is_marked : D3 P w K mg base "is_marked" "value" "word" "many" 2 (spMark K) _ _ := ⟨(K5.ok_mark F_is_marked N d_is_word), He.glo_ok X G (c.fact 76 (f := .glo "is_marked") rfl), F_is_marked.kp, K1b3 (x := "is_marked") (i := 15) F_is_marked⟩
  have d_is_part : D1 P w K mg base "is_part" "value" 4 (spQ K okS isPart) _ _ := ⟨(K5.ok_part F_is_part d_is_marked d_is_length), He.glo_ok X G (c.fact 77 (f := .glo "is_part") rfl), F_is_part.kp, K1b1 (x := "is_part") (i := 73) F_is_part⟩
  have d_is_share : D1 P w K mg base "is_share" "value" 4 (spQ K okS isShare) _ _ := ⟨(K5.ok_share F_is_share d_is_marked d_is_length), He.glo_ok X G (c.fact 78 (f := .glo "is_share") rfl), F_is_share.kp, K1b1 (x := "is_share") (i := 74) F_is_share⟩
  have d_is_fixed : D1 P w K mg base "is_fixed" "value" 5 (spQ K okS isFixed) _ _ := ⟨(K5.ok_fixed F_is_fixed d_is_length d_is_part), He.glo_ok X G (c.fact 79 (f := .glo "is_fixed") rfl), F_is_fixed.kp, K1b1 (x := "is_fixed") (i := 75) F_is_fixed⟩
  have d_is_plain_size : D1 P w K mg base "is_plain_size" "value" 6 (spQ K okS isPlain) _ _ := ⟨(K5.ok_plain F_is_plain_size d_is_fixed d_is_word gS hS), He.glo_ok X G (c.fact 80 (f := .glo "is_plain_size") rfl), F_is_plain_size.kp, K1b1 (x := "is_plain_size") (i := 76) F_is_plain_size⟩
  have d_is_upto : D1 P w K mg base "is_upto" "value" 6 (spQ K okB isUpto) _ _ := ⟨(K5.ok_upto F_is_upto d_is_marked d_is_fixed), He.glo_ok X G (c.fact 81 (f := .glo "is_upto") rfl), F_is_upto.kp, K1b1 (x := "is_upto") (i := 78) F_is_upto⟩
  have d_is_between : D1 P w K mg base "is_between" "value" 7 (spQ K okB isBetw) _ _ := ⟨(K5.ok_betw F_is_between d_is_marked d_is_plain_size d_is_share), He.glo_ok X G (c.fact 82 (f := .glo "is_between") rfl), F_is_between.kp, K1b1 (x := "is_between") (i := 77) F_is_between⟩
  have d_is_size : D1 P w K mg base "is_size" "value" 8 (spQ K okB isSize) _ _ := ⟨(K5.ok_size F_is_size d_is_plain_size d_is_share d_is_between d_is_upto), He.glo_ok X G (c.fact 83 (f := .glo "is_size") rfl), F_is_size.kp, K1b1 (x := "is_size") (i := 79) F_is_size⟩
  have d_plus : D2 P w K mg base "plus" "one" "other" 2 (spMM K (· + ·)) _ _ := ⟨(K5.ok_plusU (K5.ok_plus F_plus N d_is_moving d_fraction_of e_number_of)), He.glo_ok X G (c.fact 68 (f := .glo "plus") rfl), F_plus.kp, K1b2 (x := "plus") (i := 44) F_plus⟩
  have d_minus : D2 P w K mg base "minus" "one" "other" 2 (spMM K (· - ·)) _ _ := ⟨(K5.ok_minusU (K5.ok_minus F_minus N d_is_moving d_fraction_of e_number_of)), He.glo_ok X G (c.fact 84 (f := .glo "minus") rfl), F_minus.kp, K1b2 (x := "minus") (i := 45) F_minus⟩
  have d_times : D2 P w K mg base "times" "one" "other" 2 (spTm2 K) _ _ := ⟨(K5.ok_timesU (K5.ok_times F_times N d_is_moving d_fraction_of e_number_of)), He.glo_ok X G (c.fact 85 (f := .glo "times") rfl), F_times.kp, K1b2 (x := "times") (i := 46) F_times⟩
  have d_at_mostU : D2 P w K mg base "at_most" "one" "other" 2 (spLeU K) _ _ := ⟨(K5.ok_leU (K5.ok_le F_at_most N d_is_moving d_fraction_of)), He.glo_ok X G (c.fact 67 (f := .glo "at_most") rfl), F_at_most.kp, K1b2 (x := "at_most") (i := 41) F_at_most⟩
  have d_lesser : D2 P w K mg base "lesser" "one" "other" 3 (spMM K min) _ _ := ⟨(K5.ok_less F_lesser d_at_mostU), He.glo_ok X G (c.fact 86 (f := .glo "lesser") rfl), F_lesser.kp, K1b2 (x := "lesser") (i := 42) F_lesser⟩
  have d_greater : D2 P w K mg base "greater" "one" "other" 3 (spMM K max) _ _ := ⟨(K5.ok_grt F_greater d_at_mostU), He.glo_ok X G (c.fact 87 (f := .glo "greater") rfl), F_greater.kp, K1b2 (x := "greater") (i := 43) F_greater⟩
  have d_total : D1 P w K mg base "total" "numbers" 3 (spTt K) _ _ := ⟨(K5.ok_tot F_total d_plus), He.glo_ok X G (c.fact 88 (f := .glo "total") rfl), F_total.kp, K1b1 (x := "total") (i := 47) F_total⟩
  have d_with_gaps : D2 P w K mg base "with_gaps" "numbers" "gap" 4 (spWG K) _ _ := ⟨(K5.ok_wg F_with_gaps N hmax d_plus d_total d_times), He.glo_ok X G (c.fact 89 (f := .glo "with_gaps") rfl), F_with_gaps.kp, K1b2 (x := "with_gaps") (i := 48) F_with_gaps⟩
  have d_check_item : D2 P w K mg base "check_item" "part" "is_right" 1 (spCG) _ _ := ⟨(K5.ok_ci F_check_item N), He.glo_ok X G (c.fact 90 (f := .glo "check_item") rfl), F_check_item.kp, K1b2 (x := "check_item") (i := 105) F_check_item⟩
  have d_is_told_length : D1 P w K mg base "is_told_length" "value" 4 (spTl K) _ _ := ⟨(K5.ok_tl F_is_told_length d_is_length), He.glo_ok X G (c.fact 91 (f := .glo "is_told_length") rfl), F_is_told_length.kp, K1b1 (x := "is_told_length") (i := 107) F_is_told_length⟩
  have d_is_line_count : D1 P w K mg base "is_line_count" "value" 1 spNo _ _ := ⟨ok_no, He.glo_ok X G (c.fact 92 (f := .glo "is_line_count") rfl), F_is_line_count.kp, K1b1 (x := "is_line_count") (i := 65) F_is_line_count⟩
  have d_is_name : D1 P w K mg base "is_name" "value" 1 spNo _ _ := ⟨ok_no, He.glo_ok X G (c.fact 93 (f := .glo "is_name") rfl), F_is_name.kp, K1b1 (x := "is_name") (i := 16) F_is_name⟩
  have d_is_own : D1 P w K mg base "is_own" "value" 1 spNo _ _ := ⟨ok_no, He.glo_ok X G (c.fact 94 (f := .glo "is_own") rfl), F_is_own.kp, K1b1 (x := "is_own") (i := 134) F_is_own⟩
  have d_height_in : D2 P w K mg base "height_in" "content" "width" 1 spNo _ _ := ⟨ok_no, He.glo_ok X G (c.fact 95 (f := .glo "height_in") rfl), F_height_in.kp, K1b2 (x := "height_in") (i := 61) F_height_in⟩
  have d_is_edge : D1 P w K mg base "is_edge" "value" 3 (spEd K) _ _ := ⟨(K5.ok_ed (f4 := 0) (d4 := f_is_edge) F_is_edge N d_is_line_count d_is_name d_is_marked), He.glo_ok X G (c.fact 96 (f := .glo "is_edge") rfl), F_is_edge.kp, K1b1 (x := "is_edge") (i := 66) F_is_edge⟩
  have d_are_edges : D1 P w K mg base "are_edges" "value" 4 (spEs K) _ _ := ⟨(K5.ok_es F_are_edges N d_is_edge), He.glo_ok X G (c.fact 97 (f := .glo "are_edges") rfl), F_are_edges.kp, K1b1 (x := "are_edges") (i := 67) F_are_edges⟩
  have d_are_margins : D1 P w K mg base "are_margins" "value" 3 (spMg K) _ _ := ⟨(K5.ok_mg F_are_margins N hall d_is_number), He.glo_ok X G (c.fact 98 (f := .glo "are_margins") rfl), F_are_margins.kp, K1b1 (x := "are_margins") (i := 106) F_are_margins⟩
  have d_length_in : D2 P w K mg base "length_in" "value" "whole" 3 (spLi K) _ _ := ⟨(K5.ok_li F_length_in d_is_marked d_times), He.glo_ok X G (c.fact 99 (f := .glo "length_in") rfl), F_length_in.kp, K1b2 (x := "length_in") (i := 114) F_length_in⟩
  have d_bound_of : D2 P w K mg base "bound_of" "value" "whole" 4 (spBo K) _ _ := ⟨(K5.ok_bo F_bound_of N hs d_is_marked d_length_in), He.glo_ok X G (c.fact 100 (f := .glo "bound_of") rfl), F_bound_of.kp, K1b2 (x := "bound_of") (i := 115) F_bound_of⟩
  have d_Bounds : DM P w K mg base "Bounds" ["self", "low", "high", "cap"] 1 (spBI K (ga K "Bounds")) (ga K "Bounds") _ _ := ⟨MBounds, ok_bi F_Bounds__init__ TBounds, TBounds.gC, F_Bounds__init__.bindsN fun _ _ _ _ _ _ us hl => match us, hl with | [_, _, _, _], _ => rfl⟩
  have d_bounds_of : D2 P w K mg base "bounds_of" "size" "whole" 5 (spBs K (ga K "Bounds")) _ _ := ⟨(K5.ok_bs F_bounds_of d_is_marked d_length_in d_bound_of d_Bounds), He.glo_ok X G (c.fact 101 (f := .glo "bounds_of") rfl), F_bounds_of.kp, K1b2 (x := "bounds_of") (i := 116) F_bounds_of⟩
  have d_all_bounds : D2 P w K mg base "all_bounds" "sizes" "whole" 6 (spAb K (ga K "Bounds")) _ _ := ⟨(K5.ok_ab F_all_bounds d_bounds_of), He.glo_ok X G (c.fact 102 (f := .glo "all_bounds") rfl), F_all_bounds.kp, K1b2 (x := "all_bounds") (i := 117) F_all_bounds⟩
  have d_size_in : D2 P w K mg base "size_in" "item" "axis" 1 (spIx K (ga K "Item") Im.sz) _ _ := ⟨(K5.ok_si F_size_in N TItem), He.glo_ok X G (c.fact 103 (f := .glo "size_in") rfl), F_size_in.kp, K1b2 (x := "size_in") (i := 122) F_size_in⟩
  have d_least_in : D2 P w K mg base "least_in" "item" "axis" 1 (spIx K (ga K "Item") Im.ls) _ _ := ⟨(K5.ok_ls F_least_in N TItem), He.glo_ok X G (c.fact 104 (f := .glo "least_in") rfl), F_least_in.kp, K1b2 (x := "least_in") (i := 123) F_least_in⟩
  have d_greatest_in : D2 P w K mg base "greatest_in" "item" "axis" 1 (spIx K (ga K "Item") Im.gr) _ _ := ⟨(K5.ok_gi F_greatest_in N TItem), He.glo_ok X G (c.fact 105 (f := .glo "greatest_in") rfl), F_greatest_in.kp, K1b2 (x := "greatest_in") (i := 124) F_greatest_in⟩
  have d_margins_in : D2 P w K mg base "margins_in" "item" "axis" 1 (spMi K (ga K "Item")) _ _ := ⟨(K5.ok_mi F_margins_in N TItem), He.glo_ok X G (c.fact 106 (f := .glo "margins_in") rfl), F_margins_in.kp, K1b2 (x := "margins_in") (i := 125) F_margins_in⟩
  have d_margins_of : D2 P w K mg base "margins_of" "item" "axis" 3 (spMo K (ga K "Item")) _ _ := ⟨(K5.ok_mo F_margins_of d_margins_in d_plus), He.glo_ok X G (c.fact 107 (f := .glo "margins_of") rfl), F_margins_of.kp, K1b2 (x := "margins_of") (i := 126) F_margins_of⟩
  have d_held : D3 P w K mg base "held" "item" "axis" "size" 4 (spHe K (ga K "Item")) _ _ := ⟨(K5.ok_he F_held d_greatest_in d_least_in d_lesser d_greater), He.glo_ok X G (c.fact 108 (f := .glo "held") rfl), F_held.kp, K1b3 (x := "held") (i := 127) F_held⟩
  have d_outer : D2 P w K mg base "outer" "size" "margins" 4 (spOu K) _ _ := ⟨(K5.ok_ou F_outer d_plus d_greater), He.glo_ok X G (c.fact 109 (f := .glo "outer") rfl), F_outer.kp, K1b2 (x := "outer") (i := 128) F_outer⟩
  have d_may_ask : D1 P w K mg base "may_ask" "bounds" 1 (spMa K (ga K "Bounds")) _ _ := ⟨(K5.ok_ma F_may_ask N hall TBounds), He.glo_ok X G (c.fact 110 (f := .glo "may_ask") rfl), F_may_ask.kp, K1b1 (x := "may_ask") (i := 129) F_may_ask⟩
  have d_automatic_least : DN P w K mg base "automatic_least" ["item", "axis", "bounds", "gap", "own_least", "margins"] 5 (spAl K (ga K "Item") (ga K "Bounds")) _ _ := ⟨(K5.ok_al F_automatic_least N hall TBounds d_may_ask d_greatest_in d_lesser d_greater d_minus d_with_gaps), He.glo_ok X G (c.fact 111 (f := .glo "automatic_least") rfl), F_automatic_least.kp, K1b6 (x := "automatic_least") (i := 130) F_automatic_least⟩
  have d_limit_of : D2 P w K mg base "limit_of" "bounds" "gap" 5 (spLm K (ga K "Bounds")) _ _ := ⟨(K5.ok_lm F_limit_of N hany TBounds d_with_gaps), He.glo_ok X G (c.fact 112 (f := .glo "limit_of") rfl), F_limit_of.kp, K1b2 (x := "limit_of") (i := 131) F_limit_of⟩
  have d_asked_of : DN P w K mg base "asked_of" ["item", "axis", "bounds", "gap", "own", "margins"] 6 (spAk K (ga K "Item") (ga K "Bounds")) _ _ := ⟨(K5.ok_ak F_asked_of d_size_in d_outer d_held d_least_in d_automatic_least d_limit_of d_lesser d_greater), He.glo_ok X G (c.fact 113 (f := .glo "asked_of") rfl), F_asked_of.kp, K1b6 (x := "asked_of") (i := 132) F_asked_of⟩
  have d_own_sizes : D3 P w K mg base "own_sizes" "content" "axis" "inner" 4 (spOs K (ga K "Words") (ga K "Block")) _ _ := ⟨(K5.ok_os F_own_sizes N e_least_width e_most_width d_height_in), He.glo_ok X G (c.fact 114 (f := .glo "own_sizes") rfl), F_own_sizes.kp, K1b3 (x := "own_sizes") (i := 133) F_own_sizes⟩
  have d_check_sizes : D1 P w K mg base "check_sizes" "sizes" 9 (spCs K) _ _ := ⟨(K5.ok_cs F_check_sizes N d_is_size), He.glo_ok X G (c.fact 115 (f := .glo "check_sizes") rfl), F_check_sizes.kp, K1b1 (x := "check_sizes") (i := 135) F_check_sizes⟩
  have d_check_axis : D1 P w K mg base "check_axis" "axis" 2 (spCA) _ _ := ⟨(K5.ok_ca F_check_axis N gX hX d_is_word), He.glo_ok X G (c.fact 116 (f := .glo "check_axis") rfl), F_check_axis.kp, K1b1 (x := "check_axis") (i := 111) F_check_axis⟩
  have d_is_whole : D1 P w K mg base "is_whole" "value" 4 (spTl K) _ _ := ⟨(K5.ok_iw F_is_whole d_is_length), He.glo_ok X G (c.fact 117 (f := .glo "is_whole") rfl), F_is_whole.kp, K1b1 (x := "is_whole") (i := 119) F_is_whole⟩
  have d_check_whole : D1 P w K mg base "check_whole" "whole" 5 (spCw K) _ _ := ⟨(K5.ok_cw F_check_whole d_is_whole), He.glo_ok X G (c.fact 118 (f := .glo "check_whole") rfl), F_check_whole.kp, K1b1 (x := "check_whole") (i := 120) F_check_whole⟩
  have d_check_inner : D3 P w K mg base "check_inner" "inner" "axis" "own" 4 (spCn) _ _ := ⟨(K5.ok_cn F_check_inner d_is_length), He.glo_ok X G (c.fact 119 (f := .glo "check_inner") rfl), F_check_inner.kp, K1b3 (x := "check_inner") (i := 136) F_check_inner⟩
  have d_Words : DM P w K mg base "Words" ["self", "widths", "blank", "line", "base"] 5 (K1.spWI (ga K "Words")) (ga K "Words") _ _ := ⟨MWords, K1.ok_wi F_Words__init__ N T2 e_check_widths e_check_length, TWords.gC, F_Words__init__.bindsN fun _ _ _ _ _ _ us hl => match us, hl with | [_, _, _, _, _], _ => rfl⟩
  have d_is_wordN : D2 P w K mg base "is_word" "value" "words" 1 spNo _ _ := ⟨ok_no, He.glo_ok X G (c.fact 75 (f := .glo "is_word") rfl), F_is_word.kp, K1b2 (x := "is_word") (i := 14) F_is_word⟩
  have d_Item : DI P w K mg base (ga K "Words") (ga K "Block") (ga K "Item") _ _ := ⟨MItem, ok_ii F_Item__init__ N TItem T2 Kd d_check_item d_is_integer d_are_edges d_are_margins d_is_told_length d_is_wordN _ _ gA gD, TItem.gC⟩
  have FIt : FI K (aC K) (aR K) (aM K) _ _ := F_Item__init__
  obtain ⟨vI, kI⟩ := kIA FIt
  have FCo : FC K _ _ := F_contributions
  obtain ⟨vC, kb_contributions⟩ := kC FCo
  have d_contributions : DC P w K mg base (ga K "Words") (ga K "Block") (ga K "Item") _ _ := ⟨ok_co F_contributions N TItem T2 Kd d_check_axis d_check_sizes d_is_length d_check_whole d_check_inner d_is_own d_own_sizes d_asked_of d_all_bounds d_margins_of, He.glo_ok X G (c.fact 120 (f := .glo "contributions") rfl), F_contributions.kp⟩
  have hC : ∀ H, Dp K H (.ref (aC K)) (.tuple [.none, .none]) := fun H => .tup (tupA_ok y1 H) (.cons .non (.cons .non .nil))
  have hR : ∀ H, Dp K H (.ref (aR K)) (.tuple [.none, .none]) := fun H => .tup (tupA_ok y2 H) (.cons .non (.cons .non .nil))
  have d__law_mix : D2 P w K mg base "_law_mix" "cell" "lap" 1 (spMx) _ _ := ⟨(K5.ok_mx F__law_mix N), He.glo_ok X G (c.fact 121 (f := .glo "_law_mix") rfl), F__law_mix.kp, K1b2 (x := "_law_mix") (i := 139) F__law_mix⟩
  have d__law_draw : D2 P w K mg base "_law_draw" "well" "limit" 2 (spDr) _ _ := ⟨(K5.ok_dr F__law_draw N d__law_mix), He.glo_ok X G (c.fact 122 (f := .glo "_law_draw") rfl), F__law_draw.kp, K1b2 (x := "_law_draw") (i := 141) F__law_draw⟩
  have d__law_source : D2 P w K mg base "_law_source" "script" "k" 1 (spSo K) _ _ := ⟨(K5.ok_so F__law_source N), He.glo_ok X G (c.fact 123 (f := .glo "_law_source") rfl), F__law_source.kp, K1b2 (x := "_law_source") (i := 140) F__law_source⟩
  have d__law_cases : D2 P w K mg base "_law_cases" "wide" "room" 1 (spCL K) _ _ := ⟨(K5.ok_cl F__law_cases ), He.glo_ok X G (c.fact 124 (f := .glo "_law_cases") rfl), F__law_cases.kp, K1b2 (x := "_law_cases") (i := 146) F__law_cases⟩
  have d__law_right : DN P w K mg base "_law_right" ["first", "second", "lanes", "total_v", "parts"] 11 (spLR K) _ _ := ⟨(K5.ok_lr F__law_right hmax hmin N T2 d_Words d_Item d_contributions kI hC hR kb_contributions), He.glo_ok X G (c.fact 125 (f := .glo "_law_right") rfl), F__law_right.kp, K1b5 (x := "_law_right") (i := 147) F__law_right⟩
  exact ok_law F_law N hmax hmin d__law_source d__law_draw d__law_cases d__law_right
end K5

set_option Elab.async false
set_option linter.all false
set_option maxRecDepth 100000
set_option maxHeartbeats 0
namespace K5
open PySem PySem.Spec PyProof.Rows L2
abbrev R : PySem.W.OpenRow := PySem.W.OpenLaw.row PySem.Challenge.rw_gridlanes_k34_limited_contributions
abbrev hk : PySem.W.Hook := hookP 1070 fa fn exB
def ob (s : PySem.W.SharedT) : AlP := obsPG 1070 fa fn exB (HandSHeadRun.getT s)
theorem ob_eq (s : PySem.W.SharedT) : ob s = hk.obs s.abs := obsPG_eq (HandSHeadRun.getT_eq s)
def nlo1 : List Str := ["LaneError", "NoNumber", "NoContent", "NoGrid", "NoItem", "NoPage", "NoAxis", "NoSizes", "LETTERS", "NAME_SIGNS", "LONGEST_NAME", "is_word", "is_marked", "is_name", "are_names"]
def nlo2 : List Str := ["NO_FIELD", "MOST_FIELD_ROWS", "MOST_FIELD_COLUMNS", "is_field_word", "is_field_row", "field_cells", "is_rectangle", "wrong_field_row", "Moment", "is_integer", "is_number", "is_length", "fraction_of", "number_of", "is_moving"]
def nlo3 : List Str := ["moving_parts", "moving_of", "moving_sum", "moving_product", "keep_turn", "is_above", "at_most", "lesser", "greater", "plus", "minus", "times", "total", "with_gaps", "MOST_WORDS"]
def nlo4 : List Str := ["Words", "Block", "check_widths", "check_length", "check_content", "check_width", "least_width", "most_width", "line_firsts", "height_of", "height_in", "FURTHEST_LINE", "is_span_count", "is_line_count", "is_edge"]
def nlo5 : List Str := ["are_edges", "SIZE_WORDS", "MOST_REPEATS", "MOST_SIZES", "MOST_INHERITED_NAMES", "is_part", "is_share", "is_fixed", "is_plain_size", "is_between", "is_upto", "is_size", "low_of", "high_of", "is_names_entry"]
def nlo6 : List Str := ["are_inner_entries", "is_repeat", "is_filler", "is_entry", "sizes_in", "may_be_filled", "are_entries", "is_inherited", "is_template", "FLOWS", "LANES_WAYS", "WAYS_ACROSS", "WAYS_DOWN", "MOST_FURTHER_SIZES", "MOST_MEMBERS"]
def nlo7 : List Str := ["Grid", "Item", "Page", "check_grid", "check_fields", "check_further_sizes", "check_item", "are_margins", "is_told_length", "may_be_member", "AXES", "check_axis", "Bounds", "length_in", "bound_of"]
def nlo8 : List Str := ["bounds_of", "all_bounds", "is_whole", "check_whole", "size_in", "least_in", "greatest_in", "margins_in", "margins_of", "held", "outer", "may_ask", "automatic_least", "limit_of", "asked_of"]
def nlo9 : List Str := ["own_sizes", "is_own", "check_sizes", "check_inner", "contributions", "_law_mix", "_law_source", "_law_draw", "_law_one", "_law_num", "_law_units", "_law_length", "_law_cases", "_law_right"]
def loo : List Str := nlo1 ++ nlo2 ++ nlo3 ++ nlo4 ++ nlo5 ++ nlo6 ++ nlo7 ++ nlo8 ++ nlo9
theorem map3 {a b1 b2 b3 : Type} {A : Option a} {f1 : a → b1} {f2 : a → b2} {f3 : a → b3} {v1 : b1} {v2 : b2} {v3 : b3} (h1 : A.map f1 = some v1) (h2 : A.map f2 = some v2) (h3 : A.map f3 = some v3) : A.map (fun x => (f1 x, f2 x, f3 x)) = some (v1, v2, v3) := by
  cases A with
  | none => exact nomatch h1
  | some x =>
    have e1 : f1 x = v1 := Option.some.inj h1
    have e2 : f2 x = v2 := Option.some.inj h2
    have e3 : f3 x = v3 := Option.some.inj h3
    rw [← e1, ← e2, ← e3]
    rfl
theorem map4 {a b1 b2 b3 b4 c : Type} {g : b1 → b2 → b3 → b4 → c} {A : Option a} {f1 : a → b1} {f2 : a → b2} {f3 : a → b3} {f4 : a → b4} {v1 : b1} {v2 : b2} {v3 : b3} {v4 : b4} (h1 : A.map f1 = some v1) (h2 : A.map f2 = some v2) (h3 : A.map f3 = some v3) (h4 : A.map f4 = some v4) : A.map (fun x => g (f1 x) (f2 x) (f3 x) (f4 x)) = some (g v1 v2 v3 v4) := by
  cases A with
  | none => exact nomatch h1
  | some x =>
    have e1 : f1 x = v1 := Option.some.inj h1
    have e2 : f2 x = v2 := Option.some.inj h2
    have e3 : f3 x = v3 := Option.some.inj h3
    have e4 : f4 x = v4 := Option.some.inj h4
    rw [← e1, ← e2, ← e3, ← e4]
    rfl
theorem run1 (w : World) : (HandSHeadRun.wholeF (fun p => HandSHeadRun.stepQ (HandSHeadRun.denQ HandSHeadRun.tabQ) p w) HandSHeadRun.fenceQ 60000 R.prog).map (fun x => HandSHeadRun.looksF R.prog x.1.heap x.2.abs) = some true := by
  kernel_rfl
theorem run2 (w : World) : (HandSHeadRun.wholeF (fun p => HandSHeadRun.stepQ (HandSHeadRun.denQ HandSHeadRun.tabQ) p w) HandSHeadRun.fenceQ 60000 R.prog).map (fun x => HandSHeadRun.seenQ (PySem.W.view R.prog [0, 148]) loo (importedModules R.prog.main.body) (fun s => PySem.W.xlAt (PySem.W.view R.prog [0, 148]) [] s && PySem.W.recOk R.toRowW.records s) x.2.abs) = some (PySem.W.openGood (PySem.W.view R.prog [0, 148]) loo) := by
  kernel_rfl
def kf (x : PySem.W.SharedT) : PySem.W.Frag := He.frG (HandSHeadRun.getT x) (List.range 1070)
theorem allmap2 {a b : Type} {A : Option a} {p : a → b → Bool} (l : List b) (k : Nat) (h1 : A.map (fun x => (l.take k).all (p x)) = some true) (h2 : A.map (fun x => (l.drop k).all (p x)) = some true) : A.map (fun x => l.all (p x)) = some true := by
  cases A with
  | none => exact nomatch h1
  | some x =>
    have e1 : (l.take k).all (p x) = true := Option.some.inj h1
    have e2 : (l.drop k).all (p x) = true := Option.some.inj h2
    have e : l.all (p x) = (l.take k ++ l.drop k).all (p x) := by rw [List.take_append_drop]
    show some (l.all (p x)) = some true
    rw [e, List.all_append, e1, e2]
    rfl
theorem run3a1 (w : World) : (HandSHeadRun.wholeF (fun p => HandSHeadRun.stepQ (HandSHeadRun.denQ HandSHeadRun.tabQ) p w) HandSHeadRun.fenceQ 60000 R.prog).map (fun x => (fa.take 70).all fun f => He.Fa.ok (kf x.2) f) = some true := by
  kernel_rfl
theorem run3a2 (w : World) : (HandSHeadRun.wholeF (fun p => HandSHeadRun.stepQ (HandSHeadRun.denQ HandSHeadRun.tabQ) p w) HandSHeadRun.fenceQ 60000 R.prog).map (fun x => (fa.drop 70).all fun f => He.Fa.ok (kf x.2) f) = some true := by
  kernel_rfl
theorem run3a (w : World) : (HandSHeadRun.wholeF (fun p => HandSHeadRun.stepQ (HandSHeadRun.denQ HandSHeadRun.tabQ) p w) HandSHeadRun.fenceQ 60000 R.prog).map (fun x => fa.all fun f => He.Fa.ok (kf x.2) f) = some true := allmap2 fa 70 (run3a1 w) (run3a2 w)
theorem run3b1 (w : World) : (HandSHeadRun.wholeF (fun p => HandSHeadRun.stepQ (HandSHeadRun.denQ HandSHeadRun.tabQ) p w) HandSHeadRun.fenceQ 60000 R.prog).map (fun x => (fn.take 24).all fun d => He.DefD.ok (kf x.2) d) = some true := by
  kernel_rfl
theorem run3b2 (w : World) : (HandSHeadRun.wholeF (fun p => HandSHeadRun.stepQ (HandSHeadRun.denQ HandSHeadRun.tabQ) p w) HandSHeadRun.fenceQ 60000 R.prog).map (fun x => ((fn.drop 24).take 24).all fun d => He.DefD.ok (kf x.2) d) = some true := by
  kernel_rfl
theorem run3b3 (w : World) : (HandSHeadRun.wholeF (fun p => HandSHeadRun.stepQ (HandSHeadRun.denQ HandSHeadRun.tabQ) p w) HandSHeadRun.fenceQ 60000 R.prog).map (fun x => ((fn.drop 24).drop 24).all fun d => He.DefD.ok (kf x.2) d) = some true := by
  kernel_rfl
theorem run3b (w : World) : (HandSHeadRun.wholeF (fun p => HandSHeadRun.stepQ (HandSHeadRun.denQ HandSHeadRun.tabQ) p w) HandSHeadRun.fenceQ 60000 R.prog).map (fun x => fn.all fun d => He.DefD.ok (kf x.2) d) = some true := allmap2 fn 24 (run3b1 w) (allmap2 (fn.drop 24) 24 (run3b2 w) (run3b3 w))
theorem run3c (w : World) : (HandSHeadRun.wholeF (fun p => HandSHeadRun.stepQ (HandSHeadRun.denQ HandSHeadRun.tabQ) p w) HandSHeadRun.fenceQ 60000 R.prog).map (fun x => fn.map fun d => He.fnW (kf x.2) d.at_) = some (fn.map He.DefD.val) := by
  kernel_rfl
theorem run3d (w : World) : (HandSHeadRun.wholeF (fun p => HandSHeadRun.stepQ (HandSHeadRun.denQ HandSHeadRun.tabQ) p w) HandSHeadRun.fenceQ 60000 R.prog).map (fun x => exB (kf x.2)) = some true := by
  kernel_rfl
theorem run3 (w : World) : (HandSHeadRun.wholeF (fun p => HandSHeadRun.stepQ (HandSHeadRun.denQ HandSHeadRun.tabQ) p w) HandSHeadRun.fenceQ 60000 R.prog).map (fun x => ob x.2) = some (hk.val w) := map4 (g := fun p q l e => ((p && q, l), e)) (run3a w) (run3b w) (run3c w) (run3d w)
theorem run (w : World) : HandSHeadRun.RunEqI R (PySem.W.view R.prog [0, 148]) hk ob 60000 loo w := map3 (run1 w) (run2 w) (run3 w)
end K5
open PySem PySem.W PySem.Calls PyProof.Rows
theorem PySem.Challenge.cw_gridlanes_k34_limited_contributions_holds : PySem.Challenge.rw_gridlanes_k34_limited_contributions.Holds := by
  w_on; o_law
  refine HandSHeadRun.head_imp (r := OpenLaw.row PySem.Challenge.rw_gridlanes_k34_limited_contributions) (q := view (OpenLaw.row PySem.Challenge.rw_gridlanes_k34_limited_contributions).prog [0, 148]) (H := K5.hk) (ob := K5.ob) (M := 60000) (loose := K5.loo) (d := HandSHeadRun.topDef (OpenLaw.row PySem.Challenge.rw_gridlanes_k34_limited_contributions).prog 148) (kwd := []) K5.ob_eq
    K5.run (by kernel_rfl) (by kernel_rfl) (by kernel_rfl) (by rfl) (by first | assumption | decide +kernel) (by decide +kernel) ⟨rfl, rfl, rfl, rfl, rfl, by decide +kernel⟩ ?hw ?hc
  case hw => w_witness2
  case hc =>
    refine L2.walk_ofE (l := PySem.Challenge.rw_gridlanes_k34_limited_contributions) (n := 63) (k := 12) (x := "script") (CX := L2.CX0) rfl (by decide) (by kernel_rfl) ⟨rfl, by decide, by decide⟩ ?F (fun _ _ _ _ z => z)
    intro w mg fa h Y G hmg0
    obtain ⟨K, KX, c, x⟩ := Y
    have hmg : mg ("law" : PySem.Str) = some (.ref fa) := by
      have e : (HandSHeadRun.topDef (OpenLaw.row PySem.Challenge.rw_gridlanes_k34_limited_contributions).prog 148).name = ("law" : PySem.Str) := by kernel_rfl
      rw [← e]
      exact hmg0
    obtain ⟨fd, hb, hF⟩ := K5.facts (P := (PySem.Challenge.rw_gridlanes_k34_limited_contributions).prog) (w := w) KX G hmg c x
    exact ⟨K, fd, K5.spLaw K, KX, hb, fun H a ns hl _ hS => ⟨a, ns, rfl, hS, hl, fun _ => rfl⟩, hF⟩
#print axioms PySem.Challenge.cw_gridlanes_k34_limited_contributions_holds
