import PyProof.Rows.All
import Wide.All
import OpenK.AllK
import Wide.FinOn
import KE.KStateDown
import HandS.ForMost
import HandS.IsInst
import HandS.Defaults
import HandS.Flow
import HandS.Gcd
import HandS.Wide
import HandS.OwnEq
import HandS.Style
import HandS.Exc
import PyProof.InstNe
import KE.GoesEnum
import KE.GoesMore
import HandS.OwnIter
import KE.KDictZip
import HandS.Head0
import HandS.Head1
import HandS.Head2
import HandS.HeadEnd
import HandS.HeadHook1
import HandS.HeadHook2
import HandS.Text
import HandS.SetKeys
import HandS.DictComp
import HandS.Walk
import HandS.More
import HandS.MakeKwOnly
import HandS.Head3
import PySem.Challenge.RW_gridlanes_k05_whole_grids_made
set_option Elab.async false
set_option linter.all false
set_option maxRecDepth 100000
set_option maxHeartbeats 4000000
/-! == and != by an own __eq__, both answers; enumerate of a tuple; list(zip(list, list)). -/
namespace L2
open PySem PySem.Spec PyProof.Rows
section
variable {X : Cx} {CX : CXT} {C f : Addr} {fd : FuncData} {ps : List Str} {n : Nat} {sp : Sp} {E : XK}
/-- what is asked of x == y, x an instance of the class at C whose own __eq__ keeps sp -/
def rOwnEq (K : PySem.W.Frag) (C : Addr) (sp : Sp) (E : XK) (neg : Bool) : R2 := fun x y H Q => ∃ a dx fs t, x = .ref a ∧ H a = some (.ins C dx fs) ∧ TyX K H y t ∧ PySem.W.notFirst K C t = true ∧ sp [.ref a, y] H (fun v H' => ∃ b, v = .bl b ∧ Q (.bl (if neg then !b else b)) H') E
theorem own_call {A : Around} (F : FnOk X.prog X.w X.K X.mg X.base CX n f fd ps sp) (hb : Binds X.K fd ps []) (hx : Passes CX X E) (sb : Sub X n A) {pins : List (Addr × Obj)} {s : Shared} {σ : St} {H : Hp} {a : Addr} {y : V} {u : Value} {R : Bool → Hp → Prop}
    (I : Inv X pins σ H s) (ry : RelV y u) (h : sp [.ref a, y] H (fun v H' => ∃ b, v = .bl b ∧ R b H') E) :
    wpAny (model X.prog X.w) A (call (.ref f) [.ref a, u]) (fun v s' => ∃ b H', v = .bool b ∧ Inv X pins σ H' s' ∧ R b H') X.xe s := by
  have e0 : Env0 X.prog X.w X.K X.mg X.base A X.stack s H := by
    have e := I.env0
    exact ⟨by rw [sb.fr]; exact e.frames, e.mod, e.bs, e.bsz, e.funs, e.frf, e.hok, e.bare⟩
  have hl := F.len _ _ _ _ h
  have r2 : Vals [V.ref a, y] [Value.ref a, u] := .cons rfl (.cons ry .nil)
  refine wpAny_call (codeAny_mono (F.run A X.stack s H ⟨[.ref a, u], []⟩ [.ref a, u] [.ref a, y] _ E sb.room e0 (by
    have := hb s [.ref a, u] I.kIn (by simpa using hl)
    simpa using this) r2 h) fun r s' hq => ?_)
  cases r with
  | error e => exact hx pins σ H s e s' I hq
  | ok fl =>
    cases fl with
    | ret w =>
      obtain ⟨z, H', I', rz, b, ez, q⟩ := I.after hq
      subst ez
      cases rz
      exact ⟨b, H', rfl, I', q⟩
    | next => exact False.elim hq
    | brk => exact False.elim hq
    | cont => exact False.elim hq
theorem op_eqOwn (F : FnOk X.prog X.w X.K X.mg X.base CX n f fd ps sp) (hs : PySem.W.findIn X.K (.ref C) "__eq__" = some (some (.ref f))) (hf : PySem.W.isFn X.K (.ref f) = true) (hb : Binds X.K fd ps []) (hx : Passes CX X E) (hr : Room n X.A) : OpR X (compareOp .Eq) (rOwnEq X.K C sp E false) := by
  intro pins s σ H x y v u Q I rx ry hq
  obtain ⟨a, dx, fs, t, rfl, ha, ty, hn, h⟩ := hq
  cases rx
  show wpAny (model X.prog X.w) X.A (richCompare .Eq (.ref a) u) (EP X pins σ Q) X.xe s
  obtain ⟨mA, J, _⟩ := ins_get I.hok ha
  obtain ⟨od, J, _⟩ := J.look
  obtain ⟨P, Z, p, _⟩ := kit_of I ry ty
  obtain ⟨m, hF⟩ := I.fr
  refine PySem.W.cmp_K (op := .Eq) (tb := t) hr.units0 hF I.ok.mod.kin J (Z.ty _ _ I.kIn p) hn hs hf ?_
  refine thn (own_call (R := fun b H' => Q (.bl b) H') F hb hx ⟨hr, rfl⟩ I ry h) fun v s' hv => ?_
  obtain ⟨b, H', rfl, I', q⟩ := hv
  exact ⟨.bl b, H', I', rfl, q⟩
theorem ne_try {A : Around} {K : PySem.W.Frag} {prog : Program} {w : World} {E2 : Value → Shared → Prop} {s : Shared} {x : Addr} {u : Value} {ox : Obj} {od : Option Obj} {Q : Option Value → Shared → Prop} (hu : A.units + 1 < cLine) (Y : K.In s.heap) (I : PySem.W.InstAt s.heap x ox C od)
    (hne : PySem.W.findIn K (.ref C) "__ne__" = some (some (.builtin "object.__ne__"))) (hm : PySem.W.mroIn K C (.type "object") = some true) (hs : PySem.W.findIn K (.ref C) "__eq__" = some (some (.ref f))) (hf : PySem.W.isFn K (.ref f) = true)
    (h : wpAny (model prog w) A.in1 (call (.ref f) [.ref x, u]) (fun v s' => ∃ b, v = .bool b ∧ Q (some (.bool (!b))) s') E2 s) : wpAny (model prog w) A (tryCompare (.ref x) "__ne__" u) Q E2 s := by
  have fin : wpAny (model prog w) A (call (.builtin "object.__ne__") ([.ref x] ++ [u])) (fun v s' => ∃ b, v = .bool b ∧ Q (some (.bool b)) s') E2 s := by
    have sub : PySem.W.Looks (model prog w) s.heap (isInstance (.ref x) (.type "object")) true := I.type.andThen (PySem.W.looks_mroIn Y hm)
    refine wpAny_call (codeAny_call_builtin F.cmp_object.ne.plain F.cmpEntry_ne (PySem.W.check_slot F.cmpKind_ne F.cmpSplit_ne sub (F.cmpArgs_ne _ _) ?_))
    unfold Builtin.«object.__ne__»
    refine wpAny_bind (wpAny_of_eq (a := ((Value.ref x : Value), [u])) (by first | rfl | (simp only [slotArgs]; rfl)) ?_)
    refine wpAny_bind (wpAny_cRoomFor hu ?_)
    refine wpAny_bind (PySem.W.ifBound_K Y I hs hf (thn h fun v s' hv => ?_))
    obtain ⟨b, rfl, q⟩ := hv
    refine wpAny_bind (wpAny_truthy_bool ?_)
    exact wpAny_pure ⟨!b, rfl, q⟩
  have fin2 : wpAny (model prog w) A (call (.builtin "object.__ne__") ([.ref x] ++ [u]) >>= fun v => pure (some v)) (fun r s' => ∃ b, r = some (.bool b) ∧ Q (some (.bool b)) s') E2 s := wpAny_bind (thn fin fun v s' ⟨b, e, q⟩ => wpAny_pure ⟨b, by rw [e], q⟩)
  unfold tryCompare
  refine wpAny_bind (wpAny_mono (Q := fun r s' => ∃ b, r = some (.bool b) ∧ Q (some (.bool b)) s') ?_ (fun r s' ⟨b, e, q⟩ => by subst e; exact wpAny_pure q) fun _ _ z => z)
  simp only [callSpecialIfBound?, bindSpecialIfBound?]
  refine wpAny_holding (wpAny_bind (wpAny_bind (wpAny_bind (I.type.here ((PySem.W.looks_findIn Y hne).here ?_)))))
  refine wpAny_bind (wpAny_askSetting (wpAny_ite ?_))
  have hbd := F.cmp_object.ne.bind (.ref x)
  split
  · rw [hbd]
    exact wpAny_bind (wpAny_pure (wpAny_pure (by exact fin2)))
  · rw [hbd]
    exact wpAny_tryCatch (wpAny_bind (wpAny_pure (wpAny_pure (by exact fin2))))
theorem op_neOwn (F : FnOk X.prog X.w X.K X.mg X.base CX n f fd ps sp) (hs : PySem.W.findIn X.K (.ref C) "__eq__" = some (some (.ref f))) (hf : PySem.W.isFn X.K (.ref f) = true) (hne : PySem.W.findIn X.K (.ref C) "__ne__" = some (some (.builtin "object.__ne__")))
    (hm : PySem.W.mroIn X.K C (.type "object") = some true) (hb : Binds X.K fd ps []) (hx : Passes CX X E) (hr : Room (n + 1) X.A) : OpR X (compareOp .NotEq) (rOwnEq X.K C sp E true) := by
  intro pins s σ H x y v u Q I rx ry hq
  obtain ⟨a, dx, fs, t, rfl, ha, ty, hn, h⟩ := hq
  cases rx
  show wpAny (model X.prog X.w) X.A (richCompare .NotEq (.ref a) u) (EP X pins σ Q) X.xe s
  obtain ⟨mA, J, _⟩ := ins_get I.hok ha
  obtain ⟨od, J, _⟩ := J.look
  obtain ⟨P, Z, p, _⟩ := kit_of I ry ty
  have one : wpAny (model X.prog X.w) X.A (tryCompare (.ref a) "__ne__" u) (fun r s' => ∃ b, r = some (.bool b) ∧ EP X pins σ Q (.bool b) s') X.xe s := by
    refine ne_try (hu_of hr) I.kIn J hne hm hs hf ?_
    refine thn (own_call (R := fun b H' => Q (.bl (!b)) H') F hb hx ⟨hr.in1, rfl⟩ I ry h) fun v s' hv => ?_
    obtain ⟨b, H', rfl, I', q⟩ := hv
    exact ⟨b, rfl, _, rfl, .bl (!b), H', I', rfl, q⟩
  have Y := I.kIn
  unfold richCompare
  simp only [oneThing_ref]
  refine wpAny_holding (wpAny_bind (wpAny_cRoomFor (Nat.lt_of_succ_lt (hu_of hr)) ?_))
  rw [cmpInfo_NotEq]
  dsimp only
  refine wpAny_bind (J.type.here (wpAny_bind ((Z.ty _ _ I.kIn p).here ?_)))
  split
  · rename_i q
    have e : PySem.W.subIn X.K t (.ref C) = some false := by
      rcases Bool.or_eq_true_iff.mp hn with e | e
      · rw [beq_iff_eq.mp e] at q; simp at q
      · exact beq_iff_eq.mp e
    refine wpAny_bind ((PySem.W.looks_subIn Y e).here ?_)
    simp only [Bool.false_eq_true, if_false]
    refine wpAny_bind (wpAny_mono one (fun r s' z => ?_) fun _ _ e => e)
    obtain ⟨v, rfl, hq⟩ := z
    exact wpAny_pure hq
  · refine wpAny_bind (wpAny_pure ?_)
    simp only [Bool.false_eq_true, if_false]
    refine wpAny_bind (wpAny_mono one (fun r s' z => ?_) fun _ _ e => e)
    obtain ⟨v, rfl, hq⟩ := z
    exact wpAny_pure hq
end
end L2

set_option Elab.async false
set_option linter.all false
set_option maxRecDepth 100000
set_option maxHeartbeats 4000000
namespace L2
open PySem PySem.Spec PyProof.Rows
/-! ### enumerate(tuple) -/
/-- enumerate(v) of what begins as told -/
theorem en_new {v : Value} {o : Obj} {H : Heap → Prop} (B : Begins v o H) :
    Meets (Builtin.«enumerate.__new__» ⟨[.type "enumerate", v], []⟩) (fun _ R s => H s.heap ∧
      R (.ok (.ret (.ref (s.heap.push o).objs.size))) { s with heap := (s.heap.push o).push { cls := .type "enumerate", data := .fields #[.none, .bool false, .ref s.heap.objs.size, rawInt 0, .none, .none] } }) :=
  .of_wp fun prog w A R s h => by
    obtain ⟨hp, g, d, tk, os⟩ := s; obtain ⟨h1, h⟩ := h
    have hsub := sub_enumerate
    have q1 : ∀ {A' : Around} {E : Value → Shared → Prop} {Q : Value → Shared → Prop}, Q (.ref hp.objs.size) ⟨hp.push o, g, d, tk, os⟩ → wpAny (model prog w) A' (pyIter v) Q E ⟨hp, g, d, tk, os⟩ :=
      fun q => B.iter prog w _ _ ⟨hp, g, d, tk, os⟩ _ h1 q
    wp_walk using q1
    refine wpAny_stack_any fun st => wpAny_pure ?_
    split
    · rename_i c _ _ _ _ _
      cases (c == Value.type "enumerate")
      · wp_walk using q1
        exact ⟨_, rfl, h⟩
      · wp_walk using q1
        exact ⟨_, rfl, h⟩
    · wp_walk using q1
      exact ⟨_, rfl, h⟩
theorem en_call {prog : Program} {w : World} {A : Around} {E : Value → Shared → Prop} {s : Shared} {v : Value} {o : Obj} {H : Heap → Prop} {Q : Value → Shared → Prop} (B : Begins v o H) (h1 : H s.heap)
    (h : ∀ h', IsEnum h' (s.heap.objs.size + 1) s.heap.objs.size 0 .none → h'.get? s.heap.objs.size = some o → h'.objs.size = s.heap.objs.size + 2 →
      (∀ b o, s.heap.get? b = some o → h'.get? b = some o) → Q (.ref (s.heap.objs.size + 1)) { s with heap := h' }) :
    wpAny (model prog w) A (call (.type "enumerate") [v]) Q E s := by
  refine callType_new F.called_enumerate (by decide) (F.typeCall_enumerate_1 _) (F.newCall_enumerate_1 _) (fun obj => F.args_object_init_2 obj _) F.entry_enumerate_new (en_new B) ⟨h1, ?_⟩
  have hz : (s.heap.push o).objs.size = s.heap.objs.size + 1 := Heap.size_push ..
  show _ ∧ _
  rw [hz]
  have he : IsEnum ((s.heap.push o).push { cls := .type "enumerate", data := .fields #[.none, .bool false, .ref s.heap.objs.size, rawInt 0, .none, .none] }) (s.heap.objs.size + 1) s.heap.objs.size 0 .none := by
    have := Heap.get?_push_size (s.heap.push o) (o := { cls := .type "enumerate", data := .fields #[.none, .bool false, .ref s.heap.objs.size, rawInt 0, .none, .none] }) rfl
    rw [hz] at this; exact this
  exact ⟨⟨_, he, rfl⟩, h _ he (Heap.get?_push_of_some _ (Heap.get?_push_size _ B.free)) (by rw [Heap.size_push, hz]) fun b o x => Heap.get?_push_of_some _ (Heap.get?_push_of_some _ x)⟩
theorem tup_over {prog : Program} {w : World} {A : Around} (hh : A.handled = none) (it t : Addr) (hne : t ≠ it) (items : Array Value) (n : Nat) (hn : items[n]? = none) :
    Draws prog w A it [it, t] n (fun _ _ => False) (fun j h => j = n ∧ h.IsTupleIter it t n ∧ h.IsTuple t items) where
  live := fun _ _ st => let ⟨o, ho, _⟩ := st.2.1; ⟨o, ho⟩
  frame := fun _ _ _ st hk => ⟨st.1, st.2.1.at fun o e => hk it (by simp) o e, st.2.2.at fun o e => hk t (by simp) o e⟩
  item := fun i s Q E hi st hQ => absurd st.1 (Nat.ne_of_lt hi)
  done := fun s Q E st hE => wpAny_nextOf_tuple_end hh st.2.1 st.2.2 hn hE
def ItT (K : PySem.W.Frag) (a : Addr) : It :=
  ⟨fun i H => ∃ (xs : List V) (x : V), SqT K H a xs ∧ xs[i]? = some x, fun i H v H' => ∃ T x, v = .ref T ∧ H T = none ∧ H' = upd H T (.tup [.int (i : Nat), x]) ∧ ∀ xs, SqT K H a xs → xs[i]? = some x, fun i H => ∃ xs : List V, SqT K H a xs ∧ xs.length ≤ i⟩
theorem turn_enumT {P : Program} {w : World} {K : PySem.W.Frag} {elts : List Expr} {kk : Nat} {tpos : Pos} (a e it : Addr) :
    Turn P w K (.Tuple elts kk tpos) (ItT K a) [e, it] e (fun i h => (∃ old, IsEnum h e it ((i : Nat) : Int) old) ∧ h.IsTupleIter it a i ∧ e ≠ it ∧ e ≠ a ∧ it ≠ a) where
  mem := by simp
  obj := fun i h st b hb => by
    obtain ⟨⟨old, he⟩, ⟨o, ho, hc, hd⟩, _⟩ := st
    rcases (show b = e ∨ b = it by simpa using hb) with z | z
    · rw [z]
      exact ⟨_, he, fun v q => nomatch q⟩
    · rw [z]
      exact ⟨o, ho, fun v q => by rw [hd] at q; cases q⟩
  keep := fun i h h' st k => by
    obtain ⟨⟨old, he⟩, hi, r⟩ := st
    exact ⟨⟨old, k e (by simp) _ he⟩, hi.at fun o q => k it (by simp) o q, r⟩
  item := by
    intro X hP hw hK hc i pins s σ H E I hf st hg
    subst hP hw hK
    obtain ⟨⟨old, he⟩, hit, hne, hea, hia⟩ := st
    obtain ⟨xs, x, hq, hx⟩ := hg
    obtain ⟨its, rv, p, hz⟩ := I.tuple hq
    obtain ⟨u, hu, ru⟩ := rv.get hx
    have hel : e < s.heap.objs.size := Heap.lt_size he
    have hil : it < s.heap.objs.size := by obtain ⟨_, q, _⟩ := hit; exact Heap.lt_size q
    have hlen : i < its.toArray.size := by
      rw [List.size_toArray]
      exact (List.getElem?_eq_some_iff.mp hu).1
    have DD := Draws.tuple (prog := X.prog) (w := X.w) (A := X.A.in1) (I.ok.hd hc) it a (Ne.symm hia) its.toArray
    refine wpAny_pyNext_enum_itemC DD he ⟨hit, p⟩ hlen hne (by simp [hne, hea]) fun y h' tk hy ho hst hT hsz hk => ?_
    have ey : y = u := by
      have z : its.toArray[i]? = some y := hy
      rw [List.getElem?_toArray, hu] at z
      exact (Option.some.inj z).symm
    subst ey
    refine ⟨_, rfl, wpAny_letOwnedTupleGo_enum (s := { s with heap := h', toks := tk + 1 }) ho fun h'' he' sb => ?_⟩
    have hT2 : h''.get? s.heap.objs.size = some { cls := .type "tuple", data := .seq #[.int i tk, y] } := (sb.2 _ (Nat.ne_of_gt hel)).trans hT
    have new : ObjOk X.prog X.w (upd H s.heap.objs.size (.tup [.int (i : Nat), x])) h'' s.heap.objs.size (.tup [.int (i : Nat), x]) :=
      ⟨by show 2 ≤ sizeLine; decide, [.int i tk, y], .cons ⟨_, rfl⟩ (.cons ru .nil), ⟨_, hT2, rfl, _, rfl⟩⟩
    have I1 : Inv X pins σ (upd H s.heap.objs.size (.tup [.int (i : Nat), x])) { s with heap := h'', toks := tk + 1 } :=
      I.turnedNew (ch := [e, it]) (fun b ob hb q => (sb.2 b (fun z => hb (by simp [z]))).trans (hk b ob (fun z => hb (by simp [z])) (fun z => hb (by simp [z])) q)) hf (Nat.le_refl _) new
    refine ⟨.ref s.heap.objs.size, _, I1, rfl, ⟨_, x, rfl, I.hok.fresh (Nat.le_refl _), rfl, fun ys hy => by rw [I.tuple_inj hy hq]; exact hx⟩, ⟨⟨y, ?_⟩, hst.1.at fun o q => (sb.2 it (Ne.symm hne)).trans q, hne, hea, hia⟩, fun b hb => ?_⟩
    · have e1 : ((i + 1 : Nat) : Int) = (i : Int) + 1 := by omega
      rw [e1]; exact he'
    · have hb' : b < s.heap.objs.size := by
        rcases (show b = e ∨ b = it by simpa using hb) with z | z
        · rw [z]; exact hel
        · rw [z]; exact hil
      rw [upd_ne (Nat.ne_of_lt hb')]
      exact (hf b hb).1
  done := by
    intro X hP hw hK hc i pins s σ H E I hf st hg
    subst hP hw hK
    obtain ⟨⟨old, he⟩, hit, hne, hea, hia⟩ := st
    obtain ⟨xs, hq, hx⟩ := hg
    obtain ⟨its, rv, p, hz⟩ := I.tuple hq
    obtain ⟨f0, f1, f2, f3, f4, f5⟩ := hf it (by simp)
    have hl := rv.length
    have hn : its.toArray[i]? = none := by
      rw [List.getElem?_toArray, List.getElem?_eq_none]
      omega
    have DD := tup_over (prog := X.prog) (w := X.w) (A := X.A.in1) (I.ok.hd hc) it a (Ne.symm hia) its.toArray i hn
    exact wpAny_pyNext_enum_endD DD he ⟨rfl, hit, p⟩ fun h' eb => ⟨rfl, I.turned (t' := s.toks) (fun b o hb q => eb b o hb q) f0 f1 f3 f4 f5⟩
  self := fun A i s Q E st h => let ⟨⟨_, he⟩, _⟩ := st; wpAny_pyIter_enum he h
def iEnumT (K : PySem.W.Frag) (ta : TA) : TI := fun σ H R => ta σ H fun vs H1 => ∃ a xs, vs = [.ref a] ∧ SqT K H1 a xs ∧ R (ItT K a) H1
theorem pi_enumT {X : Cx} {e : Expr} {ta : TA} {p pos tpos : Pos} {elts : List Expr} {kk : Nat} (hg : Gl X "enumerate") (hm : X.mg "enumerate" = none) (ha : PA X [e] ta) (hs : starEach [e] X.env = [(false, eval e X.env)] := by rfl) :
    PI X (.Tuple elts kk tpos) (.Call (.Name "enumerate" p) [e] [] pos) (iEnumT X.K ta) := by
  refine ⟨fun pins s σ H R I h => ?_⟩
  refine Call_ (ld_blt I hg hm boot_enumerate (PyProof.Rows.callWith_type1 (thn (ha.run pos pins s σ H _ I h) fun us s1 ⟨vs, H1, I1, r1, q1⟩ => ?_) hs rfl))
  obtain ⟨a, xs, ex, hq, q⟩ := q1
  subst ex
  cases r1 with
  | cons r rr =>
    cases rr
    cases r
    obtain ⟨its, rv, p', hz⟩ := I1.tuple hq
    have hal : a < s1.heap.objs.size := by obtain ⟨_, z, _⟩ := p'; exact Heap.lt_size z
    refine en_call (begins_tuple a its.toArray) p' fun h' he hit hsz hk => wpAny_pyIter_enum he ?_
    have I2 : Inv X pins σ H1 { s1 with heap := h' } := I1.kept (t' := s1.toks) hk
    refine ⟨s1.heap.objs.size + 1, [s1.heap.objs.size + 1, s1.heap.objs.size], _, _, H1, rfl, I2, turn_enumT a (s1.heap.objs.size + 1) s1.heap.objs.size,
      ⟨⟨.none, he⟩, ⟨_, hit, rfl, rfl⟩, Nat.succ_ne_self _, Nat.ne_of_gt (Nat.lt_succ_of_lt hal), Nat.ne_of_gt hal⟩, fun b hb => ?_, q⟩
    have hle : s1.heap.objs.size ≤ b := by
      rcases (show b = s1.heap.objs.size + 1 ∨ b = s1.heap.objs.size by simpa using hb) with z | z
      · rw [z]; exact Nat.le_add_right _ _
      · rw [z]; exact Nat.le_refl _
    exact I1.fpOk hle (I1.hok.fresh hle)
theorem for_enumT {K : PySem.W.Frag} {a : Addr} {xs : List V} {g : TG} {tb : TS} {D : Ends} {σ : St} {H : Hp} (Pv : Nat → St → Hp → Prop) (h0 : Pv 0 σ H) (hl : ∀ i σ H, i ≤ xs.length → Pv i σ H → SqT K H a xs)
    (hs : ∀ i x T σ H, xs[i]? = some x → Pv i σ H → H T = none → g (.ref T) σ (upd H T (.tup [.int (i : Nat), x])) fun σ2 H2 => tb { D with nx := Pv (i + 1), ct := Pv (i + 1), bk := D.nx } σ2 H2) (hd : ∀ σ H, Pv xs.length σ H → D.nx σ H) :
    ∃ W : Nat → Nat → St → Hp → Prop, (∃ m, W 0 m σ H) ∧ ∀ i m σ H, W i m σ H →
      ((ItT K a).stop i H ∧ D.nx σ H) ∨ ((ItT K a).go i H ∧ ∃ N : St → Hp → Prop, (∀ σ' H', N σ' H' → ∃ m', m' < m ∧ W (i + 1) m' σ' H') ∧ ∀ x H', (ItT K a).yld i H x H' → g x σ H' fun σ2 H2 => tb { D with nx := N, ct := N, bk := D.nx } σ2 H2) := by
  refine ⟨fun i m σ H => m = xs.length - i ∧ i ≤ xs.length ∧ Pv i σ H, ⟨xs.length, by simp, Nat.zero_le _, h0⟩, ?_⟩
  rintro i m σ H ⟨rfl, hi, p⟩
  have q := hl i σ H hi p
  by_cases hlt : i < xs.length
  · refine .inr ⟨⟨xs, xs[i], q, by simp [hlt]⟩, Pv (i + 1), fun σ' H' p' => ⟨xs.length - (i + 1), by omega, rfl, hlt, p'⟩, fun v H' y => ?_⟩
    obtain ⟨T, x, e, hT, e2, y⟩ := y
    subst e e2
    exact hs i x T σ _ (y xs q) p hT
  · have e : i = xs.length := by omega
    subst e
    exact .inl ⟨⟨xs, q, Nat.le_refl _⟩, hd σ H p⟩
end L2

set_option Elab.async false
set_option linter.all false
set_option maxRecDepth 100000
set_option maxHeartbeats 4000000
namespace L2
open PySem PySem.Spec PyProof.Rows
/-! ### list(zip(list, list)) -/
/-- a zip over the lists at a and b, k turns on -/
def ZL (q z TI TO i1 i2 a b : Addr) (k : Nat) (h : Heap) : Prop := IsPair h TI (.ref i1) (.ref i2) ∧ h.IsListIter i1 a k ∧ h.IsListIter i2 b k ∧
  ((IsZip h z TI TO .none ∧ ∃ x y, IsPair h TO x y) ∨ ∃ (T : Addr) (f : Bool) (oT : Obj), IsZipHeld h z TI TO T f ∧ h.get? T = some oT ∧ T ≠ q ∧ T ∉ [z, TI, TO, i1, i2])
theorem ZL.lt {q z TI TO i1 i2 a b : Addr} {k : Nat} {h : Heap} (x : ZL q z TI TO i1 i2 a b k h) : z < h.objs.size ∧ TI < h.objs.size ∧ i1 < h.objs.size ∧ i2 < h.objs.size := by
  obtain ⟨hTI, ⟨o1, e1, _⟩, ⟨o2, e2, _⟩, hz⟩ := x
  refine ⟨?_, Heap.lt_size hTI, Heap.lt_size e1, Heap.lt_size e2⟩
  rcases hz with ⟨hz, _⟩ | ⟨_, _, _, hz, _⟩ <;> exact Heap.lt_size hz
section
variable {X : Cx} {pins : List (Addr × Obj)} {σ : St} {H : Hp} {s : Shared} {q z TI TO i1 i2 a b : Addr} {A1 : Around} {E : Value → Shared → Prop}
theorem zl_next {k : Nat} {xs ys : List V} {x y : V} (D : ZipApart z TI TO i1 i2 a b) (hTO : TO < s.heap.objs.size) (hql : q < s.heap.objs.size) (I : Inv X pins σ H s) (hf : ∀ c ∈ [z, TI, TO, i1, i2], FpOk X pins H c) (st : ZL q z TI TO i1 i2 a b k s.heap) (hqx : SqL X.K H a xs) (hqy : SqL X.K H b ys) (hx : xs[k]? = some x) (hy : ys[k]? = some y) :
    wpAny (model X.prog X.w) A1 (pyNext (.ref z)) (fun r s' => ∃ T, r = some (.ref T) ∧ H T = none ∧ Inv X pins σ (upd H T (.tup [x, y])) s' ∧ (∀ c ∈ [z, TI, TO, i1, i2], FpOk X pins (upd H T (.tup [x, y])) c) ∧ ZL q z TI TO i1 i2 a b (k + 1) s'.heap ∧ TO < s'.heap.objs.size) E s := by
  have lts := st.lt
  obtain ⟨hTI, h1, h2, hz⟩ := st
  obtain ⟨its, rv, p, _⟩ := I.list hqx
  obtain ⟨its2, rv2, p2, _⟩ := I.list hqy
  obtain ⟨u, hu, ru⟩ := rv.get hx
  obtain ⟨u2, hu2, ru2⟩ := rv2.get hy
  have eu : its.toArray[k]? = some u := by simpa using hu
  have eu2 : its2.toArray[k]? = some u2 := by simpa using hu2
  have nin : s.heap.objs.size ∉ [z, TI, TO, i1, i2] := fun hm => by
    rcases (show s.heap.objs.size = z ∨ s.heap.objs.size = TI ∨ s.heap.objs.size = TO ∨ s.heap.objs.size = i1 ∨ s.heap.objs.size = i2 by simpa using hm) with q | q | q | q | q
    · exact absurd lts.1 (by rw [← q]; exact Nat.lt_irrefl _)
    · exact absurd lts.2.1 (by rw [← q]; exact Nat.lt_irrefl _)
    · exact absurd hTO (by rw [← q]; exact Nat.lt_irrefl _)
    · exact absurd lts.2.2.1 (by rw [← q]; exact Nat.lt_irrefl _)
    · exact absurd lts.2.2.2 (by rw [← q]; exact Nat.lt_irrefl _)
  have fin : ∀ h' : Heap, (∀ c o, c ∉ [z, TI, TO, i1, i2] → s.heap.get? c = some o → h'.get? c = some o) → IsPair h' s.heap.objs.size u u2 → h'.objs.size = s.heap.objs.size + 1 → ZL q z TI TO i1 i2 a b (k + 1) h' →
      ∃ T, some (Value.ref s.heap.objs.size) = some (.ref T) ∧ H T = none ∧ Inv X pins σ (upd H T (.tup [x, y])) { s with heap := h' } ∧ (∀ c ∈ [z, TI, TO, i1, i2], FpOk X pins (upd H T (.tup [x, y])) c) ∧ ZL q z TI TO i1 i2 a b (k + 1) h' ∧ TO < h'.objs.size := by
    intro h' hk hT hsz st'
    have new : ObjOk X.prog X.w (upd H s.heap.objs.size (.tup [x, y])) h' s.heap.objs.size (.tup [x, y]) :=
      ⟨by show 2 ≤ sizeLine; decide, [u, u2], .cons ru (.cons ru2 .nil), ⟨_, hT, rfl, _, rfl⟩⟩
    refine ⟨s.heap.objs.size, rfl, I.hok.fresh (Nat.le_refl _), I.turnedNew (t' := s.toks) (ch := [z, TI, TO, i1, i2]) hk hf (Nat.le_refl _) new, fun c hc => ?_, st', by rw [hsz]; exact Nat.lt_succ_of_lt hTO⟩
    obtain ⟨f0, f1⟩ := hf c hc
    exact ⟨by rw [upd_ne (fun e => nin (by rw [← e]; exact hc))]; exact f0, f1⟩
  rcases hz with ⟨hz, x0, y0, hTO'⟩ | ⟨T, f, oT, hz, hT, hTq, hn⟩
  · refine wpAny_pyNext_zip_item D hz hTI hTO' h1 h2 p.isList p2.isList eu eu2 fun h' a1 a2 a3 a4 a5 a6 hk => ?_
    exact fin h' (fun c o hc e => hk c o (fun q => hc (by simp [q])) (fun q => hc (by simp [q])) (fun q => hc (by simp [q])) (fun q => hc (by simp [q])) e) a5 a6
      ⟨hk _ _ D.TIz D.TITO D.TIi1 D.TIi2 hTI, a3, a4, .inr ⟨s.heap.objs.size, false, _, a1, a5, Nat.ne_of_gt hql, nin⟩⟩
  · have n1 : T ≠ z := fun q => hn (by simp [q])
    have n2 : T ≠ i1 := fun q => hn (by simp [q])
    have n3 : T ≠ i2 := fun q => hn (by simp [q])
    refine wpAny_pyNext_zip_item_held D hz hT hTI h1 h2 p.isList p2.isList eu eu2 fun h' a1 a3 a4 a5 a6 hk => ?_
    exact fin h' (fun c o hc e => hk c o (fun q => hc (by simp [q])) (fun q => hc (by simp [q])) (fun q => hc (by simp [q])) e) a5 a6
      ⟨hk _ _ D.TIz D.TIi1 D.TIi2 hTI, a3, a4, .inr ⟨T, true, oT, a1, hk _ _ n1 n2 n3 hT, hTq, hn⟩⟩
theorem zl_end {k : Nat} {xs ys : List V} (hh : A1.handled = none) (D : ZipApart z TI TO i1 i2 a b) (I : Inv X pins σ H s) (hf : ∀ c ∈ [z, TI, TO, i1, i2], FpOk X pins H c) (st : ZL q z TI TO i1 i2 a b k s.heap) (hqx : SqL X.K H a xs) (hqy : SqL X.K H b ys) (hend : xs.length ≤ k ∨ ys.length ≤ k) :
    wpAny (model X.prog X.w) A1 (pyNext (.ref z)) (fun r s' => r = none ∧ Inv X pins σ H s') E s := by
  obtain ⟨hTI, h1, h2, hz⟩ := st
  obtain ⟨its, rv, p, _⟩ := I.list hqx
  obtain ⟨its2, rv2, p2, _⟩ := I.list hqy
  have l1 := rv.length
  have l2 := rv2.length
  have he : its.toArray[k]? = none ∨ its2.toArray[k]? = none := by
    rcases hend with q | q
    · exact .inl (by simp; omega)
    · exact .inr (by simp; omega)
  have fin : ∀ h' : Heap, (∀ c o, c ∉ [z, TI, TO, i1, i2] → s.heap.get? c = some o → h'.get? c = some o) → Inv X pins σ H { s with heap := h' } := fun h' hk => I.turnedL (t' := s.toks) (ch := [z, TI, TO, i1, i2]) hk hf
  rcases hz with ⟨hz, x0, y0, hTO'⟩ | ⟨T, f, oT, hz, hT, hTq, hn⟩
  · exact wpAny_pyNext_zip_end hh D hz hTI hTO' h1 h2 p.isList p2.isList he fun h' hk => ⟨rfl, fin h' fun c o hc e => hk c o (fun q => hc (by simp [q])) (fun q => hc (by simp [q])) (fun q => hc (by simp [q])) (fun q => hc (by simp [q])) e⟩
  · exact wpAny_pyNext_zip_end_held hh D hz hT hTI h1 h2 p.isList p2.isList he fun h' hk => ⟨rfl, fin h' fun c o hc e => hk c o (fun q => hc (by simp [q])) (fun q => hc (by simp [q])) (fun q => hc (by simp [q])) e⟩
/-- so far: the list at q holds new pairs -/
def Prs2 (H : Hp) (xs ys : List V) (ts : List Addr) : Prop := ∀ (j : Nat) (t : Addr), ts[j]? = some t → ∃ x y, xs[j]? = some x ∧ ys[j]? = some y ∧ H t = some (.tup [x, y])
theorem zl_loop {Rs : Result → Shared → Prop} {xs ys : List V} {H0 : Hp} (hh : A1.in1.handled = none) (D : ZipApart z TI TO i1 i2 a b) (hqn : q ∉ [z, TI, TO, i1, i2]) (hn0 : H0 q = none) (hqx : SqL X.K H0 a xs) (hqy : SqL X.K H0 b ys) (hlen : xs.length ≤ ys.length) (hline : xs.length < sizeLine)
    (hdone : ∀ ts H s, Inv X pins σ H s → Same H0 H → ts.length = xs.length → H q = some (.lst (ts.map V.ref)) → Prs2 H xs ys ts → Rs (.ok (.ret .none)) s) :
    ∀ (m : Nat) (ts : List Addr) (H : Hp) (s : Shared), m = xs.length - ts.length → ts.length ≤ xs.length → Inv X pins σ H s → Same H0 H → H q = some (.lst (ts.map V.ref)) → Prs2 H xs ys ts → (∀ c ∈ [z, TI, TO, i1, i2], FpOk X pins H c) → ZL q z TI TO i1 i2 a b ts.length s.heap → TO < s.heap.objs.size →
      codeAny (model X.prog X.w) A1 (.builtin "list.extend.loop" ⟨[.ref q, .ref z, .none], []⟩) Rs s := by
  intro m
  induction m with
  | zero =>
    intro ts H s hm hl I sm hq hp hf st hTO
    refine codeAny_builtin PySem.F.entry_extend_loop ?_
    rw [Around.under_plainId PySem.F.plain_extend_loop _]
    show wpAny _ A1.in1 (pyNext (.ref z) >>= _) _ _ s
    have sx : SqL X.K H a xs := sm.seq hqx
    have sy : SqL X.K H b ys := sm.seq hqy
    refine wpAny_bind (thn (zl_end hh D I hf st sx sy (.inl (by omega))) fun r s' ⟨er, I'⟩ => ?_)
    subst er
    exact wpAny_pure (hdone ts H s' I' sm (by omega) hq hp)
  | succ m ih =>
    intro ts H s hm hl I sm hq hp hf st hTO
    refine codeAny_builtin PySem.F.entry_extend_loop ?_
    rw [Around.under_plainId PySem.F.plain_extend_loop _]
    show wpAny _ A1.in1 (pyNext (.ref z) >>= _) _ _ s
    have sx : SqL X.K H a xs := sm.seq hqx
    have sy : SqL X.K H b ys := sm.seq hqy
    have hi : ts.length < xs.length := by omega
    have hql : q < s.heap.objs.size := by
      obtain ⟨_, _, _, _, _, e0⟩ := I.lstM hq
      exact Heap.lt_size e0
    have hi2 : ts.length < ys.length := by omega
    refine wpAny_bind (thn (zl_next D hTO hql I hf st sx sy (List.getElem?_eq_getElem hi) (List.getElem?_eq_getElem hi2)) fun r s' hr => ?_)
    obtain ⟨T, rfl, hT, I', hf', st', hTO2⟩ := hr
    show wpAny _ A1.in1 (updateSeq q (·.push (.ref T)) >>= _) _ _ _
    have hqT : q ≠ T := ne_of_none hq hT
    have hq' : upd H T (.tup [xs[ts.length], ys[ts.length]]) q = some (.lst (ts.map V.ref)) := by rw [upd_ne hqT]; exact hq
    obtain ⟨zl, its, k, r2, hl2, e⟩ := I'.lstM hq'
    have hts : its.length = ts.length := by rw [← hl2, List.length_map]
    refine wpAny_bind (wpAny_updateSeq e rfl (wpAny_pure ⟨plainId_quiet PySem.F.plain_extend_loop _, ?_⟩) (by rw [List.size_toArray]; omega) (by show (its.toArray.push (.ref T)).size ≤ sizeLine + 1; rw [Array.size_push, List.size_toArray]; omega))
    have J := I'.lset (f := (·.push (Value.ref T))) (its' := its ++ [.ref T]) (t' := s'.toks) hq' e (by simp) (r2.append (.cons (show RelV (.ref T) (.ref T) from rfl) .nil)) (by rw [List.length_append, List.length_singleton, List.length_map]; omega)
    have em : ts.map V.ref ++ [V.ref T] = (ts ++ [T]).map V.ref := by rw [List.map_append]; rfl
    rw [em] at J
    have lq := Heap.lt_size e
    refine ih (ts ++ [T]) _ _ (by rw [List.length_append, List.length_singleton]; omega) (by rw [List.length_append, List.length_singleton]; omega) J (fun c o ec => ?_) upd_same (fun j t ej => ?_) (fun c hc => ?_) ?_ ?_
    · have hcT : c ≠ T := ne_of_none (sm _ _ ec) hT
      have hcq : c ≠ q := ne_of_none ec hn0
      rw [upd_ne hcq, upd_ne hcT]
      exact sm _ _ ec
    · by_cases hj : j < ts.length
      · rw [List.getElem?_append_left hj] at ej
        obtain ⟨x, y, ex, ey, et⟩ := hp j t ej
        have htT : t ≠ T := ne_of_none et hT
        have htq : t ≠ q := fun e => by
          rw [e, hq] at et
          cases et
        exact ⟨x, y, ex, ey, by rw [upd_ne htq, upd_ne htT]; exact et⟩
      · rw [List.getElem?_append_right (by omega)] at ej
        have hj2 : j = ts.length := by
          have := (List.getElem?_eq_some_iff.mp ej).1
          rw [List.length_singleton] at this
          omega
        subst hj2
        rw [Nat.sub_self] at ej
        cases ej
        exact ⟨_, _, List.getElem?_eq_getElem hi, List.getElem?_eq_getElem hi2, by rw [upd_ne (Ne.symm hqT), upd_same]⟩
    · obtain ⟨f0, f1⟩ := hf' c hc
      exact ⟨by rw [upd_ne (fun e => hqn (by rw [← e]; exact hc))]; exact f0, f1⟩
    · rw [List.length_append, List.length_singleton]
      obtain ⟨g1, g2, g3, g4⟩ := st'
      have ne : ∀ c, c ∈ [z, TI, TO, i1, i2] → c ≠ q := fun c hc e => hqn (by rw [← e]; exact hc)
      have up : ∀ (c : Addr) (o : Obj), c ≠ q → s'.heap.get? c = some o → (s'.heap.update q (Obj.mapSeq (·.push (Value.ref T)))).get? c = some o := fun c o hc ec => (Heap.get?_update_ne _ _ _ _ hc).trans ec
      refine ⟨up _ _ (ne TI (by simp)) g1, g2.at fun o ec => up _ o (ne i1 (by simp)) ec, g3.at fun o ec => up _ o (ne i2 (by simp)) ec, ?_⟩
      rcases g4 with ⟨w1, x0, y0, w2⟩ | ⟨T2, f, oT, w1, w2, w3, w4⟩
      · exact .inl ⟨up _ _ (ne z (by simp)) w1, x0, y0, up _ _ (ne TO (by simp)) w2⟩
      · exact .inr ⟨T2, f, oT, up _ _ (ne z (by simp)) w1, up _ _ w3 w2, w3, w4⟩
    · show TO < (s'.heap.update q (Obj.mapSeq (·.push (Value.ref T)))).objs.size
      rw [Heap.size_update]
      exact hTO2
end
end L2

set_option Elab.async false
set_option linter.all false
set_option maxRecDepth 100000
set_option maxHeartbeats 4000000
namespace L2
open PySem PySem.Spec PyProof.Rows
theorem zip_no_len : typeLookup (.type "zip") "__len__" = pure none := am_miss_of_fast (by decide +kernel)
theorem zip_no_hint : typeLookup (.type "zip") "__length_hint__" = pure none := am_miss_of_fast (by decide +kernel)
section
variable {X : Cx} {pins : List (Addr × Obj)} {σ : St} {H : Hp} {s : Shared} {q z TI TO i1 i2 a b : Addr} {A1 : Around} {E : Value → Shared → Prop}
theorem zl_hint {M : Model} {A : Around} {Q : Bool → Shared → Prop} {f0 : Value} (hz : IsZip s.heap z TI TO f0) (h : Q true s) : wpAny M A (Builtin.List.listLengthHint (.ref z)) Q E s := by
  have ty : PySem.W.Looks M s.heap (typeOf (.ref z)) (.type "zip") := fun A' Q' E' s' k q => wpAny_typeOf_ref (k _ _ hz) q
  unfold Builtin.List.listLengthHint
  refine wpAny_bind (wpAny_bind (ty.here ((PySem.W.Looks.of_pure zip_no_len).here ?_)))
  refine PySem.W.KFB.if_not rfl ?_
  refine PySem.W.KFB.if_not rfl ?_
  refine wpAny_bind (wpAny_bind (ty.here ((PySem.W.Looks.of_pure zip_no_hint).here ?_)))
  exact wpAny_pure h
theorem zl_extend {Rs : Result → Shared → Prop} {xs ys : List V} (hh : A1.in1.handled = none) (D : ZipApart z TI TO i1 i2 a b) (hqn : q ∉ [z, TI, TO, i1, i2]) (H0 : Hp) (e0 : H = upd H0 q (.lst [])) (hn0 : H0 q = none) (hqx : SqL X.K H0 a xs) (hqy : SqL X.K H0 b ys) (hlen : xs.length ≤ ys.length) (hline : xs.length < sizeLine)
    (hdone : ∀ ts H s, Inv X pins σ H s → Same H0 H → ts.length = xs.length → H q = some (.lst (ts.map V.ref)) → Prs2 H xs ys ts → Rs (.ok (.ret .none)) s)
    (I : Inv X pins σ H s) (hf : ∀ c ∈ [z, TI, TO, i1, i2], FpOk X pins H c) (hz : IsZip s.heap z TI TO .none) (hTI : IsPair s.heap TI (.ref i1) (.ref i2)) (hTO : ∃ x y, IsPair s.heap TO x y) (h1 : s.heap.IsListIter i1 a 0) (h2 : s.heap.IsListIter i2 b 0) :
    wpAny (model X.prog X.w) A1.in1 (Builtin.List.listExtendWith (.ref q) (.ref z) .none)
      (fun fin s' => match fin with | .done f => Rs (.ok f) s' | .again c' => c'.quiet = true ∧ codeAny (model X.prog X.w) A1 c' Rs s') (fun e s' => Rs (.error e) s') s := by
  have hq : H q = some (.lst []) := by rw [e0]; exact upd_same
  have hne : q ≠ z := fun e => hqn (by simp [e])
  have sm : Same H0 H := by
    intro c o ec
    rw [e0, upd_ne (ne_of_none ec hn0)]
    exact ec
  have ty : PySem.W.Looks (model X.prog X.w) s.heap (typeOf (.ref z)) (.type "zip") := fun A' Q' E' s' k q => wpAny_typeOf_ref (k _ _ hz) q
  unfold Builtin.List.listExtendWith
  refine wpAny_bind (ty.here ?_)
  have g1 : Builtin.List.listSameRef (.ref q) (.ref z) = false := by simp [Builtin.List.listSameRef, hne]
  have g2 : (Value.type "zip" == Value.type "list") = false := by decide +kernel
  have g3 : (Value.type "zip" == Value.type "tuple") = false := by decide +kernel
  simp only [g1, g2, g3, Bool.or_false, Bool.false_eq_true, if_false]
  refine wpAny_bind (wpAny_pyIter_zip hz ?_)
  refine wpAny_bind (wpAny_holding (zl_hint hz ?_))
  obtain ⟨zz, its, k, r3, hl3, e3⟩ := I.lstM hq
  cases r3
  obtain ⟨x0, y0, hTO⟩ := hTO
  have lTO : TO < s.heap.objs.size := Heap.lt_size hTO
  refine wpAny_ite_split (fun _ => ?_) (fun _ => wpAny_pure ⟨plainId_quiet PySem.F.plain_extend_loop _, zl_loop hh D hqn hn0 hqx hqy hlen hline hdone _ [] H s rfl (Nat.zero_le _) I sm hq (fun j t e => by cases e) hf ⟨hTI, h1, h2, .inl ⟨hz, x0, y0, hTO⟩⟩ lTO⟩)
  refine wpAny_bind (wpAny_rule ?_)
  refine wpAny_bind ?_
  show wpAny _ _ (updateSeq q (·.push .none) >>= fun _ => updateSeq q (·.pop)) _ _ _
  refine wpAny_bind (wpAny_updateSeq e3 rfl ?_)
  have I2 := I.lset (f := (·.push Value.none)) (its' := [Value.none]) (ys := [.non]) (t' := s.toks) hq e3 (by simp) (.cons rfl .nil) (by rw [List.length_singleton, sizeLine_eq]; decide)
  obtain ⟨z4, its4, k4, r4, hl4, e4⟩ := I2.lstM upd_same
  obtain ⟨u4, rfl, ru4⟩ := r4.one
  refine wpAny_updateSeq e4 rfl ?_ (by show 1 ≤ sizeLine; rw [sizeLine_eq]; decide) (by show 0 ≤ sizeLine + 1; exact Nat.zero_le _)
  have I3 := I2.lset (f := (·.pop)) (its := [u4]) (its' := []) (ys := []) (t' := s.toks) upd_same e4 (by rfl) .nil (Nat.zero_le _)
  rw [upd_upd] at I3
  have hH : upd H q (.lst []) = H := by
    funext b
    by_cases hb : b = q
    · rw [hb, upd_same, hq]
    · rw [upd_ne hb]
  rw [hH] at I3
  have ne : ∀ c, c ∈ [z, TI, TO, i1, i2] → c ≠ q := fun c hc e => hqn (by rw [← e]; exact hc)
  have up : ∀ (c : Addr) (o : Obj), c ≠ q → s.heap.get? c = some o → ((s.heap.update q (Obj.mapSeq (·.push Value.none))).update q (Obj.mapSeq (·.pop))).get? c = some o := fun c o hc ec =>
    (Heap.get?_update_ne _ _ _ _ hc).trans ((Heap.get?_update_ne _ _ _ _ hc).trans ec)
  refine wpAny_pure ⟨plainId_quiet PySem.F.plain_extend_loop _, zl_loop hh D hqn hn0 hqx hqy hlen hline hdone _ [] H _ rfl (Nat.zero_le _) I3 sm hq (fun j t e => by cases e) hf
    ⟨up _ _ (ne TI (by simp)) hTI, h1.at fun o ec => up _ o (ne i1 (by simp)) ec, h2.at fun o ec => up _ o (ne i2 (by simp)) ec, .inl ⟨up _ _ (ne z (by simp)) hz, x0, y0, up _ _ (ne TO (by simp)) hTO⟩⟩ (Heap.lt_size (up _ _ (ne TO (by simp)) hTO))⟩
def tListZip (K : PySem.W.Frag) (t : TA) : TE := fun σ H Q => t σ H fun vs H1 => ∃ (a b : Addr) (xs ys : List V), vs = [.ref a, .ref b] ∧ SqL K H1 a xs ∧ SqL K H1 b ys ∧ xs.length ≤ ys.length ∧ xs.length < sizeLine ∧
  ∀ (H' : Hp) (q : Addr) (ts : List Addr), Same H1 H' → ts.length = xs.length → H' q = some (.lst (ts.map V.ref)) → Prs2 H' xs ys ts → Q (.ref q) H'
theorem pe_listzip {e e2 : Expr} {t : TA} {p p2 pos pos2 : Pos} (hc : X.calm = true) (hg : Gl X "list") (hm : X.mg "list" = none) (hg2 : Gl X "zip") (hm2 : X.mg "zip" = none) (ha : PA X [e, e2] t)
    (hs : starEach [.Call (.Name "zip" p2) [e, e2] [] pos2] X.env = (false, eval (.Call (.Name "zip" p2) [e, e2] [] pos2) X.env) :: starEach [] X.env := by rfl)
    (hs2 : starEach [e, e2] X.env = (false, eval e X.env) :: starEach [e2] X.env := by rfl) (hpl : (backTo pos2 (starEach [e2] X.env)).any (·.1) = false := by rfl) :
    PE X (.Call (.Name "list" p) [.Call (.Name "zip" p2) [e, e2] [] pos2] [] pos) (tListZip X.K t) := by
  refine ⟨fun pins s σ H Q I hq => ?_⟩
  refine wpAny_Call_Name_kw (ld_blt I hg hm (u := .type "list") (by decide +kernel) ?_)
  refine PyProof.Rows.callWith_type1 ?_ hs rfl
  rw [hs]
  show wpAny _ _ (spliced ((false, eval (.Call (.Name "zip" p2) [e, e2] [] pos2) X.env) :: backTo pos (starEach [] X.env))) _ _ s
  refine Calls.spliced_cons ?_
  refine wpAny_Call_Name_kw (ld_blt I hg2 hm2 PyProof.Rows.boot_zip ?_)
  refine PyProof.Rows.callWith_type1 (thn (ha.run pos2 pins s σ H _ I hq) fun us s1 ⟨vs, H1, I1, r1, q1⟩ => ?_) hs2 hpl
  obtain ⟨a, b, xs, ys, ex, hqx, hqy, hlen, hline, q⟩ := q1
  subst ex
  cases r1 with
  | cons r rr =>
    cases rr with
    | cons r' rr =>
      cases rr
      cases r
      cases r'
      obtain ⟨its, rv, p1, _⟩ := I1.list hqx
      obtain ⟨its2, rv2, p2, _⟩ := I1.list hqy
      have la : a < s1.heap.objs.size := p1.lt
      have lb : b < s1.heap.objs.size := p2.lt
      refine call_zip_2 p1.isList p2.isList fun h' hz hTI hTO h1 h2 hsz hk => ?_
      have I2 : Inv X pins σ H1 { s1 with heap := h' } := I1.kept (t' := s1.toks) hk
      refine Calls.spliced_nil ?_
      have D := PySem.W.ktu_apart s1.heap.objs.size a b la lb
      refine callType_codes (Q₁ := fun obj s₁ => obj = .ref h'.objs.size ∧ s₁ = { s1 with heap := h'.push { cls := .type "list", data := .seq #[] } }) PySem.F.called_list (PySem.F.typeCall_list_1 _) PySem.F.entry_list_init
        (code_list_new _ ⟨rfl, rfl⟩) fun obj s₁ h₁ => ?_
      obtain ⟨rfl, rfl⟩ := h₁
      have hS : (h'.push { cls := .type "list", data := .seq #[] }).get? h'.objs.size = some { cls := .type "list", data := .seq #[] } := Heap.get?_push_size _ rfl
      refine ⟨⟨_, hS, rfl⟩, PySem.F.args_list_init_2 _ _, ?_⟩
      have fr : H1 h'.objs.size = none := I2.hok.fresh (Nat.le_refl _)
      have I3 : Inv X pins σ (upd H1 h'.objs.size (.lst [])) { s1 with heap := h'.push { cls := .type "list", data := .seq #[] } } := I2.lnew (its := []) (t' := s1.toks) .nil (Nat.zero_le _)
      show wpAny _ _ (do let old ← Builtin.List.listItems (.ref h'.objs.size); Builtin.List.listUpdate (.ref h'.objs.size) (fun _ => #[]); letGo old.toList.reverse; Builtin.List.listExtendWith (.ref h'.objs.size) (.ref (s1.heap.objs.size + 4)) .none) _ _ _
      refine wpAny_bind ?_
      unfold Builtin.List.listItems
      refine wpAny_bind (wpAny_seqItems hS rfl (wpAny_pure ?_))
      show wpAny _ _ (updateSeq h'.objs.size (fun _ => #[]) >>= fun _ => letGo (#[] : Array Value).toList.reverse >>= fun _ => Builtin.List.listExtendWith (.ref h'.objs.size) (.ref (s1.heap.objs.size + 4)) .none) _ _ _
      refine wpAny_bind (wpAny_updateSeq hS rfl ?_)
      have I4 := I3.lset (f := fun _ => #[]) (its := []) (its' := []) (ys := []) (t' := s1.toks) upd_same hS rfl .nil (Nat.zero_le _)
      rw [upd_upd] at I4
      refine wpAny_bind (wpAny_letGo ?_)
      have five : ∀ c, c ∈ [s1.heap.objs.size + 4, s1.heap.objs.size + 2, s1.heap.objs.size + 3, s1.heap.objs.size, s1.heap.objs.size + 1] → s1.heap.objs.size ≤ c ∧ c < h'.objs.size := fun c hcm => by
        have e' : c = s1.heap.objs.size + 4 ∨ c = s1.heap.objs.size + 2 ∨ c = s1.heap.objs.size + 3 ∨ c = s1.heap.objs.size ∨ c = s1.heap.objs.size + 1 := by simpa using hcm
        rw [hsz]
        rcases e' with z | z | z | z | z
        · rw [z]; exact ⟨Nat.le_add_right _ _, Nat.add_lt_add_left (by decide) _⟩
        · rw [z]; exact ⟨Nat.le_add_right _ _, Nat.add_lt_add_left (by decide) _⟩
        · rw [z]; exact ⟨Nat.le_add_right _ _, Nat.add_lt_add_left (by decide) _⟩
        · rw [z]; exact ⟨Nat.le_refl _, Nat.lt_add_of_pos_right (by decide)⟩
        · rw [z]; exact ⟨Nat.le_add_right _ _, Nat.add_lt_add_left (by decide) _⟩
      have hqn : h'.objs.size ∉ [s1.heap.objs.size + 4, s1.heap.objs.size + 2, s1.heap.objs.size + 3, s1.heap.objs.size, s1.heap.objs.size + 1] := fun hm => Nat.lt_irrefl _ (five _ hm).2
      have up : ∀ (c : Addr) (o : Obj), h'.get? c = some o → ((h'.push { cls := .type "list", data := .seq #[] }).update h'.objs.size (Obj.mapSeq fun _ => #[])).get? c = some o := fun c o ec =>
        (Heap.get?_update_ne _ _ _ _ (Nat.ne_of_lt (Heap.lt_size ec))).trans (Heap.get?_push_of_some _ ec)
      refine zl_extend (A1 := X.A.in1) (Rs := wants (fun r s₂ => r = .none ∧ EP X pins σ Q (.ref h'.objs.size) s₂) X.xe) (I.ok.hd hc) D hqn H1 rfl fr hqx hqy hlen hline
        (fun ts H' s' I' sm l1 l2 l3 => ⟨rfl, .ref h'.objs.size, H', I', rfl, q H' _ ts sm l1 l2 l3⟩) I4 (fun c hcm => ?_) (up _ _ hz) (up _ _ hTI) ⟨_, _, up _ _ hTO⟩ (h1.at fun o ec => up _ o ec) (h2.at fun o ec => up _ o ec)
      obtain ⟨c1, c2⟩ := five c hcm
      have f := I1.fpOk (H' := H1) c1 (I1.hok.fresh c1)
      exact ⟨by rw [upd_ne (Nat.ne_of_lt c2)]; exact f.1, f.2⟩
end
end L2

set_option Elab.async false
set_option linter.all false
set_option maxRecDepth 100000
set_option maxHeartbeats 4000000
/-! Draws from a well; lists put together; enumerate. -/
namespace L2
open PySem PySem.Spec PyProof.Rows
/-- list + list, whoever holds them -/
def rCatS (K : PySem.W.Frag) : R2 := fun x y H Q => ∃ l b xs zs, x = .ref l ∧ y = .ref b ∧ SqL K H l xs ∧ SqL K H b zs ∧ xs.length + zs.length ≤ sizeLine ∧ ∀ p, H p = none → Q (.ref p) (upd H p (.lst (xs ++ zs)))
theorem op_catS {X : Cx} : OpR X (binaryOp .Add) (rCatS X.K) := by
  intro pins s σ H x y v u Q I rx ry h
  obtain ⟨l, b, xs, zs, rfl, rfl, hH, hB, hz, q⟩ := h
  cases rx
  cases ry
  obtain ⟨its, r, p1, z⟩ := I.list hH
  obtain ⟨its2, r2, p2, z2⟩ := I.list hB
  have hl := r.length
  have hl2 := r2.length
  obtain ⟨⟨cls, dd, data, sl⟩, ho, hc, n, hd⟩ := id p1.isList
  obtain ⟨⟨cls2, dd2, data2, sl2⟩, ho2, hc2, n2, hd2⟩ := id p2.isList
  simp only at hc hd hc2 hd2
  subst hc hd hc2 hd2
  open PySem.P in
  refine concat_meets ⟨_, ho, rfl⟩ ⟨_, ho2, rfl⟩ noFill_list_add seq_list_add PySem.F.slot_list_add PySem.F.entry_list_add (PySem.F.args_list_add_2 _ _) (list_addW l b its.toArray its2.toArray n n2 dd dd2 sl sl2 (by rw [List.size_toArray, List.size_toArray]; omega)) ⟨ho, ho2, ?_⟩
  have ea : its.toArray ++ its2.toArray = (its ++ its2).toArray := by simp
  rw [ea]
  exact ⟨.ref _, _, I.lnew (t' := s.toks) (r.append r2) (by rw [List.length_append]; omega), rfl, q _ I.fresh⟩
theorem for_enum {K : PySem.W.Frag} {a : Addr} {xs : List V} {g : TG} {tb : TS} {D : Ends} {σ : St} {H : Hp} (Pv : Nat → St → Hp → Prop) (h0 : Pv 0 σ H) (hl : ∀ i σ H, i ≤ xs.length → Pv i σ H → SqL K H a xs)
    (hs : ∀ i x T σ H, xs[i]? = some x → Pv i σ H → H T = none → g (.ref T) σ (upd H T (.tup [.int (i : Nat), x])) fun σ2 H2 => tb { D with nx := Pv (i + 1), ct := Pv (i + 1), bk := D.nx } σ2 H2) (hd : ∀ σ H, Pv xs.length σ H → D.nx σ H) :
    ∃ W : Nat → Nat → St → Hp → Prop, (∃ m, W 0 m σ H) ∧ ∀ i m σ H, W i m σ H →
      ((Ite K a).stop i H ∧ D.nx σ H) ∨ ((Ite K a).go i H ∧ ∃ N : St → Hp → Prop, (∀ σ' H', N σ' H' → ∃ m', m' < m ∧ W (i + 1) m' σ' H') ∧ ∀ x H', (Ite K a).yld i H x H' → g x σ H' fun σ2 H2 => tb { D with nx := N, ct := N, bk := D.nx } σ2 H2) := by
  refine ⟨fun i m σ H => m = xs.length - i ∧ i ≤ xs.length ∧ Pv i σ H, ⟨xs.length, by simp, Nat.zero_le _, h0⟩, ?_⟩
  rintro i m σ H ⟨rfl, hi, p⟩
  have q := hl i σ H hi p
  by_cases hlt : i < xs.length
  · refine .inr ⟨⟨xs, xs[i], q, by simp [hlt]⟩, Pv (i + 1), fun σ' H' p' => ⟨xs.length - (i + 1), by omega, rfl, hlt, p'⟩, fun v H' y => ?_⟩
    obtain ⟨T, x, e, hT, e2, y⟩ := y
    subst e e2
    exact hs i x T σ _ (y xs q) p hT
  · have e : i = xs.length := by omega
    subst e
    exact .inl ⟨⟨xs, q, Nat.le_refl _⟩, hd σ H p⟩
/-- a well: three numbers in a list at a -/
def Well (H : Hp) (a : Addr) (n : Int) : Prop := ∃ w0 w1 w2 : Int, H a = some (.lst [.int w0, .int w1, .int w2]) ∧ 0 ≤ w0 ∧ 0 ≤ w1 ∧ w1 < 4294967296 ∧ 0 ≤ w2 ∧ w2 ≤ n
/-- nothing but a is otherwise -/
def But (a : Addr) (H H' : Hp) : Prop := ∀ b, b ≠ a → H' b = H b
theorem But.refl (a : Addr) (H : Hp) : But a H H := fun _ _ => rfl
theorem But.trans {a : Addr} {H H1 H2 : Hp} (x : But a H H1) (y : But a H1 H2) : But a H H2 := fun b hb => (y b hb).trans (x b hb)
theorem But.upd {a : Addr} {H : Hp} {o : HO} : But a H (upd H a o) := fun b hb => upd_ne hb
theorem at0 {x y z : V} : atI [x, y, z] 0 = some x := rfl
theorem at1 {x y z : V} : atI [x, y, z] 1 = some y := rfl
theorem at2 {x y z : V} : atI [x, y, z] 2 = some z := rfl
theorem ix0 : ixN 3 0 = some 0 := rfl
theorem ix2 : ixN 3 2 = some 2 := rfl
/-- draw(well, many): a number from 0 to many - 1, the well at most one count further -/
def spDraw : Sp := fun vs H Q _ => ∃ (a : Addr) (m n : Int), vs = [.ref a, .int m] ∧ Well H a n ∧ n < 1000000 ∧ 0 < m ∧ m < 1073741824 ∧ ∀ r H', 0 ≤ r → r < m → But a H H' → Well H' a (n + 1) → Q (.int r) H'
/-- one(well, some): one of them -/
def spOne (K : PySem.W.Frag) : Sp := fun vs H Q _ => ∃ (a b : Addr) (n : Int) (xs : List V), vs = [.ref a, .ref b] ∧ Well H a n ∧ n < 1000000 ∧ a ≠ b ∧ H b = some (.lst xs) ∧ 0 < xs.length ∧ xs.length < 1000000 ∧ ∀ x H', x ∈ xs → But a H H' → Well H' a (n + 1) → Q x H'
theorem fmod_in {x m : Int} (hm : 0 < m) : 0 ≤ x.fmod m ∧ x.fmod m < m := by
  rw [Int.fmod_eq_emod_of_nonneg x (Int.le_of_lt hm)]
  exact ⟨Int.emod_nonneg _ (by omega), Int.emod_lt_of_pos _ hm⟩
theorem fdiv_in {x m : Int} (hx : 0 ≤ x) (hm : 0 < m) : 0 ≤ x.fdiv m := by
  rw [Int.fdiv_eq_ediv_of_nonneg x (Int.le_of_lt hm)]
  exact Int.ediv_nonneg hx (Int.le_of_lt hm)
theorem divN {i m : Int} (h0 : 0 < m) (h1 : m < 1073741824) : CDivN i m := ⟨by omega, by omega⟩
theorem same_upd {H : Hp} {p : Addr} {o : HO} (h : H p = none) : Same H (upd H p o) := fun b x e => by
  rw [upd_ne (ne_of_none e h)]
  exact e
theorem ba {a b : Bool} (h : (a && b) = true) : a = true ∧ b = true := Bool.and_eq_true_iff.mp h
end L2

set_option Elab.async false
set_option linter.all false
set_option maxRecDepth 100000
set_option maxHeartbeats 4000000
namespace K1
open PySem PySem.Spec PyProof.Rows L2
def top (i : Nat) : Stmt := PySem.Challenge.pw_gridlanes_k05_whole_grids_made.main.body.getD i (.Pass ⟨0, 0, 0, 0⟩)
abbrev FnP (K : PySem.W.Frag) (x : Str) (st : Stmt) (f : Addr) (fd : FuncData) : Prop := FunD K x x (defArgs st) (defBody st) (defScope st) [] [] f fd
/-! ### numbers -/
def NumP (H : Hp) (v : V) (t : Int) (b : Nat) : Prop := (v = .int t ∧ b = 1) ∨ ∃ p, v = .ref p ∧ H p = some (.tup [.int t, .int (b : Int)])
def NumAt (H : Hp) (v : V) (q : Rat) : Prop := (q.den = 1 ∧ v = .int q.num) ∨ (q.den ≠ 1 ∧ ∃ p, v = .ref p ∧ H p = some (.tup [.int q.num, .int (q.den : Int)]))
theorem NumAt.p {H : Hp} {v : V} {q : Rat} (h : NumAt H v q) : NumP H v q.num q.den := by
  rcases h with ⟨e, h⟩ | ⟨_, h⟩
  · exact .inl ⟨h, e⟩
  · exact .inr h
theorem NumP.same {H H' : Hp} {v : V} {t : Int} {b : Nat} (h : NumP H v t b) (s : Same H H') : NumP H' v t b := by
  rcases h with h | ⟨p, e, h⟩
  · exact .inl h
  · exact .inr ⟨p, e, s _ _ h⟩
theorem NumAt.same {H H' : Hp} {v : V} {q : Rat} (h : NumAt H v q) (s : Same H H') : NumAt H' v q := by
  rcases h with h | ⟨n, p, e, h⟩
  · exact .inl h
  · exact .inr ⟨n, p, e, s _ _ h⟩
theorem numInt {H : Hp} (i : Int) : NumAt H (.int i) (i : Rat) := .inl ⟨Rat.den_intCast .., by rw [Rat.num_intCast]⟩
theorem mk_num {t : Int} {b : Nat} (hb : 0 < b) : (mkRat t b).num = t / ((Nat.gcd t.natAbs b : Nat) : Int) := by
  rw [Rat.num_mkRat, if_neg (by omega), Nat.gcd_comm]
theorem mk_den {t : Int} {b : Nat} (hb : 0 < b) : (mkRat t b).den = b / Nat.gcd t.natAbs b := by
  rw [Rat.den_mkRat, if_neg (by omega), Nat.gcd_comm]
theorem gcd_le {t : Int} {b : Nat} (hb : 0 < b) : 0 < Nat.gcd t.natAbs b ∧ Nat.gcd t.natAbs b ≤ b := ⟨Nat.gcd_pos_of_pos_right _ hb, Nat.gcd_le_right _ hb⟩
theorem den_one {t : Int} {b : Nat} (hb : 0 < b) : (mkRat t b).den = 1 ↔ Nat.gcd t.natAbs b = b := by
  rw [mk_den hb]
  obtain ⟨g0, g1⟩ := gcd_le (t := t) hb
  constructor
  · intro h
    have z := Nat.mul_div_cancel' (Nat.gcd_dvd_right t.natAbs b)
    rw [h, Nat.mul_one] at z
    exact z
  · intro h
    rw [h]
    exact Nat.div_self hb
/-- the values of top // g and (top // g, bottom // g), g the greatest common divisor -/
theorem mk_int {H : Hp} {t : Int} {b : Nat} (hb : 0 < b) (h : Nat.gcd t.natAbs b = b) : NumAt H (.int (t / (b : Int))) (mkRat t b) := .inl ⟨(den_one hb).mpr h, by rw [mk_num hb, h]⟩
theorem mk_tup {H : Hp} {t : Int} {b : Nat} {p : Addr} (hb : 0 < b) (h : Nat.gcd t.natAbs b ≠ b) (hp : H p = some (.tup [.int (t / ((Nat.gcd t.natAbs b : Nat) : Int)), .int ((b : Int) / ((Nat.gcd t.natAbs b : Nat) : Int))])) : NumAt H (.ref p) (mkRat t b) := by
  refine .inr ⟨fun e => h ((den_one hb).mp e), p, rfl, ?_⟩
  rw [mk_num hb, mk_den hb, Int.natCast_ediv]
  exact hp
def S2 : Nat := 2 ^ 200
def Sz (t : Int) (b : Nat) : Prop := t.natAbs < 2 ^ 98 ∧ 0 < b ∧ b < 2 ^ 98
theorem wm {i j : Int} (ha : i.natAbs < 2 ^ 98) (hb : j.natAbs < 2 ^ 98) : CMulW i j := wide_mul ha hb (by decide) (by decide) (by decide)
theorem wl {i j : Int} (ha : i.natAbs < 2 ^ 98) (hb : j.natAbs < 2 ^ 98) : (i * j).natAbs < 2 ^ 196 := wide_lt ha hb
theorem Sz.bot {t t' : Int} {b b' : Nat} (h : Sz t b) (h' : Sz t' b') : 0 < b * b' ∧ b * b' < 2 ^ 199 := by
  refine ⟨Nat.mul_pos h.2.1 h'.2.1, ?_⟩
  have : b * b' < 2 ^ 98 * 2 ^ 98 := Nat.mul_lt_mul'' h.2.2 h'.2.2
  exact Nat.lt_trans this (by decide)
theorem Sz.top {t t' : Int} {b b' : Nat} (h : Sz t b) (h' : Sz t' b') : (t * b' + t' * b).natAbs < 2 ^ 199 := by
  have h1 : (t * (b' : Int)).natAbs < 2 ^ 196 := wl h.1 h'.2.2
  have h2 : (t' * (b : Int)).natAbs < 2 ^ 196 := wl h'.1 h.2.2
  have h3 := Int.natAbs_add_le (t * (b' : Int)) (t' * (b : Int))
  omega
theorem Sz.prod {t t' : Int} {b b' : Nat} (h : Sz t b) (h' : Sz t' b') : (t * t').natAbs < 2 ^ 199 := Nat.lt_trans (wl h.1 h'.1) (by decide)
/-! ### Euclid, turn by turn -/
def eu : Nat → Nat → Nat → Nat × Nat
  | 0, a, b => (a, b)
  | n + 1, a, b => if b = 0 then eu n a b else eu n b (a % b)
theorem eu_zero : ∀ n a, eu n a 0 = (a, 0)
  | 0, _ => rfl
  | n + 1, a => by
    show (if 0 = 0 then eu n a 0 else _) = _
    rw [if_pos rfl]
    exact eu_zero n a
theorem eu_gcd : ∀ n m a b, b < 2 ^ n → eu (2 * n + 1 + m) a b = (Nat.gcd a b, 0) := by
  intro n
  induction n with
  | zero =>
    intro m a b h
    have : b = 0 := by omega
    subst this
    rw [eu_zero, Nat.gcd_zero_right]
  | succ n ih =>
    intro m a b h
    by_cases hb : b = 0
    · subst hb
      rw [eu_zero, Nat.gcd_zero_right]
    · have e : 2 * (n + 1) + 1 + m = (2 * n + 1 + m) + 1 + 1 := by omega
      rw [e]
      show (if b = 0 then _ else eu (2 * n + 1 + m + 1) b (a % b)) = _
      rw [if_neg hb]
      have hr := Nat.mod_lt a (Nat.pos_of_ne_zero hb)
      by_cases h0 : a % b = 0
      · rw [h0, eu_zero, Nat.gcd_comm, Nat.gcd_rec, h0, Nat.gcd_zero_left]
      · show (if a % b = 0 then _ else eu (2 * n + 1 + m) (a % b) (b % (a % b))) = _
        rw [if_neg h0]
        have h2 := Nat.mod_lt b (Nat.pos_of_ne_zero h0)
        have h3 : a % b + b % (a % b) ≤ b := by
          have h4 := Nat.div_add_mod b (a % b)
          have h5 : 1 ≤ b / (a % b) := (Nat.le_div_iff_mul_le (Nat.pos_of_ne_zero h0)).mpr (by omega)
          have h6 : a % b * 1 ≤ a % b * (b / (a % b)) := Nat.mul_le_mul_left _ h5
          omega
        have h7 : 2 ^ (n + 1) = 2 * 2 ^ n := by rw [Nat.pow_succ, Nat.mul_comm]
        rw [ih m _ _ (by omega), Nat.gcd_comm (a % b), ← Nat.gcd_rec, ← Nat.gcd_rec, Nat.gcd_comm b a]
section
variable {P : Program} {w : World} {K : PySem.W.Frag} {mg : Str → Option Value} {base : Heap}
structure Nm (mg : Str → Option Value) : Prop where
  isi : mg "isinstance" = none
  tint : mg "int" = none
  tbool : mg "bool" = none
  ttup : mg "tuple" = none
  tlst : mg "list" = none
  len : mg "len" = none
  abs : mg "abs" = none
  rng : mg "range" = none
  enu : mg "enumerate" = none
  zip : mg "zip" = none
  gcd : mg "gcd" = some (.builtin "math.gcd")
/-! ### the program's numbers -/
def spInt : Sp := fun vs H Q _ => ∃ i : Int, vs = [.int i] ∧ Q (.bl true) H
theorem scInt : FnScope ["value"] ["value"] (defScope (top 6)) := ⟨rfl, rfl, rfl, by decide +kernel, rfl, by decide +kernel, by decide +kernel⟩
theorem ok_int {f : Addr} {fd : FuncData} (F : FnP K "is_integer" (top 6) f fd) (N : Nm mg) : FnOk P w K mg base CX0 1 f fd ["value"] spInt := by
  refine F.ok scInt (fun vs H Q E h => ?_) (fun cdv A outer s H vs Q E hr h => ?_)
  · obtain ⟨i, rfl, _⟩ := h
    rfl
  · obtain ⟨i, rfl, k⟩ := h
    refine ⟨_, PSs.nox (pss_one (ps_ret (pe_and (pe_callB call_isi (by rfl) N.isi (by decide +kernel) (pa_cons (pv 0) (pa_cons (pe_bltn (v := .ty "int") (u := .type "int") rfl N.tint (by decide +kernel) rfl) pa_nil)))
      (pe_one (pe_not (pe_callB call_isi (by rfl) N.isi (by decide +kernel) (pa_cons (pv 0) (pa_cons (pe_bltn (v := .ty "bool") (u := .type "bool") rfl N.tbool (by decide +kernel) rfl) pa_nil)))))))), ?_⟩
    refine ⟨_, rfl, _, _, _, _, true, rfl, .ty _, .base (.int i), kit_ty (by decide +kernel), true, rfl, iteT ?_⟩
    exact ⟨_, rfl, _, _, _, _, false, rfl, .ty _, .base (.int i), kit_ty (by decide +kernel), false, rfl, k⟩
theorem bi1 {x p : Str} {i : Nat} {f : Addr} {fd : FuncData} (F : FnP K x (top i) f fd) (h : ∀ (kV doc pm : Value) (an : Option Addr) (cdv ct : Value) (u : Value), bindArgs (PySem.W.fnOf x x (defArgs (top i)) (defBody (top i)) (defScope (top i)) .none kV doc pm an cdv ct) ⟨[u], []⟩ = pure [(p, u)] := by intros; rfl) : Binds K fd [p] [] := F.bindsN fun _ _ _ _ _ _ us hl => match us, hl with | [_], _ => h _ _ _ _ _ _ _
end
end K1

set_option Elab.async false
set_option linter.all false
set_option maxRecDepth 100000
set_option maxHeartbeats 4000000
namespace K5
open PySem PySem.Spec PyProof.Rows L2 K1
/-! ### any data: what the program's questions answer -/
theorem tyT {K : PySem.W.Frag} {H : Hp} {a : Addr} {xs : List V} (h : SqT K H a xs) : TyX K H (.ref a) (.type "tuple") := by
  rcases h with (h | ⟨o, h⟩) | ⟨o, its, n, h, c, _⟩
  · exact .base (.tup h)
  · exact .fTuple h
  · exact .kTuple h c
theorem tyL {K : PySem.W.Frag} {H : Hp} {a : Addr} {xs : List V} (h : SqL K H a xs) : TyX K H (.ref a) (.type "list") := by
  rcases h with (h | ⟨o, h⟩) | ⟨o, its, n, h, c, _⟩
  · exact .base (.lst h)
  · exact .base (.frz h)
  · exact .kList h c
theorem Same.seqT {K : PySem.W.Frag} {H H' : Hp} {a : Addr} {xs : List V} (e : Same H H') (h : SqT K H a xs) : SqT K H' a xs := by
  rcases h with (h | ⟨o, h⟩) | h
  · exact .inl (.inl (e _ _ h))
  · exact .inl (.inr ⟨o, e _ _ h⟩)
  · exact .inr h
mutual
theorem dpS {K : PySem.W.Frag} {H H' : Hp} (e : Same H H') : ∀ {d : PyData} {v : V}, Dp K H v d → Dp K H' v d
  | .none, _, h => by cases h; exact .non
  | .bool _, _, h => by cases h; exact .bl _
  | .int _, _, h => by cases h; exact .int _
  | .str _, _, h => by cases h; exact .str _
  | .list ds, _, h => by
    cases h with
    | lst h1 h2 => exact .lst (Same.seq e h1) (dpSA e h2)
  | .tuple ds, _, h => by
    cases h with
    | tup h1 h2 => exact .tup (Same.seqT e h1) (dpSA e h2)
  | .dict _, _, h => nomatch h
theorem dpSA {K : PySem.W.Frag} {H H' : Hp} (e : Same H H') : ∀ {ds : List PyData} {vs : List V}, DpAll K H vs ds → DpAll K H' vs ds
  | [], _, h => by cases h; exact .nil
  | _ :: _, _, h => by
    cases h with
    | cons h1 h2 => exact .cons (dpS e h1) (dpSA e h2)
end
theorem dpLen {K : PySem.W.Frag} {H : Hp} : ∀ {vs : List V} {ds : List PyData}, DpAll K H vs ds → vs.length = ds.length
  | _, _, .nil => rfl
  | _, _, .cons _ h => congrArg (· + 1) (dpLen h)
theorem dpAt {K : PySem.W.Frag} {H : Hp} : ∀ {vs : List V} {ds : List PyData} (i : Nat) {d : PyData}, DpAll K H vs ds → ds[i]? = some d → ∃ v, vs[i]? = some v ∧ Dp K H v d
  | _, _, 0, _, .cons h _, e => by cases e; exact ⟨_, rfl, h⟩
  | _, _, i + 1, _, .cons _ h, e => dpAt i h e
  | _, _, 0, _, .nil, e => nomatch e
  | _, _, _ + 1, _, .nil, e => nomatch e
def tyN : PyData → String
  | .none => "NoneType" | .bool _ => "bool" | .int _ => "int" | .str _ => "str" | .list _ => "list" | .tuple _ => "tuple" | .dict _ => "dict"
theorem dpTy {K : PySem.W.Frag} {H : Hp} {v : V} {d : PyData} (h : Dp K H v d) : TyX K H v (.type (tyN d)) := by
  cases h with
  | non => exact .base .non
  | bl b => exact .base (.bl b)
  | int i => exact .base (.int i)
  | str x => exact .base (.str x)
  | lst h1 h2 => exact tyL h1
  | tup h1 h2 => exact tyT h1
def isTy (d : PyData) (t : String) : Bool := match d with
  | .bool _ => t == "bool" || t == "int"
  | d => t == tyN d
def tys : List String := ["int", "bool", "str", "tuple", "list"]
theorem kitD {K : PySem.W.Frag} (d : PyData) {t : String} (ht : t ∈ tys) : PySem.W.kitOne K (.type (tyN d)) (.type t) = some (isTy d t) := by
  refine kit_ty ?_
  simp only [tys, List.mem_cons, List.not_mem_nil, or_false] at ht
  rcases ht with rfl | rfl | rfl | rfl | rfl <;> cases d <;> (first | rfl | (simp only [tyN, isTy]; decide +kernel))
def isInt : PyData → Bool
  | .int _ => true
  | _ => false
def isNum : PyData → Bool
  | .int _ => true
  | .tuple [.int t, .int b] => decide (2 ≤ b) && decide (Nat.gcd t.natAbs b.natAbs = 1)
  | _ => false
def topOf : PyData → Int
  | .int i => i
  | .tuple [.int t, .int _] => t
  | _ => 0
def isLen (d : PyData) : Bool := isNum d && decide (0 ≤ topOf d)
section
variable {P : Program} {w : World} {K : PySem.W.Frag} {mg : Str → Option Value} {base : Heap}
/-- a question about a value: ans d for the data d, where ok d -/
def spQ (K : PySem.W.Frag) (ok : PyData → Prop) (ans : PyData → Bool) : Sp := fun vs H Q _ => ∃ (v : V) (d : PyData), vs = [v] ∧ Dp K H v d ∧ ok d ∧ ∀ H', Same H H' → Q (.bl (ans d)) H'
def any (_ : PyData) : Prop := True
theorem scInt : FnScope ["value"] ["value"] (defScope (top 6)) := ⟨rfl, rfl, rfl, by decide +kernel, rfl, by decide +kernel, by decide +kernel⟩
theorem ok_int {f : Addr} {fd : FuncData} (F : FnP K "is_integer" (top 6) f fd) (N : Nm mg) : FnOk P w K mg base CX0 1 f fd ["value"] (spQ K any isInt) := by
  refine F.ok scInt (fun vs H Q E h => ?_) (fun cdv A outer s H vs Q E hr h => ?_)
  · obtain ⟨v, d, rfl, _⟩ := h
    rfl
  · obtain ⟨v, d, rfl, hd, _, k⟩ := h
    refine ⟨_, PSs.nox (pss_one (ps_ret (pe_and (pe_callB call_isi (by rfl) N.isi (by decide +kernel) (pa_cons (pv 0) (pa_cons (pe_bltn (v := .ty "int") (u := .type "int") (by rfl) N.tint (by decide +kernel) rfl) pa_nil))) (pe_one (pe_not (pe_callB call_isi (by rfl) N.isi (by decide +kernel) (pa_cons (pv 0) (pa_cons (pe_bltn (v := .ty "bool") (u := .type "bool") (by rfl) N.tbool (by decide +kernel) rfl) pa_nil)))))))), ?_⟩
    refine ⟨_, rfl, _, _, _, _, _, rfl, .ty _, dpTy hd, kitD d (by decide), _, rfl, ite2 (fun c => ?_) (fun c => ?_)⟩
    · refine ⟨_, rfl, _, _, _, _, _, rfl, .ty _, dpTy hd, kitD d (by decide), _, rfl, ?_⟩
      have e : (!isTy d "bool") = isInt d := by
        cases d with
        | int i => rfl
        | bool b => rfl
        | _ => exact absurd c (by simp only [isTy, tyN]; decide)
      rw [e]
      exact k _ (Same.refl _)
    · have e : isInt d = false := by
        cases d with
        | int i => exact absurd (show isTy (.int i) "int" = true by simp only [isTy, tyN]; decide) c
        | _ => rfl
      have := k _ (Same.refl H)
      rw [e] at this
      exact this
end
end K5

set_option Elab.async false
set_option linter.all false
set_option maxRecDepth 100000
set_option maxHeartbeats 4000000
namespace K5
open PySem PySem.Spec PyProof.Rows L2
open K1 (FnP top Nm Sz wm)
structure D1 (P : Program) (w : World) (K : PySem.W.Frag) (mg : Str → Option Value) (base : Heap) (x p : Str) (k : Nat) (sp : Sp) (f : Addr) (fd : FuncData) : Prop where
  G : FnOk P w K mg base CX0 k f fd [p] sp
  g : mg x = some (.ref f)
  kp : PySem.W.keepIn K (.ref f) = true
  b : Binds K fd [p] []
structure D2 (P : Program) (w : World) (K : PySem.W.Frag) (mg : Str → Option Value) (base : Heap) (x p q : Str) (k : Nat) (sp : Sp) (f : Addr) (fd : FuncData) : Prop where
  G : FnOk P w K mg base CX0 k f fd [p, q] sp
  g : mg x = some (.ref f)
  kp : PySem.W.keepIn K (.ref f) = true
  b : Binds K fd [p, q] []
structure D3 (P : Program) (w : World) (K : PySem.W.Frag) (mg : Str → Option Value) (base : Heap) (x p q r : Str) (k : Nat) (sp : Sp) (f : Addr) (fd : FuncData) : Prop where
  G : FnOk P w K mg base CX0 k f fd [p, q, r] sp
  g : mg x = some (.ref f)
  kp : PySem.W.keepIn K (.ref f) = true
  b : Binds K fd [p, q, r] []
section
variable {P : Program} {w : World} {K : PySem.W.Frag} {mg : Str → Option Value} {base : Heap}
theorem scNum : FnScope ["value"] ["value"] (defScope (top 7)) := ⟨rfl, rfl, rfl, by decide +kernel, rfl, by decide +kernel, by decide +kernel⟩
theorem isNum_len {ds : List PyData} (h : ds.length ≠ 2) : isNum (.tuple ds) = false := by
  match ds, h with
  | [], _ => rfl
  | [_], _ => cases ‹PyData› <;> rfl
  | [_, _], h => exact absurd rfl h
  | a :: b :: _ :: _, _ => cases a <;> (try rfl) <;> cases b <;> rfl
theorem isInt_of {d : PyData} (h : isInt d = true) : ∃ i, d = .int i := by
  cases d with
  | int i => exact ⟨i, rfl⟩
  | _ => exact absurd h Bool.false_ne_true
theorem isNum_no1 {x y : PyData} (h : isInt x = false) : isNum (.tuple [x, y]) = false := by
  cases x with
  | int i => exact absurd h.symm Bool.false_ne_true
  | _ => rfl
theorem isNum_no2 {x y : PyData} (h : isInt y = false) : isNum (.tuple [x, y]) = false := by
  cases y with
  | int i => exact absurd h.symm Bool.false_ne_true
  | _ => cases x <;> rfl
theorem isNum_no {d : PyData} (h : isTy d "tuple" = false) : isNum d = isInt d := by
  cases d with
  | tuple ds => exact absurd h (by simp only [isTy, tyN]; decide)
  | _ => rfl
theorem isTy_tup {d : PyData} (h : isTy d "tuple" = true) : ∃ ds, d = .tuple ds := by
  cases d with
  | tuple ds => exact ⟨ds, rfl⟩
  | _ => exact absurd h (by simp only [isTy, tyN]; decide)
/-- the class of numbers that move: no data is of it -/
structure Mom (K : PySem.W.Frag) (mg : Str → Option Value) (CM : Addr) : Prop where
  g : mg "Moment" = some (.ref CM)
  k : ∀ d : PyData, PySem.W.kitOne K (.type (tyN d)) (.ref CM) = some false
theorem ok_num {f fI CM : Addr} {fd dI : FuncData} (F : FnP K "is_number" (top 7) f fd) (N : Nm mg) (Mo : Mom K mg CM) (d_is_integer : D1 P w K mg base "is_integer" "value" 1 (spQ K any isInt) fI dI) : FnOk P w K mg base CX0 2 f fd ["value"] (spQ K any isNum) := by
  refine F.ok scNum (fun vs H Q E h => ?_) (fun cdv A outer s H vs Q E hr h => ?_)
  · obtain ⟨v, d, rfl, _⟩ := h
    rfl
  · obtain ⟨v, d, rfl, hd, _, k⟩ := h
    refine ⟨_, PSs.nox (pss_cons (ps_if (pt_not (pt_val (pe_callB call_isi (by rfl) N.isi (by decide +kernel) (pa_cons (pv 0) (pa_cons (pe_bltn (v := .ty "tuple") (u := .type "tuple") (by rfl) N.ttup (by decide +kernel) rfl) pa_nil)))))
    (pss_one (ps_ret (pe_call d_is_integer.G (hr.mono (by decide)) (by rfl) d_is_integer.g d_is_integer.kp d_is_integer.b .nil pass0 (pa_cons (pv 0) pa_nil))))
    pss_nil)
  (pss_cons (ps_if (PW.pt (pw_and (pt_cmpR op_eq (pe_callB call_len_seq (by rfl) N.len PySem.boot_len (pa_cons (pv 0) pa_nil)) pe_int (nomark _)) (pw_and1 (pt_val (pe_callB call_isi (by rfl) N.isi (by decide +kernel) (pa_cons (pe_ix ix_tup (pv 0) pe_int (fun _ _ => rfl)) (pa_cons (pe_glob (by rfl) Mo.g (v := .ref CM) rfl) pa_nil)))))))
    (pss_one (ps_ret pe_bl))
    pss_nil)
  (pss_cons (ps_if (PW.pt (pw_or (pt_cmpR op_ne (pe_callB call_len_seq (by rfl) N.len PySem.boot_len (pa_cons (pv 0) pa_nil)) pe_int (nomark _)) (pw_or (pt_not (pt_val (pe_call d_is_integer.G (hr.mono (by decide)) (by rfl) d_is_integer.g d_is_integer.kp d_is_integer.b .nil pass0 (pa_cons (pe_ix ix_tup (pv 0) pe_int (fun _ _ => rfl)) pa_nil)))) (pw_or1 (pt_not (pt_val (pe_call d_is_integer.G (hr.mono (by decide)) (by rfl) d_is_integer.g d_is_integer.kp d_is_integer.b .nil pass0 (pa_cons (pe_ix ix_tup (pv 0) pe_int (fun _ _ => rfl)) pa_nil))))))))
    (pss_one (ps_ret pe_bl))
    pss_nil)
  (pss_one (ps_ret (pe_and (pe_cmpR op_ge (pe_ix ix_tup (pv 0) pe_int (fun _ _ => rfl)) pe_int (nomark _)) (pe_one (pe_cmpR op_eq (pe_callBfun cr_gcd (by rfl) N.gcd (pa_cons (pe_ix ix_tup (pv 0) pe_int (fun _ _ => rfl)) (pa_cons (pe_ix ix_tup (pv 0) pe_int (fun _ _ => rfl)) pa_nil))) pe_int (nomark _))))))))), ?_⟩
    refine ⟨_, rfl, _, _, _, _, _, rfl, .ty _, dpTy hd, kitD d (by decide), _, rfl, ite2 (fun c => ?_) (fun c => ?_)⟩
    · have c : isTy d "tuple" = false := Bool.not_eq_true' _ ▸ c
      refine ⟨_, rfl, v, d, rfl, hd, trivial, fun H' s => ?_⟩
      rw [← isNum_no c]
      exact k _ s
    · have c : isTy d "tuple" = true := by
        cases h : isTy d "tuple" with
        | true => rfl
        | false =>
          rw [h] at c
          exact absurd rfl c
      obtain ⟨ds, rfl⟩ := isTy_tup c
      cases hd with
      | tup ht hx =>
        rename_i p xs
        have hl := dpLen hx
        refine ⟨_, rfl, p, _, rfl, .inr ht, rfl, _, rfl, ite2 (fun c4 => ?_) (fun c4 => iteF ?_)⟩
        · have c4 : V.int (xs.length : Nat) = V.int 4 := of_decide_eq_true c4
          have l4 : ds.length = 4 := by
            injection c4 with c4
            omega
          obtain ⟨x3, e3⟩ : ∃ x3, ds[3]? = some x3 := ⟨_, List.getElem?_eq_getElem (by omega)⟩
          obtain ⟨u, eu, hu⟩ := dpAt 3 hx e3
          refine ⟨_, rfl, p, _, _, u, rfl, rfl, ht, atI_nat (j := 3) eu, _, _, _, _, false, rfl, .own _, dpTy hu, Mo.k _, false, rfl, iteF ?_⟩
          have e := isNum_len (ds := ds) (by omega)
          have q := k H (Same.refl H)
          rw [e] at q
          refine ⟨_, rfl, p, _, rfl, .inr ht, rfl, _, rfl, ite2 (fun _ => iteT q) (fun c2 => absurd ?_ c2)⟩
          show (!decide (V.int (xs.length : Nat) = V.int 2)) = true
          rw [decide_eq_false (fun e => by injection e with e; omega)]
          rfl
        refine ⟨_, rfl, p, _, rfl, .inr ht, rfl, _, rfl, ite2 (fun c2 => ?_) (fun c2 => ?_)⟩
        · have : ds.length ≠ 2 := fun z => by
            rw [hl, z] at c2
            exact absurd c2 (by decide)
          have e := isNum_len this
          have q := k H (Same.refl H)
          rw [e] at q
          exact iteT q
        · have h2 : ds.length = 2 := by
            apply Classical.byContradiction
            intro z
            apply c2
            show (!decide (V.int (xs.length : Nat) = V.int 2)) = true
            rw [decide_eq_false (fun e => by injection e with e; omega)]
            rfl
          obtain ⟨x, y, rfl⟩ : ∃ x y, ds = [x, y] := by
            match ds, h2 with
            | [x, y], _ => exact ⟨x, y, rfl⟩
          obtain ⟨u, eu, hu⟩ := dpAt 0 hx rfl
          obtain ⟨u2, eu2, hu2⟩ := dpAt 1 hx rfl
          refine ⟨_, rfl, p, _, _, u, rfl, rfl, ht, atI_nat (j := 0) eu, u, x, rfl, hu, trivial, fun H1 s1 => ⟨_, rfl, ite2 (fun c3 => ?_) (fun c3 => ?_)⟩⟩
          · have c3 : isInt x = false := Bool.not_eq_true' _ ▸ c3
            have q := k H1 s1
            rw [isNum_no1 c3] at q
            exact iteT q
          · have c3 : isInt x = true := by
              cases h : isInt x with
              | true => rfl
              | false =>
                rw [h] at c3
                exact absurd rfl c3
            refine ⟨_, rfl, p, _, _, u2, rfl, rfl, Same.seqT s1 ht, atI_nat (j := 1) eu2, u2, y, rfl, dpS s1 hu2, trivial, fun H2 s2 => ⟨_, rfl, ite2 (fun c4 => ?_) (fun c4 => ?_)⟩⟩
            · have c4 : isInt y = false := Bool.not_eq_true' _ ▸ c4
              have q := k H2 (s1.trans s2)
              rw [isNum_no2 c4] at q
              exact q
            · have c4 : isInt y = true := by
                cases h : isInt y with
                | true => rfl
                | false =>
                  rw [h] at c4
                  exact absurd rfl c4
              obtain ⟨t, rfl⟩ := isInt_of c3
              obtain ⟨b, rfl⟩ := isInt_of c4
              cases hu
              cases hu2
              have s12 := s1.trans s2
              have q := k H2 s12
              refine ⟨_, rfl, p, _, _, _, rfl, rfl, Same.seqT s12 ht, atI_nat (j := 1) eu2, _, _, rfl, rfl, _, rfl, ite2 (fun c5 => ?_) (fun c5 => ?_)⟩
              · refine ⟨_, rfl, p, _, _, _, rfl, rfl, Same.seqT s12 ht, atI_nat (j := 0) eu, _, rfl, p, _, _, _, rfl, rfl, Same.seqT s12 ht, atI_nat (j := 1) eu2, _, _, rfl, rfl, ?_⟩
                have e : isNum (.tuple [.int t, .int b]) = decide (V.int ((Nat.gcd t.natAbs b.natAbs : Nat) : Int) = V.int 1) := by
                  show (decide (2 ≤ b) && decide (Nat.gcd t.natAbs b.natAbs = 1)) = _
                  have c5 : 2 ≤ b := of_decide_eq_true c5
                  rw [decide_eq_true c5, Bool.true_and]
                  exact decide_eq_decide.mpr ⟨fun z => by rw [z] <;> rfl, fun z => by injection z with z; omega⟩
                rw [e] at q
                exact q
              · have e : isNum (.tuple [.int t, .int b]) = false := by
                  show (decide (2 ≤ b) && decide (Nat.gcd t.natAbs b.natAbs = 1)) = false
                  rw [decide_eq_false (fun z => c5 (decide_eq_true z))]
                  rfl
                rw [e] at q
                exact q
end
end K5

set_option Elab.async false
set_option linter.all false
set_option maxRecDepth 100000
set_option maxHeartbeats 4000000
namespace K5
open PySem PySem.Spec PyProof.Rows L2
open K1 (FnP top Nm Sz wm)
def NumD (K : PySem.W.Frag) (H : Hp) (v : V) (t : Int) (b : Nat) : Prop := (v = .int t ∧ b = 1) ∨ ∃ p, v = .ref p ∧ SqT K H p [.int t, .int (b : Int)]
theorem NumD.same {K : PySem.W.Frag} {H H' : Hp} {v : V} {t : Int} {b : Nat} (h : NumD K H v t b) (s : Same H H') : NumD K H' v t b := by
  rcases h with h | ⟨p, e, h⟩
  · exact .inl h
  · exact .inr ⟨p, e, Same.seqT s h⟩
def botOf : PyData → Int
  | .tuple [.int _, .int b] => b
  | _ => 1
/-- numbers of no great size -/
def okL (d : PyData) : Prop := isNum d = true → (topOf d).natAbs < 2 ^ 98 ∧ (botOf d).natAbs < 2 ^ 98
theorem num_shape {d : PyData} (h : isNum d = true) : (∃ i, d = .int i) ∨ ∃ t b, d = .tuple [.int t, .int b] ∧ 2 ≤ b := by
  unfold isNum at h
  split at h
  · exact .inl ⟨_, rfl⟩
  · rename_i t b
    exact .inr ⟨t, b, rfl, of_decide_eq_true (Bool.and_eq_true_iff.mp h).1⟩
  · cases h
theorem dpNum {K : PySem.W.Frag} {H : Hp} {v : V} {d : PyData} (h : isNum d = true) (hd : Dp K H v d) : ∃ b : Nat, 0 < b ∧ (b : Int) = botOf d ∧ NumD K H v (topOf d) b := by
  rcases num_shape h with ⟨i, rfl⟩ | ⟨t, b, rfl, hb⟩
  · cases hd
    exact ⟨1, by decide, rfl, .inl ⟨rfl, rfl⟩⟩
  · obtain ⟨n, rfl⟩ := Int.eq_ofNat_of_zero_le (show 0 ≤ b by omega)
    have n0 : 0 < n := by omega
    cases hd with
    | tup ht hx =>
      cases hx with
      | cons h1 h2 =>
        cases h1
        cases h2 with
        | cons h3 h4 =>
          cases h3
          cases h4
          exact ⟨n, n0, rfl, .inr ⟨_, rfl, ht⟩⟩
section
variable {P : Program} {w : World} {K : PySem.W.Frag} {mg : Str → Option Value} {base : Heap}
def spPair (K : PySem.W.Frag) : Sp := fun vs H Q _ => ∃ (v : V) (t : Int) (b : Nat), vs = [v] ∧ NumD K H v t b ∧ ∀ H' p, Same H H' → SqT K H' p [.int t, .int (b : Int)] → Q (.ref p) H'
theorem scFrac : FnScope ["number"] ["number"] (defScope (top 9)) := ⟨rfl, rfl, rfl, by decide +kernel, rfl, by decide +kernel, by decide +kernel⟩
theorem ok_frac {f : Addr} {fd : FuncData} (F : FnP K "fraction_of" (top 9) f fd) (N : Nm mg) : FnOk P w K mg base CX0 1 f fd ["number"] (spPair K) := by
  refine F.ok scFrac (fun vs H Q E h => ?_) (fun cdv A outer s H vs Q E hr h => ?_)
  · obtain ⟨v, t, b, rfl, _⟩ := h
    rfl
  · obtain ⟨v, t, b, rfl, hv, k⟩ := h
    refine ⟨_, PSs.nox (pss_cons (ps_if (pt_val (pe_callB call_isi (by rfl) N.isi (by decide +kernel) (pa_cons (pv 0) (pa_cons (pe_bltn (v := .ty "tuple") (u := .type "tuple") (by rfl) N.ttup (by decide +kernel) rfl) pa_nil))))
    (pss_one (ps_ret (pv 0)))
    pss_nil)
  (pss_one (ps_ret (pe_tup (pa_cons (pv 0) (pa_cons pe_int pa_nil)))))), ?_⟩
    rcases hv with ⟨rfl, rfl⟩ | ⟨p, rfl, hp⟩
    · refine ⟨_, rfl, _, _, _, _, false, rfl, .ty _, .base (.int _), kit_ty (by decide +kernel), false, rfl, iteF ?_⟩
      exact ⟨_, rfl, (by show 2 ≤ sizeLine; decide), fun q nq => k _ _ (same_upd nq) (SqT.of upd_same)⟩
    · refine ⟨_, rfl, _, _, _, _, true, rfl, .ty _, tyT hp, kit_ty (by decide +kernel), true, rfl, iteT ?_⟩
      exact ⟨_, rfl, k _ _ (Same.refl H) hp⟩
def spLe (K : PySem.W.Frag) : Sp := fun vs H Q _ => ∃ (v v' : V) (t t' : Int) (b b' : Nat), vs = [v, v'] ∧ NumD K H v t b ∧ NumD K H v' t' b' ∧ Sz t b ∧ Sz t' b' ∧ ∀ H', Same H H' → Q (.bl (decide (t * b' ≤ t' * b))) H'
def spMov (K : PySem.W.Frag) : Sp := fun vs H Q _ => ∃ (v : V) (t : Int) (b : Nat), vs = [v] ∧ NumD K H v t b ∧ Q (.bl false) H
theorem scMov : FnScope ["number"] ["number"] (defScope (top 11)) := ⟨rfl, rfl, rfl, by decide +kernel, rfl, by decide +kernel, by decide +kernel⟩
theorem ok_mov {f : Addr} {fd : FuncData} (F : FnP K "is_moving" (top 11) f fd) (N : Nm mg) : FnOk P w K mg base CX0 1 f fd ["number"] (spMov K) := by
  refine F.ok scMov (fun vs H Q E h => ?_) (fun cdv A outer s H vs Q E hr h => ?_)
  · obtain ⟨v, t, b, rfl, _⟩ := h
    rfl
  · obtain ⟨v, t, b, rfl, hv, k⟩ := h
    refine ⟨_, PSs.nox (pss_one (ps_ret (pe_and (pe_callB call_isi (by rfl) N.isi (by decide +kernel) (pa_cons (pv 0) (pa_cons (pe_bltn (v := .ty "tuple") (u := .type "tuple") (by rfl) N.ttup (by decide +kernel) rfl) pa_nil))) (pe_one (pe_cmpR op_eq (pe_callB call_len_seq (by rfl) N.len PySem.boot_len (pa_cons (pv 0) pa_nil)) pe_int (nomark _)))))), ?_⟩
    rcases hv with ⟨rfl, rfl⟩ | ⟨p, rfl, hp⟩
    · exact ⟨_, rfl, _, _, _, _, false, rfl, .ty _, .base (.int _), kit_ty (by decide +kernel), false, rfl, iteF k⟩
    · refine ⟨_, rfl, _, _, _, _, true, rfl, .ty _, tyT hp, kit_ty (by decide +kernel), true, rfl, iteT ?_⟩
      exact ⟨_, rfl, p, _, rfl, .inr hp, rfl, k⟩
theorem scLe : FnScope ["one", "other", "one_top", "one_bottom", "other_top", "other_bottom"] ["one", "other"] (defScope (top 17)) := ⟨rfl, rfl, rfl, by decide +kernel, rfl, by decide +kernel, by decide +kernel⟩
theorem ok_le {f fM fP : Addr} {fd dM dP : FuncData} (F : FnP K "at_most" (top 17) f fd) (N : Nm mg) (d_is_moving : D1 P w K mg base "is_moving" "number" 1 (spMov K) fM dM) (d_fraction_of : D1 P w K mg base "fraction_of" "number" 1 (spPair K) fP dP) : FnOk P w K mg base CX0 2 f fd ["one", "other"] (spLe K) := by
  refine F.ok scLe (fun vs H Q E h => ?_) (fun cdv A outer s H vs Q E hr h => ?_)
  · obtain ⟨v, v', t, t', b, b', rfl, _⟩ := h
    rfl
  · obtain ⟨v, v', t, t', b, b', rfl, hv, hv', z, z', k⟩ := h
    refine ⟨_, PSs.nox (pss_cons (ps_if (PW.pt (pw_and (pt_val (pe_callB call_isi (by rfl) N.isi (by decide +kernel) (pa_cons (pv 0) (pa_cons (pe_bltn (v := .ty "int") (u := .type "int") (by rfl) N.tint (by decide +kernel) rfl) pa_nil)))) (pw_and1 (pt_val (pe_callB call_isi (by rfl) N.isi (by decide +kernel) (pa_cons (pv 1) (pa_cons (pe_bltn (v := .ty "int") (u := .type "int") (by rfl) N.tint (by decide +kernel) rfl) pa_nil)))))))
    (pss_one (ps_ret (pe_cmpR op_le (pv 0) (pv 1) (nomark _))))
    pss_nil)
  (pss_cons (ps_if (PW.pt (pw_or (pt_val (pe_call d_is_moving.G (hr.mono (by decide)) (by rfl) d_is_moving.g d_is_moving.kp d_is_moving.b .nil pass0 (pa_cons (pv 0) pa_nil))) (pw_or1 (pt_val (pe_call d_is_moving.G (hr.mono (by decide)) (by rfl) d_is_moving.g d_is_moving.kp d_is_moving.b .nil pass0 (pa_cons (pv 1) pa_nil))))))
    pss_never
    pss_nil)
  (pss_cons (ps_asg (pe_call d_fraction_of.G (hr.mono (by decide)) (by rfl) d_fraction_of.g d_fraction_of.kp d_fraction_of.b .nil pass0 (pa_cons (pv 0) pa_nil)) (pg_tup rfl (pgs_cons (pg_name (i := 2) scLe.nd rfl (Or.inl rfl)) (pgs_cons (pg_name (i := 3) scLe.nd rfl (Or.inl rfl)) pgs_nil))))
  (pss_cons (ps_asg (pe_call d_fraction_of.G (hr.mono (by decide)) (by rfl) d_fraction_of.g d_fraction_of.kp d_fraction_of.b .nil pass0 (pa_cons (pv 1) pa_nil)) (pg_tup rfl (pgs_cons (pg_name (i := 4) scLe.nd rfl (Or.inl rfl)) (pgs_cons (pg_name (i := 5) scLe.nd rfl (Or.inl rfl)) pgs_nil))))
  (pss_one (ps_ret (pe_cmpR op_le (pe_op op_mulW (pv 2) (pv 5)) (pe_op op_mulW (pv 4) (pv 3)) (nomark _)))))))), ?_⟩
    have hw := hv
    have hw' := hv'
    rcases hv with ⟨rfl, rfl⟩ | ⟨p, rfl, hp⟩
    · refine ⟨_, rfl, _, _, _, _, true, rfl, .ty _, .base (.int _), kit_ty (by decide +kernel), true, rfl, iteT ?_⟩
      rcases hv' with ⟨rfl, rfl⟩ | ⟨p', rfl, hp'⟩
      · refine ⟨_, rfl, _, _, _, _, true, rfl, .ty _, .base (.int _), kit_ty (by decide +kernel), true, rfl, iteT ?_⟩
        refine ⟨_, rfl, _, rfl, _, _, rfl, rfl, ?_⟩
        have q := k H (Same.refl H)
        rw [show decide (t * ((1 : Nat) : Int) ≤ t' * ((1 : Nat) : Int)) = decide (t ≤ t') from decide_eq_decide.mpr (by omega)] at q
        exact q
      · refine ⟨_, rfl, _, _, _, _, false, rfl, .ty _, tyT hp', kit_ty (by decide +kernel), false, rfl, iteF ?_⟩
        refine ⟨_, rfl, _, _, _, rfl, hw, false, rfl, iteF ?_⟩
        refine ⟨_, rfl, _, _, _, rfl, hw', false, rfl, iteF ?_⟩
        refine ⟨_, rfl, _, _, _, rfl, hw, fun H1 p1 s1 e1 => ⟨p1, _, rfl, e1, rfl, _, _, rfl, _, _, rfl, rfl, ?_⟩⟩
        refine ⟨_, rfl, _, _, _, rfl, hw'.same s1, fun H2 p2 s2 e2 => ⟨p2, _, rfl, e2, rfl, _, _, rfl, _, _, rfl, rfl, ?_⟩⟩
        exact ⟨_, rfl, _, rfl, _, _, rfl, rfl, wm z.1 z'.2.2, _, rfl, _, rfl, _, _, rfl, rfl, wm z'.1 z.2.2, _, _, rfl, rfl, k _ (s1.trans s2)⟩
    · refine ⟨_, rfl, _, _, _, _, false, rfl, .ty _, tyT hp, kit_ty (by decide +kernel), false, rfl, iteF (iteF ?_)⟩
      refine ⟨_, rfl, _, _, _, rfl, hw, false, rfl, iteF ?_⟩
      refine ⟨_, rfl, _, _, _, rfl, hw', false, rfl, iteF ?_⟩
      refine ⟨_, rfl, _, _, _, rfl, hw, fun H1 p1 s1 e1 => ⟨p1, _, rfl, e1, rfl, _, _, rfl, _, _, rfl, rfl, ?_⟩⟩
      refine ⟨_, rfl, _, _, _, rfl, hw'.same s1, fun H2 p2 s2 e2 => ⟨p2, _, rfl, e2, rfl, _, _, rfl, _, _, rfl, rfl, ?_⟩⟩
      exact ⟨_, rfl, _, rfl, _, _, rfl, rfl, wm z.1 z'.2.2, _, rfl, _, rfl, _, _, rfl, rfl, wm z'.1 z.2.2, _, _, rfl, rfl, k _ (s1.trans s2)⟩
theorem scLen : FnScope ["value"] ["value"] (defScope (top 8)) := ⟨rfl, rfl, rfl, by decide +kernel, rfl, by decide +kernel, by decide +kernel⟩
theorem ok_len {f fN fL : Addr} {fd dN dL : FuncData} (F : FnP K "is_length" (top 8) f fd) (d_is_number : D1 P w K mg base "is_number" "value" 2 (spQ K any isNum) fN dN) (d_at_most : D2 P w K mg base "at_most" "one" "other" 2 (spLe K) fL dL) : FnOk P w K mg base CX0 3 f fd ["value"] (spQ K okL isLen) := by
  refine F.ok scLen (fun vs H Q E h => ?_) (fun cdv A outer s H vs Q E hr h => ?_)
  · obtain ⟨v, d, rfl, _⟩ := h
    rfl
  · obtain ⟨v, d, rfl, hd, hl, k⟩ := h
    refine ⟨_, PSs.nox (pss_one (ps_ret (pe_and (pe_call d_is_number.G (hr.mono (by decide)) (by rfl) d_is_number.g d_is_number.kp d_is_number.b .nil pass0 (pa_cons (pv 0) pa_nil)) (pe_one (pe_call d_at_most.G (hr.mono (by decide)) (by rfl) d_at_most.g d_at_most.kp d_at_most.b .nil pass0 (pa_cons pe_int (pa_cons (pv 0) pa_nil))))))), ?_⟩
    refine ⟨_, rfl, v, d, rfl, hd, trivial, fun H1 s1 => ⟨_, rfl, ite2 (fun c => ?_) (fun c => ?_)⟩⟩
    · obtain ⟨b, b0, eb, hn⟩ := dpNum c (dpS s1 hd)
      obtain ⟨l1, l2⟩ := hl c
      refine ⟨_, rfl, .int 0, v, 0, topOf d, 1, b, rfl, .inl ⟨rfl, rfl⟩, hn, ⟨by decide, by decide, by decide⟩, ⟨l1, b0, by omega⟩, fun H2 s2 => ?_⟩
      have q := k H2 (s1.trans s2)
      have e : isLen d = decide ((0 : Int) * (b : Int) ≤ topOf d * ((1 : Nat) : Int)) := by
        unfold isLen
        rw [c, Bool.true_and]
        exact decide_eq_decide.mpr (by constructor <;> intro z <;> omega)
      rw [e] at q
      exact q
    · have e : isLen d = false := by
        unfold isLen
        cases h : isNum d with
        | true => exact absurd h c
        | false => rfl
      have q := k H1 s1
      rw [e] at q
      exact q
/-! ### words, marks, names -/
def isStr : PyData → Option Str
  | .str z => some z
  | _ => none
def isWord (d : PyData) (ws : List Str) : Bool := match d with
  | .str z => ws.any fun w => w == z
  | _ => false
def spWord (K : PySem.W.Frag) : Sp := fun vs H Q _ => ∃ (v : V) (d : PyData) (p : Addr) (ws : List Str), vs = [v, .ref p] ∧ Dp K H v d ∧ SqT K H p (ws.map V.str) ∧ Q (.bl (isWord d ws)) H
theorem scWord : FnScope ["value", "words"] ["value", "words"] (defScope (top 22)) := ⟨rfl, rfl, rfl, by decide +kernel, rfl, by decide +kernel, by decide +kernel⟩
theorem inV_str (z : Str) (ws : List Str) : inV (.str z) (ws.map V.str) = ws.any fun w => w == z := by
  unfold inV
  rw [List.any_map]
  rfl
theorem ok_word {f : Addr} {fd : FuncData} (F : FnP K "is_word" (top 22) f fd) (N : Nm mg) (hs : mg "str" = none) : FnOk P w K mg base CX0 1 f fd ["value", "words"] (spWord K) := by
  refine F.ok scWord (fun vs H Q E h => ?_) (fun cdv A outer s H vs Q E hr h => ?_)
  · obtain ⟨v, d, p, ws, rfl, _⟩ := h
    rfl
  · obtain ⟨v, d, p, ws, rfl, hd, hp, k⟩ := h
    refine ⟨_, PSs.nox (pss_one (ps_ret (pe_and (pe_callB call_isi (by rfl) N.isi (by decide +kernel) (pa_cons (pv 0) (pa_cons (pe_bltn (v := .ty "str") (u := .type "str") (by rfl) hs (by decide +kernel) rfl) pa_nil))) (pe_one (pe_cmpR op_in_seq (pv 0) (pv 1) (by rfl)))))), ?_⟩
    refine ⟨_, rfl, _, _, _, _, _, rfl, .ty _, dpTy hd, kitD d (by decide), _, rfl, ite2 (fun c => ?_) (fun c => ?_)⟩
    · obtain ⟨z, rfl⟩ : ∃ z, d = .str z := by
        cases d with
        | str z => exact ⟨z, rfl⟩
        | _ => exact absurd c (by simp only [isTy, tyN]; decide)
      cases hd
      refine ⟨_, rfl, _, rfl, p, _, rfl, .inr hp, rfl, ?_, ?_⟩
      · rw [List.all_eq_true]
        intro x hx
        obtain ⟨y, _, rfl⟩ := List.mem_map.mp hx
        rfl
      · have q := k
        rw [show isWord (.str z) ws = inV (.str z) (ws.map V.str) from (inV_str z ws).symm] at q
        exact q
    · have e : isWord d ws = false := by
        cases d with
        | str z => exact absurd (show isTy (.str z) "str" = true by simp only [isTy, tyN]; decide) c
        | _ => rfl
      rw [e] at k
      exact k
def isMark (d : PyData) (z : Str) (n : Int) : Bool := match d with
  | .tuple ds => decide ((ds.length : Int) = n) && isWord (ds.headD .none) [z]
  | _ => false
/-- is_marked(value, word, many), many from 1 on -/
def spMark (K : PySem.W.Frag) : Sp := fun vs H Q _ => ∃ (v : V) (d : PyData) (z : Str) (n : Int), vs = [v, .str z, .int n] ∧ Dp K H v d ∧ 1 ≤ n ∧ ∀ H', Same H H' → Q (.bl (isMark d z n)) H'
theorem scMark : FnScope ["value", "word", "many"] ["value", "word", "many"] (defScope (top 23)) := ⟨rfl, rfl, rfl, by decide +kernel, rfl, by decide +kernel, by decide +kernel⟩
theorem ok_mark {f fW : Addr} {fd dW : FuncData} (F : FnP K "is_marked" (top 23) f fd) (N : Nm mg) (d_is_word : D2 P w K mg base "is_word" "value" "words" 1 (spWord K) fW dW) : FnOk P w K mg base CX0 2 f fd ["value", "word", "many"] (spMark K) := by
  refine F.ok scMark (fun vs H Q E h => ?_) (fun cdv A outer s H vs Q E hr h => ?_)
  · obtain ⟨v, d, z, n, rfl, _⟩ := h
    rfl
  · obtain ⟨v, d, z, n, rfl, hd, hn, k⟩ := h
    refine ⟨_, PSs.nox (pss_one (ps_ret (pe_and (pe_callB call_isi (by rfl) N.isi (by decide +kernel) (pa_cons (pv 0) (pa_cons (pe_bltn (v := .ty "tuple") (u := .type "tuple") (by rfl) N.ttup (by decide +kernel) rfl) pa_nil))) (pe_and (pe_cmpR op_eq (pe_callB call_len_seq (by rfl) N.len PySem.boot_len (pa_cons (pv 0) pa_nil)) (pv 2) (nomark _)) (pe_one (pe_call d_is_word.G (hr.mono (by decide)) (by rfl) d_is_word.g d_is_word.kp d_is_word.b .nil pass0 (pa_cons (pe_ix ix_tup (pv 0) pe_int (fun _ _ => rfl)) (pa_cons (pe_tup (pa_cons (pv 1) pa_nil)) pa_nil)))))))), ?_⟩
    refine ⟨_, rfl, _, _, _, _, _, rfl, .ty _, dpTy hd, kitD d (by decide), _, rfl, ite2 (fun c => ?_) (fun c => ?_)⟩
    · obtain ⟨ds, rfl⟩ := isTy_tup c
      cases hd with
      | tup ht hx =>
        rename_i p xs
        have hl := dpLen hx
        refine ⟨_, rfl, p, _, rfl, .inr ht, _, rfl, rfl, _, rfl, ite2 (fun c2 => ?_) (fun c2 => ?_)⟩
        · have c2 : ((xs.length : Nat) : Int) = n := by
            have c2 : V.int ((xs.length : Nat) : Int) = V.int n := of_decide_eq_true c2
            injection c2
          cases hx with
          | nil => exact absurd c2 (by show ((0 : Nat) : Int) ≠ n; omega)
          | @cons y ys e es hy hys =>
            refine ⟨_, rfl, p, _, _, y, rfl, rfl, ht, atI_nat (j := 0) rfl, _, rfl, (by show 1 ≤ sizeLine; decide), fun q nq => ?_⟩
            have s1 := same_upd (o := .tup [.str z]) nq
            refine ⟨y, e, q, [z], rfl, dpS s1 hy, SqT.of upd_same, ?_⟩
            have r := k _ s1
            have ee : isMark (.tuple (e :: es)) z n = isWord e [z] := by
              show (decide (((e :: es).length : Int) = n) && isWord e [z]) = _
              rw [← hl, decide_eq_true c2, Bool.true_and]
            rw [ee] at r
            exact r
        · have r := k _ (Same.refl H)
          have ee : isMark (.tuple ds) z n = false := by
            show (decide ((ds.length : Int) = n) && isWord (ds.headD .none) [z]) = false
            rw [← hl, decide_eq_false (fun e => c2 (decide_eq_true (show V.int ((xs.length : Nat) : Int) = V.int n by rw [e])))]
            rfl
          rw [ee] at r
          exact r
    · have e : isMark d z n = false := by
        cases d with
        | tuple ds => exact absurd (show isTy (.tuple ds) "tuple" = true by simp only [isTy, tyN]; decide) c
        | _ => rfl
      have r := k _ (Same.refl H)
      rw [e] at r
      exact r
end
end K5

set_option Elab.async false
set_option linter.all false
set_option maxRecDepth 100000
set_option maxHeartbeats 4000000
namespace K5
open PySem PySem.Spec PyProof.Rows L2
open K1 (FnP top Nm)
/-! ### questions that only put others together -/
def itemAt (d : PyData) (i : Nat) : PyData := match d with
  | .tuple ds => ds.getD i .none
  | _ => .none
def isPart (d : PyData) : Bool := isMark d "part" 2 && isLen (itemAt d 1)
def isShare (d : PyData) : Bool := isMark d "share" 2 && isLen (itemAt d 1)
def isFixed (d : PyData) : Bool := isLen d || isPart d
def sizeWords : List Str := ["least", "most", "auto"]
def isPlain (d : PyData) : Bool := isFixed d || isWord d sizeWords
def isBetw (d : PyData) : Bool := isMark d "between" 3 && (isPlain (itemAt d 1) && (isPlain (itemAt d 2) || isShare (itemAt d 2)))
def isUpto (d : PyData) : Bool := isMark d "upto" 2 && isFixed (itemAt d 1)
def isSize (d : PyData) : Bool := isPlain d || (isShare d || (isBetw d || isUpto d))
/-- numbers in it, two deep, of no great size -/
def okS (d : PyData) : Prop := okL d ∧ ∀ i, okL (itemAt d i)
def okB (d : PyData) : Prop := okS d ∧ ∀ i, okS (itemAt d i)
theorem mark_tup {d : PyData} {z : Str} {n : Nat} (h : isMark d z (n : Int) = true) : ∃ ds, d = .tuple ds ∧ ds.length = n := by
  cases d with
  | tuple ds =>
    refine ⟨ds, rfl, ?_⟩
    have h' : (decide ((ds.length : Int) = (n : Int)) && isWord (ds.headD .none) [z]) = true := h
    have := of_decide_eq_true (Bool.and_eq_true_iff.mp h').1
    omega
  | _ => exact absurd h Bool.false_ne_true
/-- value[i], where value is marked -/
theorem dpItem {K : PySem.W.Frag} {H : Hp} {v : V} {d : PyData} {z : Str} {n : Nat} (hd : Dp K H v d) (h : isMark d z (n : Int) = true) (i : Nat) (hi : i < n) : ∃ p xs u, v = .ref p ∧ SqT K H p xs ∧ xs[i]? = some u ∧ Dp K H u (itemAt d i) := by
  obtain ⟨ds, rfl, hl⟩ := mark_tup h
  cases hd with
  | @tup p xs _ ht hx =>
    have e : ds[i]? = some (itemAt (.tuple ds) i) := by
      show ds[i]? = some (ds.getD i .none)
      rw [List.getD_eq_getElem?_getD, List.getElem?_eq_getElem (by omega)]
      rfl
    obtain ⟨u, eu, hu⟩ := dpAt i hx e
    exact ⟨p, xs, u, rfl, ht, eu, hu⟩
section
variable {P : Program} {w : World} {K : PySem.W.Frag} {mg : Str → Option Value} {base : Heap}
theorem bq {A : Prop} {a b : Bool} {Q : VK} {H : Hp} (e : a = b) (h : Q (.bl a) H) : Q (.bl b) H := e ▸ h
theorem scPart : FnScope ["value"] ["value"] (defScope (top 40)) := ⟨rfl, rfl, rfl, by decide +kernel, rfl, by decide +kernel, by decide +kernel⟩
theorem ok_part {f fM fL : Addr} {fd dM dL : FuncData} (F : FnP K "is_part" (top 40) f fd) (d_is_marked : D3 P w K mg base "is_marked" "value" "word" "many" 2 (spMark K) fM dM) (d_is_length : D1 P w K mg base "is_length" "value" 3 (spQ K okL isLen) fL dL) : FnOk P w K mg base CX0 4 f fd ["value"] (spQ K okS isPart) := by
  refine F.ok scPart (fun vs H Q E h => ?_) (fun cdv A outer s H vs Q E hr h => ?_)
  · obtain ⟨v, d, rfl, _⟩ := h
    rfl
  · obtain ⟨v, d, rfl, hd, ho, k⟩ := h
    refine ⟨_, PSs.nox (pss_one (ps_ret (pe_and (pe_call d_is_marked.G (hr.mono (by decide)) (by rfl) d_is_marked.g d_is_marked.kp d_is_marked.b .nil pass0 (pa_cons (pv 0) (pa_cons pe_str (pa_cons pe_int pa_nil)))) (pe_one (pe_call d_is_length.G (hr.mono (by decide)) (by rfl) d_is_length.g d_is_length.kp d_is_length.b .nil pass0 (pa_cons (pe_ix ix_tup (pv 0) pe_int (fun _ _ => rfl)) pa_nil)))))), ?_⟩
    refine ⟨_, rfl, v, d, "part", 2, rfl, hd, by decide, fun H1 s1 => ⟨_, rfl, ite2 (fun c => ?_) (fun c => ?_)⟩⟩
    · obtain ⟨p, xs, u, rfl, ht, eu, hu⟩ := dpItem (n := 2) (dpS s1 hd) c 1 (by decide)
      refine ⟨_, rfl, p, xs, 1, u, rfl, rfl, ht, atI_nat (j := 1) eu, u, _, rfl, hu, ho.2 1, fun H2 s2 => bq (A := True) ?_ (k H2 (s1.trans s2))⟩
      show (isMark d "part" 2 && isLen (itemAt d 1)) = _
      rw [c, Bool.true_and]
    · refine bq (A := True) ?_ (k H1 s1)
      show (isMark d "part" 2 && isLen (itemAt d 1)) = _
      rw [Bool.eq_false_iff.mpr c, Bool.false_and]
theorem scShare : FnScope ["value"] ["value"] (defScope (top 41)) := ⟨rfl, rfl, rfl, by decide +kernel, rfl, by decide +kernel, by decide +kernel⟩
theorem ok_share {f fM fL : Addr} {fd dM dL : FuncData} (F : FnP K "is_share" (top 41) f fd) (d_is_marked : D3 P w K mg base "is_marked" "value" "word" "many" 2 (spMark K) fM dM) (d_is_length : D1 P w K mg base "is_length" "value" 3 (spQ K okL isLen) fL dL) : FnOk P w K mg base CX0 4 f fd ["value"] (spQ K okS isShare) := by
  refine F.ok scShare (fun vs H Q E h => ?_) (fun cdv A outer s H vs Q E hr h => ?_)
  · obtain ⟨v, d, rfl, _⟩ := h
    rfl
  · obtain ⟨v, d, rfl, hd, ho, k⟩ := h
    refine ⟨_, PSs.nox (pss_one (ps_ret (pe_and (pe_call d_is_marked.G (hr.mono (by decide)) (by rfl) d_is_marked.g d_is_marked.kp d_is_marked.b .nil pass0 (pa_cons (pv 0) (pa_cons pe_str (pa_cons pe_int pa_nil)))) (pe_one (pe_call d_is_length.G (hr.mono (by decide)) (by rfl) d_is_length.g d_is_length.kp d_is_length.b .nil pass0 (pa_cons (pe_ix ix_tup (pv 0) pe_int (fun _ _ => rfl)) pa_nil)))))), ?_⟩
    refine ⟨_, rfl, v, d, "share", 2, rfl, hd, by decide, fun H1 s1 => ⟨_, rfl, ite2 (fun c => ?_) (fun c => ?_)⟩⟩
    · obtain ⟨p, xs, u, rfl, ht, eu, hu⟩ := dpItem (n := 2) (dpS s1 hd) c 1 (by decide)
      refine ⟨_, rfl, p, xs, 1, u, rfl, rfl, ht, atI_nat (j := 1) eu, u, _, rfl, hu, ho.2 1, fun H2 s2 => bq (A := True) ?_ (k H2 (s1.trans s2))⟩
      show (isMark d "share" 2 && isLen (itemAt d 1)) = _
      rw [c, Bool.true_and]
    · refine bq (A := True) ?_ (k H1 s1)
      show (isMark d "share" 2 && isLen (itemAt d 1)) = _
      rw [Bool.eq_false_iff.mpr c, Bool.false_and]
theorem scFixed : FnScope ["value"] ["value"] (defScope (top 42)) := ⟨rfl, rfl, rfl, by decide +kernel, rfl, by decide +kernel, by decide +kernel⟩
theorem ok_fixed {f fM fL : Addr} {fd dM dL : FuncData} (F : FnP K "is_fixed" (top 42) f fd) (d_is_length : D1 P w K mg base "is_length" "value" 3 (spQ K okL isLen) fL dL) (d_is_part : D1 P w K mg base "is_part" "value" 4 (spQ K okS isPart) fM dM) : FnOk P w K mg base CX0 5 f fd ["value"] (spQ K okS isFixed) := by
  refine F.ok scFixed (fun vs H Q E h => ?_) (fun cdv A outer s H vs Q E hr h => ?_)
  · obtain ⟨v, d, rfl, _⟩ := h
    rfl
  · obtain ⟨v, d, rfl, hd, ho, k⟩ := h
    refine ⟨_, PSs.nox (pss_one (ps_ret (pe_or (pe_call d_is_length.G (hr.mono (by decide)) (by rfl) d_is_length.g d_is_length.kp d_is_length.b .nil pass0 (pa_cons (pv 0) pa_nil)) (pe_one (pe_call d_is_part.G (hr.mono (by decide)) (by rfl) d_is_part.g d_is_part.kp d_is_part.b .nil pass0 (pa_cons (pv 0) pa_nil)))))), ?_⟩
    refine ⟨_, rfl, v, d, rfl, hd, ho.1, fun H1 s1 => ⟨_, rfl, ite2 (fun c => ?_) (fun c => ?_)⟩⟩
    · refine bq (A := True) ?_ (k H1 s1)
      show (isLen d || isPart d) = _
      rw [c, Bool.true_or]
    · refine ⟨_, rfl, v, d, rfl, dpS s1 hd, ho, fun H2 s2 => bq (A := True) ?_ (k H2 (s1.trans s2))⟩
      show (isLen d || isPart d) = _
      rw [Bool.eq_false_iff.mpr c, Bool.false_or]
theorem scPlain : FnScope ["value"] ["value"] (defScope (top 43)) := ⟨rfl, rfl, rfl, by decide +kernel, rfl, by decide +kernel, by decide +kernel⟩
theorem ok_plain {f fM fL aS : Addr} {fd dM dL : FuncData} (F : FnP K "is_plain_size" (top 43) f fd) (d_is_fixed : D1 P w K mg base "is_fixed" "value" 5 (spQ K okS isFixed) fL dL) (d_is_word : D2 P w K mg base "is_word" "value" "words" 1 (spWord K) fM dM) (gS : mg "SIZE_WORDS" = some (.ref aS)) (hS : ∀ H, SqT K H aS (sizeWords.map V.str)) :
    FnOk P w K mg base CX0 6 f fd ["value"] (spQ K okS isPlain) := by
  refine F.ok scPlain (fun vs H Q E h => ?_) (fun cdv A outer s H vs Q E hr h => ?_)
  · obtain ⟨v, d, rfl, _⟩ := h
    rfl
  · obtain ⟨v, d, rfl, hd, ho, k⟩ := h
    refine ⟨_, PSs.nox (pss_one (ps_ret (pe_or (pe_call d_is_fixed.G (hr.mono (by decide)) (by rfl) d_is_fixed.g d_is_fixed.kp d_is_fixed.b .nil pass0 (pa_cons (pv 0) pa_nil)) (pe_one (pe_call d_is_word.G (hr.mono (by decide)) (by rfl) d_is_word.g d_is_word.kp d_is_word.b .nil pass0 (pa_cons (pv 0) (pa_cons (pe_glob (by rfl) gS (v := .ref aS) rfl) pa_nil))))))), ?_⟩
    refine ⟨_, rfl, v, d, rfl, hd, ho, fun H1 s1 => ⟨_, rfl, ite2 (fun c => ?_) (fun c => ?_)⟩⟩
    · refine bq (A := True) ?_ (k H1 s1)
      show (isFixed d || isWord d sizeWords) = _
      rw [c, Bool.true_or]
    · refine ⟨_, rfl, v, d, aS, sizeWords, rfl, dpS s1 hd, hS _, bq (A := True) ?_ (k H1 s1)⟩
      show (isFixed d || isWord d sizeWords) = _
      rw [Bool.eq_false_iff.mpr c, Bool.false_or]
theorem scUpto : FnScope ["value"] ["value"] (defScope (top 45)) := ⟨rfl, rfl, rfl, by decide +kernel, rfl, by decide +kernel, by decide +kernel⟩
theorem ok_upto {f fM fL : Addr} {fd dM dL : FuncData} (F : FnP K "is_upto" (top 45) f fd) (d_is_marked : D3 P w K mg base "is_marked" "value" "word" "many" 2 (spMark K) fM dM) (d_is_fixed : D1 P w K mg base "is_fixed" "value" 5 (spQ K okS isFixed) fL dL) : FnOk P w K mg base CX0 6 f fd ["value"] (spQ K okB isUpto) := by
  refine F.ok scUpto (fun vs H Q E h => ?_) (fun cdv A outer s H vs Q E hr h => ?_)
  · obtain ⟨v, d, rfl, _⟩ := h
    rfl
  · obtain ⟨v, d, rfl, hd, ho, k⟩ := h
    refine ⟨_, PSs.nox (pss_one (ps_ret (pe_and (pe_call d_is_marked.G (hr.mono (by decide)) (by rfl) d_is_marked.g d_is_marked.kp d_is_marked.b .nil pass0 (pa_cons (pv 0) (pa_cons pe_str (pa_cons pe_int pa_nil)))) (pe_one (pe_call d_is_fixed.G (hr.mono (by decide)) (by rfl) d_is_fixed.g d_is_fixed.kp d_is_fixed.b .nil pass0 (pa_cons (pe_ix ix_tup (pv 0) pe_int (fun _ _ => rfl)) pa_nil)))))), ?_⟩
    refine ⟨_, rfl, v, d, "upto", 2, rfl, hd, by decide, fun H1 s1 => ⟨_, rfl, ite2 (fun c => ?_) (fun c => ?_)⟩⟩
    · obtain ⟨p, xs, u, rfl, ht, eu, hu⟩ := dpItem (n := 2) (dpS s1 hd) c 1 (by decide)
      refine ⟨_, rfl, p, xs, 1, u, rfl, rfl, ht, atI_nat (j := 1) eu, u, _, rfl, hu, ho.2 1, fun H2 s2 => bq (A := True) ?_ (k H2 (s1.trans s2))⟩
      show (isMark d "upto" 2 && isFixed (itemAt d 1)) = _
      rw [c, Bool.true_and]
    · refine bq (A := True) ?_ (k H1 s1)
      show (isMark d "upto" 2 && isFixed (itemAt d 1)) = _
      rw [Bool.eq_false_iff.mpr c, Bool.false_and]
theorem scBetw : FnScope ["value"] ["value"] (defScope (top 44)) := ⟨rfl, rfl, rfl, by decide +kernel, rfl, by decide +kernel, by decide +kernel⟩
theorem ok_betw {f fM fL fS : Addr} {fd dM dL dS : FuncData} (F : FnP K "is_between" (top 44) f fd) (d_is_marked : D3 P w K mg base "is_marked" "value" "word" "many" 2 (spMark K) fM dM) (d_is_plain_size : D1 P w K mg base "is_plain_size" "value" 6 (spQ K okS isPlain) fL dL) (d_is_share : D1 P w K mg base "is_share" "value" 4 (spQ K okS isShare) fS dS) :
    FnOk P w K mg base CX0 7 f fd ["value"] (spQ K okB isBetw) := by
  refine F.ok scBetw (fun vs H Q E h => ?_) (fun cdv A outer s H vs Q E hr h => ?_)
  · obtain ⟨v, d, rfl, _⟩ := h
    rfl
  · obtain ⟨v, d, rfl, hd, ho, k⟩ := h
    refine ⟨_, PSs.nox (pss_cons (ps_if (PW.pt (pw_or (pt_not (pt_val (pe_call d_is_marked.G (hr.mono (by decide)) (by rfl) d_is_marked.g d_is_marked.kp d_is_marked.b .nil pass0 (pa_cons (pv 0) (pa_cons pe_str (pa_cons pe_int pa_nil)))))) (pw_or1 (pt_not (pt_val (pe_call d_is_plain_size.G (hr.mono (by decide)) (by rfl) d_is_plain_size.g d_is_plain_size.kp d_is_plain_size.b .nil pass0 (pa_cons (pe_ix ix_tup (pv 0) pe_int (fun _ _ => rfl)) pa_nil)))))))
    (pss_one (ps_ret pe_bl))
    pss_nil)
  (pss_one (ps_ret (pe_or (pe_call d_is_plain_size.G (hr.mono (by decide)) (by rfl) d_is_plain_size.g d_is_plain_size.kp d_is_plain_size.b .nil pass0 (pa_cons (pe_ix ix_tup (pv 0) pe_int (fun _ _ => rfl)) pa_nil)) (pe_one (pe_call d_is_share.G (hr.mono (by decide)) (by rfl) d_is_share.g d_is_share.kp d_is_share.b .nil pass0 (pa_cons (pe_ix ix_tup (pv 0) pe_int (fun _ _ => rfl)) pa_nil))))))), ?_⟩
    have ed : isBetw d = (isMark d "between" 3 && (isPlain (itemAt d 1) && (isPlain (itemAt d 2) || isShare (itemAt d 2)))) := rfl
    refine ⟨_, rfl, v, d, "between", 3, rfl, hd, by decide, fun H1 s1 => ⟨_, rfl, ite2 (fun c => ?_) (fun c => ?_)⟩⟩
    · have c : isMark d "between" 3 = false := Bool.not_eq_true' _ ▸ c
      exact iteT (bq (A := True) (by rw [ed, c, Bool.false_and]) (k H1 s1))
    · have c : isMark d "between" 3 = true := by
        cases h : isMark d "between" 3 with
        | true => rfl
        | false =>
          rw [h] at c
          exact absurd rfl c
      obtain ⟨p, xs, u, rfl, ht, eu, hu⟩ := dpItem (n := 3) (dpS s1 hd) c 1 (by decide)
      obtain ⟨p', xs', u2, e2, ht', eu2, hu2⟩ := dpItem (n := 3) (dpS s1 hd) c 2 (by decide)
      cases e2
      refine ⟨_, rfl, p, xs, 1, u, rfl, rfl, ht, atI_nat (j := 1) eu, u, _, rfl, hu, ho.2 1, fun H2 s2 => ⟨_, rfl, ite2 (fun c2 => ?_) (fun c2 => ?_)⟩⟩
      · have c2 : isPlain (itemAt d 1) = false := Bool.not_eq_true' _ ▸ c2
        exact bq (A := True) (by rw [ed, c, c2, Bool.false_and, Bool.and_false]) (k H2 (s1.trans s2))
      · have c2 : isPlain (itemAt d 1) = true := by
          cases h : isPlain (itemAt d 1) with
          | true => rfl
          | false =>
            rw [h] at c2
            exact absurd rfl c2
        refine ⟨_, rfl, p, xs', 2, u2, rfl, rfl, Same.seqT s2 ht', atI_nat (j := 2) eu2, u2, _, rfl, dpS s2 hu2, ho.2 2, fun H3 s3 => ⟨_, rfl, ite2 (fun c3 => ?_) (fun c3 => ?_)⟩⟩
        · exact bq (A := True) (by rw [ed, c, c2, c3]; rfl) (k H3 ((s1.trans s2).trans s3))
        · refine ⟨_, rfl, p, xs', 2, u2, rfl, rfl, Same.seqT (s2.trans s3) ht', atI_nat (j := 2) eu2, u2, _, rfl, dpS (s2.trans s3) hu2, ho.2 2, fun H4 s4 => bq (A := True) ?_ (k H4 (((s1.trans s2).trans s3).trans s4))⟩
          rw [ed, c, c2, Bool.eq_false_iff.mpr c3]
          rfl
theorem scSize : FnScope ["value"] ["value"] (defScope (top 46)) := ⟨rfl, rfl, rfl, by decide +kernel, rfl, by decide +kernel, by decide +kernel⟩
theorem ok_size {f f1 f2 f3 f4 : Addr} {fd d1 d2 d3 d4 : FuncData} (F : FnP K "is_size" (top 46) f fd) (d_is_plain_size : D1 P w K mg base "is_plain_size" "value" 6 (spQ K okS isPlain) f1 d1) (d_is_share : D1 P w K mg base "is_share" "value" 4 (spQ K okS isShare) f2 d2) (d_is_between : D1 P w K mg base "is_between" "value" 7 (spQ K okB isBetw) f3 d3) (d_is_upto : D1 P w K mg base "is_upto" "value" 6 (spQ K okB isUpto) f4 d4) :
    FnOk P w K mg base CX0 8 f fd ["value"] (spQ K okB isSize) := by
  refine F.ok scSize (fun vs H Q E h => ?_) (fun cdv A outer s H vs Q E hr h => ?_)
  · obtain ⟨v, d, rfl, _⟩ := h
    rfl
  · obtain ⟨v, d, rfl, hd, ho, k⟩ := h
    refine ⟨_, PSs.nox (pss_one (ps_ret (pe_or (pe_call d_is_plain_size.G (hr.mono (by decide)) (by rfl) d_is_plain_size.g d_is_plain_size.kp d_is_plain_size.b .nil pass0 (pa_cons (pv 0) pa_nil)) (pe_or (pe_call d_is_share.G (hr.mono (by decide)) (by rfl) d_is_share.g d_is_share.kp d_is_share.b .nil pass0 (pa_cons (pv 0) pa_nil)) (pe_or (pe_call d_is_between.G (hr.mono (by decide)) (by rfl) d_is_between.g d_is_between.kp d_is_between.b .nil pass0 (pa_cons (pv 0) pa_nil)) (pe_one (pe_call d_is_upto.G (hr.mono (by decide)) (by rfl) d_is_upto.g d_is_upto.kp d_is_upto.b .nil pass0 (pa_cons (pv 0) pa_nil)))))))), ?_⟩
    have ed : isSize d = (isPlain d || (isShare d || (isBetw d || isUpto d))) := rfl
    refine ⟨_, rfl, v, d, rfl, hd, ho.1, fun H1 s1 => ⟨_, rfl, ite2 (fun c => bq (A := True) (by rw [ed, c, Bool.true_or]) (k H1 s1)) (fun c => ?_)⟩⟩
    refine ⟨_, rfl, v, d, rfl, dpS s1 hd, ho.1, fun H2 s2 => ⟨_, rfl, ite2 (fun c2 => bq (A := True) (by rw [ed, c2, Bool.true_or, Bool.or_true]) (k H2 (s1.trans s2))) (fun c2 => ?_)⟩⟩
    have s12 := s1.trans s2
    refine ⟨_, rfl, v, d, rfl, dpS s12 hd, ho, fun H3 s3 => ⟨_, rfl, ite2 (fun c3 => bq (A := True) (by rw [ed, c3, Bool.true_or, Bool.or_true, Bool.or_true]) (k H3 (s12.trans s3))) (fun c3 => ?_)⟩⟩
    have s13 := s12.trans s3
    exact ⟨_, rfl, v, d, rfl, dpS s13 hd, ho, fun H4 s4 => bq (A := True) (by rw [ed, Bool.eq_false_iff.mpr c, Bool.eq_false_iff.mpr c2, Bool.eq_false_iff.mpr c3]; rfl) (k H4 (s13.trans s4))⟩
end
end K5

set_option Elab.async false
set_option linter.all false
set_option maxRecDepth 100000
set_option maxHeartbeats 4000000
namespace K5
open PySem PySem.Spec PyProof.Rows L2
open K1 (FnP top Nm)
/-! ### names -/
theorem for_str {x : Str} {g : TG} {tb : TS} {D : Ends} {σ : L2.St} {H : Hp} (Pv : Nat → L2.St → Hp → Prop) (h0 : Pv 0 σ H)
    (hs : ∀ i c σ H, x.cps[i]? = some c → Pv i σ H → g (.str ⟨#[c]⟩) σ H fun σ2 H2 => tb { D with nx := Pv (i + 1), ct := Pv (i + 1), bk := D.nx } σ2 H2) (hd : ∀ σ H, Pv x.cps.size σ H → D.nx σ H) :
    ∃ W : Nat → Nat → L2.St → Hp → Prop, (∃ m, W 0 m σ H) ∧ ∀ i m σ H, W i m σ H →
      ((Its x).stop i H ∧ D.nx σ H) ∨ ((Its x).go i H ∧ ∃ N : L2.St → Hp → Prop, (∀ σ' H', N σ' H' → ∃ m', m' < m ∧ W (i + 1) m' σ' H') ∧ ∀ v H', (Its x).yld i H v H' → g v σ H' fun σ2 H2 => tb { D with nx := N, ct := N, bk := D.nx } σ2 H2) := by
  refine ⟨fun i m σ H => m = x.cps.size - i ∧ i ≤ x.cps.size ∧ Pv i σ H, ⟨x.cps.size, by simp, Nat.zero_le _, h0⟩, ?_⟩
  rintro i m σ H ⟨rfl, hi, p⟩
  by_cases hlt : i < x.cps.size
  · refine .inr ⟨hlt, Pv (i + 1), fun σ' H' p' => ⟨x.cps.size - (i + 1), by omega, rfl, hlt, p'⟩, fun v H' y => ?_⟩
    obtain ⟨e, c, ec, ev⟩ := y
    subst e ev
    exact hs i c σ _ ec p
  · have e : i = x.cps.size := by omega
    subst e
    exact .inl ⟨Nat.le_refl _, hd σ H p⟩
def signs : Str := "abcdefghijklmnopqrstuvwxyz0123456789-"
def letters : Str := "abcdefghijklmnopqrstuvwxyz"
def nameB (z : Str) : Bool := decide (1 ≤ z.cps.size) && (decide (z.cps.size ≤ 16) && (!decide (z = "span") && (z.cps.toList.all (fun c => decide (c ∈ signs.cps.toList)) && (match z.cps.toList with | c :: _ => decide (c ∈ letters.cps.toList) | [] => false))))
def isName (d : PyData) : Bool := match d with
  | .str z => nameB z
  | _ => false
def okZ (d : PyData) : Prop := ∀ z, d = .str z → z.length ≤ 1000
section
variable {P : Program} {w : World} {K : PySem.W.Frag} {mg : Str → Option Value} {base : Heap}
theorem scName : FnScope ["value", "sign"] ["value"] (defScope (top 24)) := ⟨rfl, rfl, rfl, by decide +kernel, rfl, by decide +kernel, by decide +kernel⟩
theorem ok_name {f : Addr} {fd : FuncData} {t1 t2 t3 : Tok} (F : FnP K "is_name" (top 24) f fd) (N : Nm mg) (hs : mg "str" = none) (gL : mg "LETTERS" = some (.str letters t1)) (gS : mg "NAME_SIGNS" = some (.str signs t2)) (gM : mg "LONGEST_NAME" = some (.int 16 t3)) :
    FnOk P w K mg base CX0 1 f fd ["value"] (spQ K okZ isName) := by
  refine F.ok scName (fun vs H Q E h => ?_) (fun cdv A outer s H vs Q E hr h => ?_)
  · obtain ⟨v, d, rfl, _⟩ := h
    rfl
  · obtain ⟨v, d, rfl, hd, ho, k⟩ := h
    have k := k H (Same.refl H)
    refine ⟨_, PSs.nox (pss_cons (ps_if (PW.pt (pw_or (pt_not (pt_val (pe_callB call_isi (by rfl) N.isi (by decide +kernel) (pa_cons (pv 0) (pa_cons (pe_bltn (v := .ty "str") (u := .type "str") (by rfl) hs (by decide +kernel) rfl) pa_nil))))) (pw_or (pt_not (pt_chain op_le op_le pe_int (pe_callB call_len_str (by rfl) N.len PySem.boot_len (pa_cons (pv 0) pa_nil)) (pe_glob (by rfl) gM (v := .int 16) ⟨_, rfl⟩))) (pw_or1 (pt_cmpR op_eq (pv 0) pe_str (nomark _))))))
    (pss_one (ps_ret pe_bl))
    pss_nil)
  (pss_cons (ps_for PassesOwn.never rfl (pi_str (pv 0))
    (pg_name (i := 1) scName.nd rfl (Or.inl rfl))
    (pss_one (ps_if (pt_cmpR op_notIn_sign (pv 1) (pe_glob (by rfl) gS (v := .str signs) ⟨_, rfl⟩) (by rfl))
    (pss_one (ps_ret pe_bl))
    pss_nil)))
  (pss_one (ps_ret (pe_cmpR op_in_sign (pe_ix ix_str (pv 0) pe_int (fun _ _ => rfl)) (pe_glob (by rfl) gL (v := .str letters) ⟨_, rfl⟩) (by rfl)))))), ?_⟩
    refine ⟨_, rfl, _, _, _, _, _, rfl, .ty _, dpTy hd, kitD d (by decide), _, rfl, ite2 (fun c => ?_) (fun c => ?_)⟩
    · have e : isName d = false := by
        cases d with
        | str z => exact absurd c (by simp only [isTy, tyN]; decide)
        | _ => rfl
      rw [e] at k
      exact iteT k
    · obtain ⟨z, rfl⟩ : ∃ z, d = .str z := by
        cases d with
        | str z => exact ⟨z, rfl⟩
        | _ => exact absurd (by simp only [isTy, tyN]; decide) c
      cases hd
      have hz := ho z rfl
      have hl : z.length = z.cps.size := rfl
      have ek : isName (.str z) = nameB z := rfl
      rw [ek] at k
      have z1 : z.length ≤ sizeLine := Nat.le_trans hz (by decide)
      have no : ∀ {A : Prop}, (nameB z = false → A) → ¬ (1 ≤ z.cps.size ∧ z.cps.size ≤ 16) → A := fun h n => h (by
        unfold nameB
        by_cases h1 : 1 ≤ z.cps.size
        · rw [decide_eq_false (fun h2 : z.cps.size ≤ 16 => n ⟨h1, h2⟩), Bool.false_and, Bool.and_false]
        · rw [decide_eq_false h1, Bool.false_and])
      have kf : nameB z = false → Q (.bl false) H := fun e => by
        rw [e] at k
        exact k
      refine ⟨_, rfl, z, rfl, z1, _, _, rfl, rfl, _, rfl, ite2 (fun c1 => ⟨_, _, rfl, rfl, _, rfl, ite2 (fun c2 => iteT (no kf fun h => ?_)) (fun c2 => ?_)⟩) (fun c1 => ⟨_, rfl, iteT (iteT (no kf fun h => c1 (decide_eq_true (show (1 : Int) ≤ (z.length : Int) by omega))))⟩)⟩
      · have c2 : decide ((z.length : Int) ≤ 16) = false := Bool.not_eq_true' _ ▸ c2
        have := of_decide_eq_false c2
        omega
      · have c1 : (1 : Int) ≤ (z.length : Int) := of_decide_eq_true c1
        have c2 : (z.length : Int) ≤ 16 := by
          apply Classical.byContradiction
          intro n
          apply c2
          show (!decide ((z.length : Int) ≤ 16)) = true
          rw [decide_eq_false n]
          rfl
        have h1 : 1 ≤ z.cps.size := by omega
        have h2 : z.cps.size ≤ 16 := by omega
        refine ⟨_, rfl, rfl, _, rfl, ite2 (fun c3 => kf ?_) (fun c3 => ?_)⟩
        · have c3 : V.str z = V.str "span" := of_decide_eq_true c3
          injection c3 with c3
          unfold nameB
          rw [decide_eq_true c3]
          simp
        · have c3 : z ≠ "span" := fun e => c3 (decide_eq_true (show V.str z = V.str "span" by rw [e]))
          refine ⟨_, rfl, z, rfl, for_str (x := z) (fun i σ H' => H' = H ∧ (∀ j c, j < i → z.cps[j]? = some c → c ∈ signs.cps.toList) ∧ ∃ u, σ = [some (.str z), u]) ⟨rfl, fun j c h => absurd h (Nat.not_lt_zero _), _, rfl⟩ ?_ ?_⟩
          · rintro i c σ H' hi ⟨rfl, ha, u, rfl⟩
            refine ⟨_, rfl, c, signs, rfl, rfl, _, rfl, ite2 (fun d => kf ?_) (fun d => ?_)⟩
            · have d : decide (c ∈ signs.cps.toList) = false := Bool.not_eq_true' _ ▸ d
              have hm : c ∈ z.cps.toList := Array.mem_toList_iff.mpr (Array.mem_of_getElem? hi)
              have : z.cps.toList.all (fun c => decide (c ∈ signs.cps.toList)) = false := List.all_eq_false.mpr ⟨c, hm, by rw [d]; decide⟩
              unfold nameB
              rw [this]
              simp
            · have d : c ∈ signs.cps.toList := by
                apply Classical.byContradiction
                intro n
                apply d
                show (!decide (c ∈ signs.cps.toList)) = true
                rw [decide_eq_false n]
                rfl
              refine ⟨rfl, fun j c' hj e => ?_, _, rfl⟩
              by_cases hji : j = i
              · subst hji
                rw [hi] at e
                cases e
                exact d
              · exact ha j c' (by omega) e
          · rintro σ H' ⟨rfl, ha, u, rfl⟩
            have hall : z.cps.toList.all (fun c => decide (c ∈ signs.cps.toList)) = true := by
              rw [List.all_eq_true]
              intro c hc
              obtain ⟨j, hj⟩ := List.getElem?_of_mem hc
              have hj' : z.cps[j]? = some c := by rw [← Array.getElem?_toList]; exact hj
              exact decide_eq_true (ha j c (by
                obtain ⟨q, _⟩ := List.getElem?_eq_some_iff.mp hj
                simpa using q) hj')
            have hlen : 0 < z.cps.toList.length := by
              rw [Array.length_toList]
              omega
            cases hL : z.cps.toList with
            | nil =>
              rw [hL] at hlen
              exact absurd hlen (by decide)
            | cons c cs =>
              refine ⟨_, rfl, z, 0, c, rfl, rfl, z1, ?_, c, letters, rfl, rfl, ?_⟩
              · rw [hL]
                exact atI_nat (j := 0) rfl
              · have e : nameB z = decide (c ∈ letters.cps.toList) := by
                  unfold nameB
                  rw [decide_eq_true h1, decide_eq_true h2, decide_eq_false c3, hall, hL]
                  simp
                rw [e] at k
                exact k
end
end K5

set_option Elab.async false
set_option linter.all false
set_option maxRecDepth 100000
set_option maxHeartbeats 4000000
namespace K5
open PySem PySem.Spec PyProof.Rows L2
open K1 (FnP top Nm)
/-! ### tuples of names, entries -/
def areNames (d : PyData) : Bool := match d with
  | .tuple ds => ds.all isName
  | _ => false
def okNs (d : PyData) : Prop := ∀ ds, d = .tuple ds → ds.length ≤ 1000 ∧ ∀ e ∈ ds, okZ e
def isNamesE (d : PyData) : Bool := isMark d "names" 2 && areNames (itemAt d 1)
section
variable {P : Program} {w : World} {K : PySem.W.Frag} {mg : Str → Option Value} {base : Heap}
theorem same_upd' {H0 H : Hp} {p : Addr} {o : HO} (n : H0 p = none) (s : Same H0 H) : Same H0 (upd H p o) := fun b x e => by
  rw [upd_ne (ne_of_none e n)]
  exact s b x e
theorem take_snoc {ds : List PyData} {i : Nat} {e : PyData} (h : ds[i]? = some e) (f : PyData → V) : (ds.take (i + 1)).map f = (ds.take i).map f ++ [f e] := by
  rw [List.take_succ, h, List.map_append]
  rfl
theorem scNames : FnScope ["value", "name"] ["value"] (defScope (top 25)) := ⟨rfl, rfl, rfl, by decide +kernel, rfl, by decide +kernel, by decide +kernel⟩
theorem ok_names {f fN : Addr} {fd dN : FuncData} (F : FnP K "are_names" (top 25) f fd) (N : Nm mg) (hall : mg "all" = none) (d_is_name : D1 P w K mg base "is_name" "value" 1 (spQ K okZ isName) fN dN) : FnOk P w K mg base CX0 2 f fd ["value"] (spQ K okNs areNames) := by
  refine F.ok scNames (fun vs H Q E h => ?_) (fun cdv A outer s H vs Q E hr h => ?_)
  · obtain ⟨v, d, rfl, _⟩ := h
    rfl
  · obtain ⟨v, d, rfl, hd, ho, k⟩ := h
    refine ⟨_, PSs.nox (pss_one (ps_ret (pe_and (pe_callB call_isi (by rfl) N.isi (by decide +kernel) (pa_cons (pv 0) (pa_cons (pe_bltn (v := .ty "tuple") (u := .type "tuple") (by rfl) N.ttup (by decide +kernel) rfl) pa_nil))) (pe_one (pe_callB (cr_all rfl) (by rfl) hall (by decide +kernel) (pa_cons (pe_lc (own := [("name", 1)]) (g := gName 1) (tt := tYes) rfl scNames.nd (pi_tup (pv 0)) (blkOk_by (own := [("name", 1)]) (N := ["value", "name"]) (sc := defScope (top 25)) (by decide +kernel)) (fun _ _ _ _ _ => (pg_name (i := 1) scNames.nd rfl (Or.inl rfl))) (fun _ _ _ _ _ => pts_nil) (fun _ _ _ _ _ => (pe_call d_is_name.G (hr.mono (by decide)) (by rfl) d_is_name.g d_is_name.kp d_is_name.b .nil pass0 (pa_cons (pv 1) pa_nil)))) pa_nil)))))), ?_⟩
    refine ⟨_, rfl, _, _, _, _, _, rfl, .ty _, dpTy hd, kitD d (by decide), _, rfl, ite2 (fun c => ?_) (fun c => ?_)⟩
    · obtain ⟨ds, rfl⟩ := isTy_tup c
      cases hd with
      | @tup p xs _ ht hx =>
        have hl := dpLen hx
        refine ⟨_, rfl, p, rfl, ⟨xs, ht⟩, fun D nD => ?_⟩
        have ln : ∀ i, ((ds.take i).map fun e => V.bl (isName e)).length < sizeLine := fun i => by
          rw [List.length_map, List.length_take]
          exact Nat.lt_of_le_of_lt (Nat.le_trans (Nat.min_le_right _ _) (ho ds rfl).1) (by decide)
        refine lc_tup (K := K) (a := p) (xs := xs) (fun i H' => Same H H' ∧ H' D = some (.lst ((ds.take i).map fun e => V.bl (isName e)))) ⟨same_upd nD, upd_same⟩ (fun i H' _ h => Same.seqT h.1 ht) ?_ ?_
        · rintro i x H2 hi ⟨s2, hD⟩
          have hi' := (List.getElem?_eq_some_iff.mp hi).1
          have he : ds[i]? = some (ds[i]'(by omega)) := List.getElem?_eq_getElem _
          obtain ⟨u, eu, hu⟩ := dpAt i hx he
          rw [hi] at eu
          cases eu
          refine ⟨rfl, iteT (B := Same H H2 ∧ H2 D = some (.lst ((ds.take (i + 1)).map fun e => V.bl (isName e)))) ?_⟩
          refine ⟨_, rfl, x, _, rfl, dpS s2 hu, (ho ds rfl).2 _ (List.getElem_mem _), fun H3 s3 => ⟨_, s3 _ _ hD, ln _, same_upd' nD (s2.trans s3), by rw [upd_same, take_snoc he]⟩⟩
        · rintro H2 ⟨s2, hD⟩
          rw [hl, List.take_length] at hD
          refine ⟨D, ds.map isName, rfl, SqL.of (by rw [List.map_map]; exact hD), bq (A := True) ?_ (k H2 s2)⟩
          show ds.all isName = (ds.map isName).all id
          rw [List.all_map]
          rfl
    · have e : areNames d = false := by
        cases d with
        | tuple ds => exact absurd (show isTy (.tuple ds) "tuple" = true by simp only [isTy, tyN]; decide) c
        | _ => rfl
      exact bq (A := True) e (k H (Same.refl H))
end
end K5

set_option Elab.async false
set_option linter.all false
set_option maxRecDepth 100000
set_option maxHeartbeats 4000000
namespace K5
open PySem PySem.Spec PyProof.Rows L2
open K1 (FnP top Nm)
/-! ### entries within a repeat, a fill, a fit -/
def areInner (d : PyData) : Bool := match d with
  | .tuple ds => ds.all (fun e => isSize e || isNamesE e) && ds.any isSize
  | _ => false
/-- numbers, names, lengths of no great size -/
def okE (d : PyData) : Prop := okB d ∧ okNs (itemAt d 1)
def okIn (d : PyData) : Prop := ∀ ds, d = .tuple ds → ds.length ≤ 1000 ∧ ∀ e ∈ ds, okE e
section
variable {P : Program} {w : World} {K : PySem.W.Frag} {mg : Str → Option Value} {base : Heap}
theorem scNE : FnScope ["value"] ["value"] (defScope (top 49)) := ⟨rfl, rfl, rfl, by decide +kernel, rfl, by decide +kernel, by decide +kernel⟩
theorem ok_namesE {f fM fN : Addr} {fd dM dN : FuncData} (F : FnP K "is_names_entry" (top 49) f fd) (d_is_marked : D3 P w K mg base "is_marked" "value" "word" "many" 2 (spMark K) fM dM) (d_are_names : D1 P w K mg base "are_names" "value" 2 (spQ K okNs areNames) fN dN) : FnOk P w K mg base CX0 3 f fd ["value"] (spQ K okE isNamesE) := by
  refine F.ok scNE (fun vs H Q E h => ?_) (fun cdv A outer s H vs Q E hr h => ?_)
  · obtain ⟨v, d, rfl, _⟩ := h
    rfl
  · obtain ⟨v, d, rfl, hd, ho, k⟩ := h
    refine ⟨_, PSs.nox (pss_one (ps_ret (pe_and (pe_call d_is_marked.G (hr.mono (by decide)) (by rfl) d_is_marked.g d_is_marked.kp d_is_marked.b .nil pass0 (pa_cons (pv 0) (pa_cons pe_str (pa_cons pe_int pa_nil)))) (pe_one (pe_call d_are_names.G (hr.mono (by decide)) (by rfl) d_are_names.g d_are_names.kp d_are_names.b .nil pass0 (pa_cons (pe_ix ix_tup (pv 0) pe_int (fun _ _ => rfl)) pa_nil)))))), ?_⟩
    refine ⟨_, rfl, v, d, "names", 2, rfl, hd, by decide, fun H1 s1 => ⟨_, rfl, ite2 (fun c => ?_) (fun c => ?_)⟩⟩
    · obtain ⟨p, xs, u, rfl, ht, eu, hu⟩ := dpItem (n := 2) (dpS s1 hd) c 1 (by decide)
      refine ⟨_, rfl, p, xs, 1, u, rfl, rfl, ht, atI_nat (j := 1) eu, u, _, rfl, hu, ho.2, fun H2 s2 => bq (A := True) ?_ (k H2 (s1.trans s2))⟩
      show (isMark d "names" 2 && areNames (itemAt d 1)) = _
      rw [c, Bool.true_and]
    · refine bq (A := True) ?_ (k H1 s1)
      show (isMark d "names" 2 && areNames (itemAt d 1)) = _
      rw [Bool.eq_false_iff.mpr c, Bool.false_and]
theorem scIn : FnScope ["value", "entry"] ["value"] (defScope (top 50)) := ⟨rfl, rfl, rfl, by decide +kernel, rfl, by decide +kernel, by decide +kernel⟩
theorem ok_inner {f fS fN : Addr} {fd dS dN : FuncData} (F : FnP K "are_inner_entries" (top 50) f fd) (N : Nm mg) (hany : mg "any" = none) (d_is_size : D1 P w K mg base "is_size" "value" 8 (spQ K okB isSize) fS dS) (d_is_names_entry : D1 P w K mg base "is_names_entry" "value" 3 (spQ K okE isNamesE) fN dN) : FnOk P w K mg base CX0 9 f fd ["value"] (spQ K okIn areInner) := by
  refine F.ok scIn (fun vs H Q E h => ?_) (fun cdv A outer s H vs Q E hr h => ?_)
  · obtain ⟨v, d, rfl, _⟩ := h
    rfl
  · obtain ⟨v, d, rfl, hd, ho, k⟩ := h
    refine ⟨_, PSs.nox (pss_cons (ps_if (pt_not (pt_val (pe_callB call_isi (by rfl) N.isi (by decide +kernel) (pa_cons (pv 0) (pa_cons (pe_bltn (v := .ty "tuple") (u := .type "tuple") (by rfl) N.ttup (by decide +kernel) rfl) pa_nil)))))
    (pss_one (ps_ret pe_bl))
    pss_nil)
  (pss_cons (ps_for PassesOwn.never rfl (pi_tup (pv 0))
    (pg_name (i := 1) scIn.nd rfl (Or.inl rfl))
    (pss_one (ps_if (PW.pt (pw_and (pt_not (pt_val (pe_call d_is_size.G (hr.mono (by decide)) (by rfl) d_is_size.g d_is_size.kp d_is_size.b .nil pass0 (pa_cons (pv 1) pa_nil)))) (pw_and1 (pt_not (pt_val (pe_call d_is_names_entry.G (hr.mono (by decide)) (by rfl) d_is_names_entry.g d_is_names_entry.kp d_is_names_entry.b .nil pass0 (pa_cons (pv 1) pa_nil)))))))
    (pss_one (ps_ret pe_bl))
    pss_nil)))
  (pss_one (ps_ret (pe_callB (cr_any rfl) (by rfl) hany (by decide +kernel) (pa_cons (pe_lc (own := [("entry", 1)]) (g := gName 1) (tt := tYes) rfl scIn.nd (pi_tup (pv 0)) (blkOk_by (own := [("entry", 1)]) (N := ["value", "entry"]) (sc := defScope (top 50)) (by decide +kernel)) (fun _ _ _ _ _ => (pg_name (i := 1) scIn.nd rfl (Or.inl rfl))) (fun _ _ _ _ _ => pts_nil) (fun _ _ _ _ _ => (pe_call d_is_size.G (hr.mono (by decide)) (by rfl) d_is_size.g d_is_size.kp d_is_size.b .nil pass0 (pa_cons (pv 1) pa_nil)))) pa_nil)))))), ?_⟩
    refine ⟨_, rfl, _, _, _, _, _, rfl, .ty _, dpTy hd, kitD d (by decide), _, rfl, ite2 (fun c => ?_) (fun c => ?_)⟩
    · have c : isTy d "tuple" = false := Bool.not_eq_true' _ ▸ c
      have e : areInner d = false := by
        cases d with
        | tuple ds => exact absurd c (by simp only [isTy, tyN]; decide)
        | _ => rfl
      exact bq (A := True) e (k H (Same.refl H))
    · have c : isTy d "tuple" = true := by
        cases h : isTy d "tuple" with
        | true => rfl
        | false =>
          rw [h] at c
          exact absurd rfl c
      obtain ⟨ds, rfl⟩ := isTy_tup c
      cases hd with
      | @tup p xs _ ht hx =>
        have hl := dpLen hx
        have at_ : ∀ i x, xs[i]? = some x → ∃ e, ds[i]? = some e ∧ Dp K H x e ∧ e ∈ ds := fun i x hi => by
          have hi' := (List.getElem?_eq_some_iff.mp hi).1
          have he : ds[i]? = some (ds[i]'(by omega)) := List.getElem?_eq_getElem _
          obtain ⟨u, eu, hu⟩ := dpAt i hx he
          rw [hi] at eu
          cases eu
          exact ⟨_, he, hu, List.getElem_mem _⟩
        have ed : areInner (.tuple ds) = (ds.all (fun e => isSize e || isNamesE e) && ds.any isSize) := rfl
        refine ⟨_, rfl, p, rfl, ⟨xs, ht⟩, for_tup (K := K) (a := p) (xs := xs) (fun i σ H' => Same H H' ∧ (∀ j e, j < i → ds[j]? = some e → (isSize e || isNamesE e) = true) ∧ ∃ u, σ = [some (.ref p), u]) ⟨Same.refl H, fun j e h => absurd h (Nat.not_lt_zero _), _, rfl⟩ (fun i σ H' _ h => Same.seqT h.1 ht) ?_ ?_⟩
        · rintro i x σ H2 hi ⟨s2, ha, u, rfl⟩
          obtain ⟨e, he, hu, hm⟩ := at_ i x hi
          have oe := (ho ds rfl).2 e hm
          have next : ∀ H', Same H H' → (isSize e || isNamesE e) = true → Same H H' ∧ (∀ j e, j < i + 1 → ds[j]? = some e → (isSize e || isNamesE e) = true) ∧ ∃ u', [some (V.ref p), some x] = [some (.ref p), u'] := fun H' s' h => ⟨s', fun j e' hj e'' => by
            by_cases hji : j = i
            · subst hji
              rw [he] at e''
              cases e''
              exact h
            · exact ha j e' (by omega) e'', _, rfl⟩
          refine ⟨_, rfl, x, e, rfl, dpS s2 hu, oe.1, fun H3 s3 => ⟨_, rfl, ite2 (fun c2 => ?_) (fun c2 => ?_)⟩⟩
          · have c2 : isSize e = false := Bool.not_eq_true' _ ▸ c2
            refine ⟨_, rfl, x, e, rfl, dpS (s2.trans s3) hu, oe, fun H4 s4 => ⟨_, rfl, ite2 (fun c3 => ?_) (fun c3 => ?_)⟩⟩
            · have c3 : isNamesE e = false := Bool.not_eq_true' _ ▸ c3
              refine bq (A := True) ?_ (k H4 ((s2.trans s3).trans s4))
              rw [ed, List.all_eq_false.mpr ⟨e, hm, by rw [c2, c3]; decide⟩, Bool.false_and]
            · refine next _ ((s2.trans s3).trans s4) ?_
              cases h : isNamesE e with
              | true => rw [Bool.or_true]
              | false =>
                rw [h] at c3
                exact absurd rfl c3
          · refine iteF (next _ (s2.trans s3) ?_)
            cases h : isSize e with
            | true => rw [Bool.true_or]
            | false =>
              rw [h] at c2
              exact absurd rfl c2
        · rintro σ H2 ⟨s2, ha, u, rfl⟩
          have hall : ds.all (fun e => isSize e || isNamesE e) = true := by
            rw [List.all_eq_true]
            intro e he
            obtain ⟨j, hj⟩ := List.getElem?_of_mem he
            exact ha j e (by
              have := (List.getElem?_eq_some_iff.mp hj).1
              omega) hj
          refine ⟨_, rfl, p, rfl, ⟨xs, Same.seqT s2 ht⟩, fun D nD => ?_⟩
          have ln : ∀ i, ((ds.take i).map fun e => V.bl (isSize e)).length < sizeLine := fun i => by
            rw [List.length_map, List.length_take]
            exact Nat.lt_of_le_of_lt (Nat.le_trans (Nat.min_le_right _ _) (ho ds rfl).1) (by decide)
          refine lc_tup (K := K) (a := p) (xs := xs) (fun i H' => Same H2 H' ∧ H' D = some (.lst ((ds.take i).map fun e => V.bl (isSize e)))) ⟨same_upd nD, upd_same⟩ (fun i H' _ h => Same.seqT (s2.trans h.1) ht) ?_ ?_
          · rintro i x H3 hi ⟨s3, hD⟩
            obtain ⟨e, he, hu, hm⟩ := at_ i x hi
            refine ⟨rfl, iteT (B := Same H2 H3 ∧ H3 D = some (.lst ((ds.take (i + 1)).map fun e => V.bl (isSize e)))) ?_⟩
            exact ⟨_, rfl, x, e, rfl, dpS (s2.trans s3) hu, ((ho ds rfl).2 e hm).1, fun H4 s4 => ⟨_, s4 _ _ hD, ln _, same_upd' nD (s3.trans s4), by rw [upd_same, take_snoc he]⟩⟩
          · rintro H3 ⟨s3, hD⟩
            rw [hl, List.take_length] at hD
            refine ⟨D, ds.map isSize, rfl, SqL.of (by rw [List.map_map]; exact hD), bq (A := True) ?_ (k H3 (s2.trans s3))⟩
            rw [ed, hall, Bool.true_and, List.any_map]
            rfl
end
end K5

set_option Elab.async false
set_option linter.all false
set_option maxRecDepth 100000
set_option maxHeartbeats 4000000
namespace K5
open PySem PySem.Spec PyProof.Rows L2
open K1 (FnP top Nm)
/-! ### repeats, fills and fits, entries -/
def isRepeat (d : PyData) : Bool := isMark d "repeat" 3 && (isInt (itemAt d 1) && ((decide (1 ≤ topOf (itemAt d 1)) && decide (topOf (itemAt d 1) ≤ 20)) && areInner (itemAt d 2)))
def isFill (d : PyData) : Bool := (isMark d "fill" 2 || isMark d "fit" 2) && areInner (itemAt d 1)
def isEntry (d : PyData) : Bool := isSize d || (isNamesE d || (isRepeat d || isFill d))
def okR (d : PyData) : Prop := okE d ∧ okIn (itemAt d 1) ∧ okIn (itemAt d 2)
theorem fB {b : Bool} (c : ¬ (!b) = true) : b = true := by
  cases b with
  | true => rfl
  | false => exact absurd rfl c
theorem tB {b : Bool} (c : (!b) = true) : b = false := by
  cases b with
  | false => rfl
  | true => exact absurd c Bool.false_ne_true
section
variable {P : Program} {w : World} {K : PySem.W.Frag} {mg : Str → Option Value} {base : Heap}
theorem scRep : FnScope ["value"] ["value"] (defScope (top 51)) := ⟨rfl, rfl, rfl, by decide +kernel, rfl, by decide +kernel, by decide +kernel⟩
theorem ok_repeat {f fM fI fA : Addr} {fd dM dI dA : FuncData} {tk : Tok} (F : FnP K "is_repeat" (top 51) f fd) (gM : mg "MOST_REPEATS" = some (.int 20 tk)) (d_is_marked : D3 P w K mg base "is_marked" "value" "word" "many" 2 (spMark K) fM dM) (d_is_integer : D1 P w K mg base "is_integer" "value" 1 (spQ K any isInt) fI dI) (d_are_inner_entries : D1 P w K mg base "are_inner_entries" "value" 9 (spQ K okIn areInner) fA dA) :
    FnOk P w K mg base CX0 10 f fd ["value"] (spQ K okR isRepeat) := by
  refine F.ok scRep (fun vs H Q E h => ?_) (fun cdv A outer s H vs Q E hr h => ?_)
  · obtain ⟨v, d, rfl, _⟩ := h
    rfl
  · obtain ⟨v, d, rfl, hd, ho, k⟩ := h
    refine ⟨_, PSs.nox (pss_cons (ps_if (PW.pt (pw_or (pt_not (pt_val (pe_call d_is_marked.G (hr.mono (by decide)) (by rfl) d_is_marked.g d_is_marked.kp d_is_marked.b .nil pass0 (pa_cons (pv 0) (pa_cons pe_str (pa_cons pe_int pa_nil)))))) (pw_or1 (pt_not (pt_val (pe_call d_is_integer.G (hr.mono (by decide)) (by rfl) d_is_integer.g d_is_integer.kp d_is_integer.b .nil pass0 (pa_cons (pe_ix ix_tup (pv 0) pe_int (fun _ _ => rfl)) pa_nil)))))))
    (pss_one (ps_ret pe_bl))
    pss_nil)
  (pss_one (ps_ret (pe_and (pe_chain op_le op_le pe_int (pe_ix ix_tup (pv 0) pe_int (fun _ _ => rfl)) (pe_glob (by rfl) gM (v := .int 20) ⟨_, rfl⟩)) (pe_one (pe_call d_are_inner_entries.G (hr.mono (by decide)) (by rfl) d_are_inner_entries.g d_are_inner_entries.kp d_are_inner_entries.b .nil pass0 (pa_cons (pe_ix ix_tup (pv 0) pe_int (fun _ _ => rfl)) pa_nil))))))), ?_⟩
    have ed : isRepeat d = (isMark d "repeat" 3 && (isInt (itemAt d 1) && ((decide (1 ≤ topOf (itemAt d 1)) && decide (topOf (itemAt d 1) ≤ 20)) && areInner (itemAt d 2)))) := rfl
    refine ⟨_, rfl, v, d, "repeat", 3, rfl, hd, by decide, fun H1 s1 => ⟨_, rfl, ite2 (fun c => ?_) (fun c => ?_)⟩⟩
    · exact iteT (bq (A := True) (by rw [ed, tB c, Bool.false_and]) (k H1 s1))
    · have c := fB c
      obtain ⟨p, xs, u, rfl, ht, eu, hu⟩ := dpItem (n := 3) (dpS s1 hd) c 1 (by decide)
      obtain ⟨p', xs', u2, e2, ht', eu2, hu2⟩ := dpItem (n := 3) (dpS s1 hd) c 2 (by decide)
      cases e2
      refine ⟨_, rfl, p, xs, 1, u, rfl, rfl, ht, atI_nat (j := 1) eu, u, _, rfl, hu, trivial, fun H2 s2 => ⟨_, rfl, ite2 (fun c2 => ?_) (fun c2 => ?_)⟩⟩
      · exact bq (A := True) (by rw [ed, c, tB c2, Bool.false_and, Bool.and_false]) (k H2 (s1.trans s2))
      · have c2 := fB c2
        obtain ⟨n, en⟩ := isInt_of c2
        rw [en] at hu
        cases hu
        have et : topOf (itemAt d 1) = n := by rw [en]; rfl
        have s12 := s1.trans s2
        refine ⟨_, rfl, p, xs, 1, _, rfl, rfl, Same.seqT s2 ht, atI_nat (j := 1) eu, _, _, rfl, rfl, _, rfl, ite2 (fun c3 => ⟨_, _, rfl, rfl, _, rfl, ite2 (fun c4 => ?_) (fun c4 => ?_)⟩) (fun c3 => ?_)⟩
        · refine ⟨_, rfl, p, xs', 2, u2, rfl, rfl, Same.seqT s2 ht', atI_nat (j := 2) eu2, u2, _, rfl, dpS s2 hu2, ho.2.2, fun H3 s3 => bq (A := True) ?_ (k H3 (s12.trans s3))⟩
          have c3 : 1 ≤ n := of_decide_eq_true c3
          have c4 : n ≤ 20 := of_decide_eq_true c4
          rw [ed, c, c2, et, decide_eq_true c3, decide_eq_true c4]
          rfl
        · refine bq (A := True) ?_ (k H2 s12)
          rw [ed, c, c2, et, decide_eq_false (fun z => c4 (decide_eq_true z)), Bool.and_false, Bool.false_and]
          rfl
        · refine ⟨_, rfl, iteF (bq (A := True) ?_ (k H2 s12))⟩
          rw [ed, c, c2, et, decide_eq_false (fun z => c3 (decide_eq_true z)), Bool.false_and, Bool.false_and]
          rfl
theorem scFill : FnScope ["value"] ["value"] (defScope (top 52)) := ⟨rfl, rfl, rfl, by decide +kernel, rfl, by decide +kernel, by decide +kernel⟩
theorem ok_filler {f fM fA : Addr} {fd dM dA : FuncData} (F : FnP K "is_filler" (top 52) f fd) (d_is_marked : D3 P w K mg base "is_marked" "value" "word" "many" 2 (spMark K) fM dM) (d_are_inner_entries : D1 P w K mg base "are_inner_entries" "value" 9 (spQ K okIn areInner) fA dA) :
    FnOk P w K mg base CX0 10 f fd ["value"] (spQ K okR isFill) := by
  refine F.ok scFill (fun vs H Q E h => ?_) (fun cdv A outer s H vs Q E hr h => ?_)
  · obtain ⟨v, d, rfl, _⟩ := h
    rfl
  · obtain ⟨v, d, rfl, hd, ho, k⟩ := h
    refine ⟨_, PSs.nox (pss_one (ps_ret (pe_and (pe_or (pe_call d_is_marked.G (hr.mono (by decide)) (by rfl) d_is_marked.g d_is_marked.kp d_is_marked.b .nil pass0 (pa_cons (pv 0) (pa_cons pe_str (pa_cons pe_int pa_nil)))) (pe_one (pe_call d_is_marked.G (hr.mono (by decide)) (by rfl) d_is_marked.g d_is_marked.kp d_is_marked.b .nil pass0 (pa_cons (pv 0) (pa_cons pe_str (pa_cons pe_int pa_nil)))))) (pe_one (pe_call d_are_inner_entries.G (hr.mono (by decide)) (by rfl) d_are_inner_entries.g d_are_inner_entries.kp d_are_inner_entries.b .nil pass0 (pa_cons (pe_ix ix_tup (pv 0) pe_int (fun _ _ => rfl)) pa_nil)))))), ?_⟩
    have ed : isFill d = ((isMark d "fill" 2 || isMark d "fit" 2) && areInner (itemAt d 1)) := rfl
    have go : ∀ H1, Same H H1 → (∃ z : Str, isMark d z 2 = true) → (isMark d "fill" 2 || isMark d "fit" 2) = true → ∃ p xs u, v = .ref p ∧ SqT K H1 p xs ∧ xs[1]? = some u ∧ Dp K H1 u (itemAt d 1) := fun H1 s1 ⟨z, hz⟩ _ => dpItem (n := 2) (dpS s1 hd) hz 1 (by decide)
    refine ⟨_, rfl, v, d, "fill", 2, rfl, hd, by decide, fun H1 s1 => ⟨_, rfl, ite2 (fun c => ?_) (fun c => ?_)⟩⟩
    · have e : (isMark d "fill" 2 || isMark d "fit" 2) = true := by rw [c, Bool.true_or]
      obtain ⟨p, xs, u, rfl, ht, eu, hu⟩ := go H1 s1 ⟨_, c⟩ e
      exact ⟨_, rfl, iteT ⟨_, rfl, p, xs, 1, u, rfl, rfl, ht, atI_nat (j := 1) eu, u, _, rfl, hu, ho.2.1, fun H2 s2 => bq (A := True) (by rw [ed, e, Bool.true_and]) (k H2 (s1.trans s2))⟩⟩
    · refine ⟨_, rfl, v, d, "fit", 2, rfl, dpS s1 hd, by decide, fun H2 s2 => ⟨_, rfl, ite2 (fun c2 => ?_) (fun c2 => ?_)⟩⟩
      · have e : (isMark d "fill" 2 || isMark d "fit" 2) = true := by rw [c2, Bool.or_true]
        obtain ⟨p, xs, u, rfl, ht, eu, hu⟩ := go H2 (s1.trans s2) ⟨_, c2⟩ e
        exact ⟨_, rfl, p, xs, 1, u, rfl, rfl, ht, atI_nat (j := 1) eu, u, _, rfl, hu, ho.2.1, fun H3 s3 => bq (A := True) (by rw [ed, e, Bool.true_and]) (k H3 ((s1.trans s2).trans s3))⟩
      · refine bq (A := True) ?_ (k H2 (s1.trans s2))
        rw [ed, Bool.eq_false_iff.mpr c, Bool.eq_false_iff.mpr c2]
        rfl
theorem scEnt : FnScope ["value"] ["value"] (defScope (top 53)) := ⟨rfl, rfl, rfl, by decide +kernel, rfl, by decide +kernel, by decide +kernel⟩
theorem ok_entry {f f1 f2 f3 f4 : Addr} {fd d1 d2 d3 d4 : FuncData} (F : FnP K "is_entry" (top 53) f fd) (d_is_size : D1 P w K mg base "is_size" "value" 8 (spQ K okB isSize) f1 d1) (d_is_names_entry : D1 P w K mg base "is_names_entry" "value" 3 (spQ K okE isNamesE) f2 d2) (d_is_repeat : D1 P w K mg base "is_repeat" "value" 10 (spQ K okR isRepeat) f3 d3) (d_is_filler : D1 P w K mg base "is_filler" "value" 10 (spQ K okR isFill) f4 d4) :
    FnOk P w K mg base CX0 11 f fd ["value"] (spQ K okR isEntry) := by
  refine F.ok scEnt (fun vs H Q E h => ?_) (fun cdv A outer s H vs Q E hr h => ?_)
  · obtain ⟨v, d, rfl, _⟩ := h
    rfl
  · obtain ⟨v, d, rfl, hd, ho, k⟩ := h
    refine ⟨_, PSs.nox (pss_one (ps_ret (pe_or (pe_call d_is_size.G (hr.mono (by decide)) (by rfl) d_is_size.g d_is_size.kp d_is_size.b .nil pass0 (pa_cons (pv 0) pa_nil)) (pe_or (pe_call d_is_names_entry.G (hr.mono (by decide)) (by rfl) d_is_names_entry.g d_is_names_entry.kp d_is_names_entry.b .nil pass0 (pa_cons (pv 0) pa_nil)) (pe_or (pe_call d_is_repeat.G (hr.mono (by decide)) (by rfl) d_is_repeat.g d_is_repeat.kp d_is_repeat.b .nil pass0 (pa_cons (pv 0) pa_nil)) (pe_one (pe_call d_is_filler.G (hr.mono (by decide)) (by rfl) d_is_filler.g d_is_filler.kp d_is_filler.b .nil pass0 (pa_cons (pv 0) pa_nil)))))))), ?_⟩
    have ed : isEntry d = (isSize d || (isNamesE d || (isRepeat d || isFill d))) := rfl
    refine ⟨_, rfl, v, d, rfl, hd, ho.1.1, fun H1 s1 => ⟨_, rfl, ite2 (fun c => bq (A := True) (by rw [ed, c, Bool.true_or]) (k H1 s1)) (fun c => ?_)⟩⟩
    refine ⟨_, rfl, v, d, rfl, dpS s1 hd, ho.1, fun H2 s2 => ⟨_, rfl, ite2 (fun c2 => bq (A := True) (by rw [ed, c2, Bool.true_or, Bool.or_true]) (k H2 (s1.trans s2))) (fun c2 => ?_)⟩⟩
    have s12 := s1.trans s2
    refine ⟨_, rfl, v, d, rfl, dpS s12 hd, ho, fun H3 s3 => ⟨_, rfl, ite2 (fun c3 => bq (A := True) (by rw [ed, c3, Bool.true_or, Bool.or_true, Bool.or_true]) (k H3 (s12.trans s3))) (fun c3 => ?_)⟩⟩
    have s13 := s12.trans s3
    exact ⟨_, rfl, v, d, rfl, dpS s13 hd, ho, fun H4 s4 => bq (A := True) (by rw [ed, Bool.eq_false_iff.mpr c, Bool.eq_false_iff.mpr c2, Bool.eq_false_iff.mpr c3]; rfl) (k H4 (s13.trans s4))⟩
end
end K5

set_option Elab.async false
set_option linter.all false
set_option maxRecDepth 100000
set_option maxHeartbeats 4000000
namespace K5
open PySem PySem.Spec PyProof.Rows L2
open K1 (FnP top Nm)
/-! ### lows and highs -/
def lowOf (d : PyData) : PyData := if isBetw d = true then itemAt d 1 else if (isShare d || isUpto d) = true then .str "auto" else d
def highOf (d : PyData) : PyData := if isBetw d = true then itemAt d 2 else if isUpto d = true then .str "most" else d
def mayFill (d : PyData) : Bool := isFixed (lowOf d) || isFixed (highOf d)
section
variable {P : Program} {w : World} {K : PySem.W.Frag} {mg : Str → Option Value} {base : Heap}
/-- a value of a value -/
def spV (K : PySem.W.Frag) (ok : PyData → Prop) (f : PyData → PyData) : Sp := fun vs H Q _ => ∃ (v : V) (d : PyData), vs = [v] ∧ Dp K H v d ∧ ok d ∧ ∀ H' u, Same H H' → Dp K H' u (f d) → Q u H'
theorem betw_mark {d : PyData} (h : isBetw d = true) : isMark d "between" ((3 : Nat) : Int) = true := (Bool.and_eq_true_iff.mp h).1
theorem scLow : FnScope ["size"] ["size"] (defScope (top 47)) := ⟨rfl, rfl, rfl, by decide +kernel, rfl, by decide +kernel, by decide +kernel⟩
theorem ok_low {f f1 f2 f3 : Addr} {fd d1 d2 d3 : FuncData} (F : FnP K "low_of" (top 47) f fd) (d_is_between : D1 P w K mg base "is_between" "value" 7 (spQ K okB isBetw) f1 d1) (d_is_share : D1 P w K mg base "is_share" "value" 4 (spQ K okS isShare) f2 d2) (d_is_upto : D1 P w K mg base "is_upto" "value" 6 (spQ K okB isUpto) f3 d3) : FnOk P w K mg base CX0 8 f fd ["size"] (spV K okB lowOf) := by
  refine F.ok scLow (fun vs H Q E h => ?_) (fun cdv A outer s H vs Q E hr h => ?_)
  · obtain ⟨v, d, rfl, _⟩ := h
    rfl
  · obtain ⟨v, d, rfl, hd, ho, k⟩ := h
    refine ⟨_, PSs.nox (pss_cons (ps_if (pt_val (pe_call d_is_between.G (hr.mono (by decide)) (by rfl) d_is_between.g d_is_between.kp d_is_between.b .nil pass0 (pa_cons (pv 0) pa_nil)))
    (pss_one (ps_ret (pe_ix ix_tup (pv 0) pe_int (fun _ _ => rfl))))
    pss_nil)
  (pss_cons (ps_if (PW.pt (pw_or (pt_val (pe_call d_is_share.G (hr.mono (by decide)) (by rfl) d_is_share.g d_is_share.kp d_is_share.b .nil pass0 (pa_cons (pv 0) pa_nil))) (pw_or1 (pt_val (pe_call d_is_upto.G (hr.mono (by decide)) (by rfl) d_is_upto.g d_is_upto.kp d_is_upto.b .nil pass0 (pa_cons (pv 0) pa_nil))))))
    (pss_one (ps_ret pe_str))
    pss_nil)
  (pss_one (ps_ret (pv 0))))), ?_⟩
    refine ⟨_, rfl, v, d, rfl, hd, ho, fun H1 s1 => ⟨_, rfl, ite2 (fun c => ?_) (fun c => ?_)⟩⟩
    · obtain ⟨p, xs, u, rfl, ht, eu, hu⟩ := dpItem (n := 3) (dpS s1 hd) (betw_mark c) 1 (by decide)
      refine ⟨_, rfl, p, xs, 1, u, rfl, rfl, ht, atI_nat (j := 1) eu, k H1 u s1 ?_⟩
      unfold lowOf
      rw [if_pos c]
      exact hu
    · have fin : ∀ H', Same H H' → (isShare d || isUpto d) = true → Q (.str "auto") H' := fun H' s' e => k H' _ s' (by
        unfold lowOf
        rw [if_neg c, if_pos e]
        exact .str _)
      refine ⟨_, rfl, v, d, rfl, dpS s1 hd, ho.1, fun H2 s2 => ⟨_, rfl, ite2 (fun c2 => iteT (fin H2 (s1.trans s2) (by rw [c2, Bool.true_or]))) (fun c2 => ?_)⟩⟩
      have s12 := s1.trans s2
      refine ⟨_, rfl, v, d, rfl, dpS s12 hd, ho, fun H3 s3 => ⟨_, rfl, ite2 (fun c3 => fin H3 (s12.trans s3) (by rw [c3, Bool.or_true])) (fun c3 => ?_)⟩⟩
      refine ⟨_, rfl, k H3 v (s12.trans s3) ?_⟩
      unfold lowOf
      rw [if_neg c, if_neg (by rw [Bool.eq_false_iff.mpr c2, Bool.eq_false_iff.mpr c3]; decide)]
      exact dpS (s12.trans s3) hd
theorem scHigh : FnScope ["size"] ["size"] (defScope (top 48)) := ⟨rfl, rfl, rfl, by decide +kernel, rfl, by decide +kernel, by decide +kernel⟩
theorem ok_high {f f1 f3 : Addr} {fd d1 d3 : FuncData} (F : FnP K "high_of" (top 48) f fd) (d_is_between : D1 P w K mg base "is_between" "value" 7 (spQ K okB isBetw) f1 d1) (d_is_upto : D1 P w K mg base "is_upto" "value" 6 (spQ K okB isUpto) f3 d3) : FnOk P w K mg base CX0 8 f fd ["size"] (spV K okB highOf) := by
  refine F.ok scHigh (fun vs H Q E h => ?_) (fun cdv A outer s H vs Q E hr h => ?_)
  · obtain ⟨v, d, rfl, _⟩ := h
    rfl
  · obtain ⟨v, d, rfl, hd, ho, k⟩ := h
    refine ⟨_, PSs.nox (pss_cons (ps_if (pt_val (pe_call d_is_between.G (hr.mono (by decide)) (by rfl) d_is_between.g d_is_between.kp d_is_between.b .nil pass0 (pa_cons (pv 0) pa_nil)))
    (pss_one (ps_ret (pe_ix ix_tup (pv 0) pe_int (fun _ _ => rfl))))
    pss_nil)
  (pss_cons (ps_if (pt_val (pe_call d_is_upto.G (hr.mono (by decide)) (by rfl) d_is_upto.g d_is_upto.kp d_is_upto.b .nil pass0 (pa_cons (pv 0) pa_nil)))
    (pss_one (ps_ret pe_str))
    pss_nil)
  (pss_one (ps_ret (pv 0))))), ?_⟩
    refine ⟨_, rfl, v, d, rfl, hd, ho, fun H1 s1 => ⟨_, rfl, ite2 (fun c => ?_) (fun c => ?_)⟩⟩
    · obtain ⟨p, xs, u, rfl, ht, eu, hu⟩ := dpItem (n := 3) (dpS s1 hd) (betw_mark c) 2 (by decide)
      refine ⟨_, rfl, p, xs, 2, u, rfl, rfl, ht, atI_nat (j := 2) eu, k H1 u s1 ?_⟩
      unfold highOf
      rw [if_pos c]
      exact hu
    · refine ⟨_, rfl, v, d, rfl, dpS s1 hd, ho, fun H3 s3 => ⟨_, rfl, ite2 (fun c3 => k H3 _ (s1.trans s3) ?_) (fun c3 => ⟨_, rfl, k H3 v (s1.trans s3) ?_⟩)⟩⟩
      · unfold highOf
        rw [if_neg c, if_pos c3]
        exact .str _
      · unfold highOf
        rw [if_neg c, if_neg c3]
        exact dpS (s1.trans s3) hd
theorem okS_str (z : Str) : okS (.str z) := ⟨fun h => (nomatch h), fun i h => (nomatch h)⟩
theorem okS_low {d : PyData} (h : okB d) : okS (lowOf d) := by
  unfold lowOf
  split
  · exact h.2 1
  · split
    · exact okS_str _
    · exact h.1
theorem okS_high {d : PyData} (h : okB d) : okS (highOf d) := by
  unfold highOf
  split
  · exact h.2 2
  · split
    · exact okS_str _
    · exact h.1
theorem scMay : FnScope ["size"] ["size"] (defScope (top 55)) := ⟨rfl, rfl, rfl, by decide +kernel, rfl, by decide +kernel, by decide +kernel⟩
theorem ok_may {f f1 f2 f3 : Addr} {fd d1 d2 d3 : FuncData} (F : FnP K "may_be_filled" (top 55) f fd) (d_is_fixed : D1 P w K mg base "is_fixed" "value" 5 (spQ K okS isFixed) f1 d1) (d_low_of : D1 P w K mg base "low_of" "size" 8 (spV K okB lowOf) f2 d2) (d_high_of : D1 P w K mg base "high_of" "size" 8 (spV K okB highOf) f3 d3) : FnOk P w K mg base CX0 9 f fd ["size"] (spQ K okB mayFill) := by
  refine F.ok scMay (fun vs H Q E h => ?_) (fun cdv A outer s H vs Q E hr h => ?_)
  · obtain ⟨v, d, rfl, _⟩ := h
    rfl
  · obtain ⟨v, d, rfl, hd, ho, k⟩ := h
    refine ⟨_, PSs.nox (pss_one (ps_ret (pe_or (pe_call d_is_fixed.G (hr.mono (by decide)) (by rfl) d_is_fixed.g d_is_fixed.kp d_is_fixed.b .nil pass0 (pa_cons (pe_call d_low_of.G (hr.mono (by decide)) (by rfl) d_low_of.g d_low_of.kp d_low_of.b .nil pass0 (pa_cons (pv 0) pa_nil)) pa_nil)) (pe_one (pe_call d_is_fixed.G (hr.mono (by decide)) (by rfl) d_is_fixed.g d_is_fixed.kp d_is_fixed.b .nil pass0 (pa_cons (pe_call d_high_of.G (hr.mono (by decide)) (by rfl) d_high_of.g d_high_of.kp d_high_of.b .nil pass0 (pa_cons (pv 0) pa_nil)) pa_nil)))))), ?_⟩
    have ed : mayFill d = (isFixed (lowOf d) || isFixed (highOf d)) := rfl
    refine ⟨_, rfl, v, d, rfl, hd, ho, fun H1 u s1 hu => ⟨u, _, rfl, hu, okS_low ho, fun H2 s2 => ⟨_, rfl, ite2 (fun c => bq (A := True) (by rw [ed, c, Bool.true_or]) (k H2 (s1.trans s2))) (fun c => ?_)⟩⟩⟩
    have s12 := s1.trans s2
    exact ⟨_, rfl, v, d, rfl, dpS s12 hd, ho, fun H3 u3 s3 hu3 => ⟨u3, _, rfl, hu3, okS_high ho, fun H4 s4 => bq (A := True) (by rw [ed, Bool.eq_false_iff.mpr c, Bool.false_or]) (k H4 ((s12.trans s3).trans s4))⟩⟩
end
end K5

set_option Elab.async false
set_option linter.all false
set_option maxRecDepth 100000
set_option maxHeartbeats 4000000
namespace K5
open PySem PySem.Spec PyProof.Rows L2
open K1 (FnP top Nm)
/-! ### inherited templates -/
def itemsOf : PyData → List PyData
  | .tuple ds => ds
  | _ => []
def isInh (d : PyData) : Bool := isMark d "inherited" 2 && (isTy (itemAt d 1) "tuple" && (decide ((itemsOf (itemAt d 1)).length ≤ 40) && (itemsOf (itemAt d 1)).all areNames))
def okInh (d : PyData) : Prop := ∀ ds, itemAt d 1 = .tuple ds → ds.length ≤ 1000 ∧ ∀ e ∈ ds, okNs e
section
variable {P : Program} {w : World} {K : PySem.W.Frag} {mg : Str → Option Value} {base : Heap}
theorem scInh : FnScope ["value", "names"] ["value"] (defScope (top 57)) := ⟨rfl, rfl, rfl, by decide +kernel, rfl, by decide +kernel, by decide +kernel⟩
theorem ok_inh {f fM fN : Addr} {fd dM dN : FuncData} {tk : Tok} (F : FnP K "is_inherited" (top 57) f fd) (N : Nm mg) (hall : mg "all" = none) (gM : mg "MOST_INHERITED_NAMES" = some (.int 40 tk)) (d_is_marked : D3 P w K mg base "is_marked" "value" "word" "many" 2 (spMark K) fM dM) (d_are_names : D1 P w K mg base "are_names" "value" 2 (spQ K okNs areNames) fN dN) :
    FnOk P w K mg base CX0 3 f fd ["value"] (spQ K okInh isInh) := by
  refine F.ok scInh (fun vs H Q E h => ?_) (fun cdv A outer s H vs Q E hr h => ?_)
  · obtain ⟨v, d, rfl, _⟩ := h
    rfl
  · obtain ⟨v, d, rfl, hd, ho, k⟩ := h
    refine ⟨_, PSs.nox (pss_cons (ps_if (PW.pt (pw_or (pt_not (pt_val (pe_call d_is_marked.G (hr.mono (by decide)) (by rfl) d_is_marked.g d_is_marked.kp d_is_marked.b .nil pass0 (pa_cons (pv 0) (pa_cons pe_str (pa_cons pe_int pa_nil)))))) (pw_or1 (pt_not (pt_val (pe_callB call_isi (by rfl) N.isi (by decide +kernel) (pa_cons (pe_ix ix_tup (pv 0) pe_int (fun _ _ => rfl)) (pa_cons (pe_bltn (v := .ty "tuple") (u := .type "tuple") (by rfl) N.ttup (by decide +kernel) rfl) pa_nil))))))))
    (pss_one (ps_ret pe_bl))
    pss_nil)
  (pss_one (ps_ret (pe_and (pe_cmpR op_le (pe_callB call_len_seq (by rfl) N.len PySem.boot_len (pa_cons (pe_ix ix_tup (pv 0) pe_int (fun _ _ => rfl)) pa_nil)) (pe_glob (by rfl) gM (v := .int 40) ⟨_, rfl⟩) (nomark _)) (pe_one (pe_callB (cr_all rfl) (by rfl) hall (by decide +kernel) (pa_cons (pe_lc (own := [("names", 1)]) (g := gName 1) (tt := tYes) rfl scInh.nd (pi_tup (pe_ix ix_tup (pv 0) pe_int (fun _ _ => rfl))) (blkOk_by (own := [("names", 1)]) (N := ["value", "names"]) (sc := defScope (top 57)) (by decide +kernel)) (fun _ _ _ _ _ => (pg_name (i := 1) scInh.nd rfl (Or.inl rfl))) (fun _ _ _ _ _ => pts_nil) (fun _ _ _ _ _ => (pe_call d_are_names.G (hr.mono (by decide)) (by rfl) d_are_names.g d_are_names.kp d_are_names.b .nil pass0 (pa_cons (pv 1) pa_nil)))) pa_nil))))))), ?_⟩
    have ed : isInh d = (isMark d "inherited" 2 && (isTy (itemAt d 1) "tuple" && (decide ((itemsOf (itemAt d 1)).length ≤ 40) && (itemsOf (itemAt d 1)).all areNames))) := rfl
    refine ⟨_, rfl, v, d, "inherited", 2, rfl, hd, by decide, fun H1 s1 => ⟨_, rfl, ite2 (fun c => ?_) (fun c => ?_)⟩⟩
    · exact iteT (bq (A := True) (by rw [ed, tB c, Bool.false_and]) (k H1 s1))
    · have c := fB c
      obtain ⟨p, xs, u, rfl, ht, eu, hu⟩ := dpItem (n := 2) (dpS s1 hd) c 1 (by decide)
      refine ⟨_, rfl, p, xs, 1, u, rfl, rfl, ht, atI_nat (j := 1) eu, _, _, _, _, _, rfl, .ty _, dpTy hu, kitD _ (by decide), _, rfl, ite2 (fun c2 => ?_) (fun c2 => ?_)⟩
      · exact bq (A := True) (by rw [ed, c, tB c2, Bool.false_and, Bool.and_false]) (k H1 s1)
      · have c2 := fB c2
        obtain ⟨ds, eds⟩ := isTy_tup c2
        have hoo := ho ds eds
        rw [eds] at hu
        have ei : itemsOf (itemAt d 1) = ds := by rw [eds]; rfl
        cases hu with
        | @tup q ys _ hq hy =>
          have hl := dpLen hy
          refine ⟨_, rfl, p, xs, 1, _, rfl, rfl, ht, atI_nat (j := 1) eu, q, _, rfl, .inr hq, _, _, rfl, rfl, _, rfl, ite2 (fun c3 => ?_) (fun c3 => ?_)⟩
          · have c3 : ((ys.length : Nat) : Int) ≤ 40 := of_decide_eq_true c3
            refine ⟨_, rfl, p, xs, 1, _, rfl, rfl, ht, atI_nat (j := 1) eu, q, rfl, ⟨ys, hq⟩, fun D nD => ?_⟩
            have ln : ∀ i, ((ds.take i).map fun e => V.bl (areNames e)).length < sizeLine := fun i => by
              rw [List.length_map, List.length_take]
              exact Nat.lt_of_le_of_lt (Nat.le_trans (Nat.min_le_right _ _) hoo.1) (by decide)
            refine lc_tup (K := K) (a := q) (xs := ys) (fun i H' => Same H1 H' ∧ H' D = some (.lst ((ds.take i).map fun e => V.bl (areNames e)))) ⟨same_upd nD, upd_same⟩ (fun i H' _ h => Same.seqT h.1 hq) ?_ ?_
            · rintro i x H2 hi ⟨s2, hD⟩
              have hi' := (List.getElem?_eq_some_iff.mp hi).1
              have he : ds[i]? = some (ds[i]'(by omega)) := List.getElem?_eq_getElem _
              obtain ⟨u, eu', hu⟩ := dpAt i hy he
              rw [hi] at eu'
              cases eu'
              refine ⟨rfl, iteT (B := Same H1 H2 ∧ H2 D = some (.lst ((ds.take (i + 1)).map fun e => V.bl (areNames e)))) ?_⟩
              exact ⟨_, rfl, x, _, rfl, dpS s2 hu, hoo.2 _ (List.getElem_mem _), fun H3 s3 => ⟨_, s3 _ _ hD, ln _, same_upd' nD (s2.trans s3), by rw [upd_same, take_snoc he]⟩⟩
            · rintro H2 ⟨s2, hD⟩
              rw [hl, List.take_length] at hD
              refine ⟨D, ds.map areNames, rfl, SqL.of (by rw [List.map_map]; exact hD), bq (A := True) ?_ (k H2 (s1.trans s2))⟩
              rw [ed, c, c2, ei, decide_eq_true (by omega : ds.length ≤ 40), List.all_map]
              rfl
          · refine bq (A := True) ?_ (k H1 s1)
            rw [ed, c, c2, ei, decide_eq_false (fun z : ds.length ≤ 40 => c3 (decide_eq_true (show ((ys.length : Nat) : Int) ≤ 40 by omega)))]
            rfl
end
end K5

set_option Elab.async false
set_option linter.all false
set_option maxRecDepth 100000
set_option maxHeartbeats 4000000
namespace K5
open PySem PySem.Spec PyProof.Rows L2
open K1 (FnP top Nm)
/-! ### the sizes in entries -/
theorem mark_uniq {d : PyData} {z z' : Str} {n n' : Int} (h : isMark d z n = true) (h' : isMark d z' n' = true) : z = z' := by
  cases d with
  | tuple ds =>
    have a := (Bool.and_eq_true_iff.mp (show (decide ((ds.length : Int) = n) && isWord (ds.headD .none) [z]) = true from h)).2
    have b := (Bool.and_eq_true_iff.mp (show (decide ((ds.length : Int) = n') && isWord (ds.headD .none) [z']) = true from h')).2
    cases hd : ds.headD .none with
    | str y =>
      rw [hd] at a b
      have a' : (z == y || false) = true := a
      have b' : (z' == y || false) = true := b
      rw [Bool.or_false] at a' b'
      rw [beq_iff_eq.mp a', beq_iff_eq.mp b']
    | _ =>
      rw [hd] at a
      exact absurd a Bool.false_ne_true
  | _ => exact absurd h Bool.false_ne_true
theorem mark_len {d : PyData} {z : Str} {n : Int} (h : isMark d z n = true) : isLen d = false := by
  cases hl : isLen d with
  | false => rfl
  | true =>
    have hn : isNum d = true := (Bool.and_eq_true_iff.mp hl).1
    rcases num_shape hn with ⟨i, rfl⟩ | ⟨t, b, rfl, _⟩
    · exact absurd h Bool.false_ne_true
    · have a := (Bool.and_eq_true_iff.mp (show (decide ((([PyData.int t, .int b].length : Nat) : Int) = n) && isWord (.int t) [z]) = true from h)).2
      exact absurd a Bool.false_ne_true
theorem mark_word {d : PyData} {z : Str} {n : Int} {ws : List Str} (h : isMark d z n = true) : isWord d ws = false := by
  cases d with
  | tuple ds => rfl
  | _ => exact absurd h Bool.false_ne_true
/-- what is marked otherwise is no size -/
theorem mark_size {d : PyData} {z : Str} {n : Int} (h : isMark d z n = true) (h1 : z ≠ "part") (h2 : z ≠ "share") (h3 : z ≠ "between") (h4 : z ≠ "upto") : isSize d = false := by
  have no : ∀ (z' : Str) (m : Int), z ≠ z' → isMark d z' m = false := fun z' m hz => by
    cases e : isMark d z' m with
    | false => rfl
    | true => exact absurd (mark_uniq h e) hz
  unfold isSize isPlain isFixed isPart isShare isBetw isUpto
  rw [mark_len h, mark_word h, no _ _ h1, no _ _ h2, no _ _ h3, no _ _ h4]
  rfl
theorem rep_mark {d : PyData} (h : isRepeat d = true) : isMark d "repeat" ((3 : Nat) : Int) = true := (Bool.and_eq_true_iff.mp h).1
theorem fill_mark {d : PyData} (h : isFill d = true) : ∃ z : Str, (z = "fill" ∨ z = "fit") ∧ isMark d z ((2 : Nat) : Int) = true := by
  have a := (Bool.and_eq_true_iff.mp h).1
  rcases Bool.or_eq_true_iff.mp a with a | a
  · exact ⟨_, .inl rfl, a⟩
  · exact ⟨_, .inr rfl, a⟩
/-- sizes and names repeat nothing -/
theorem flat_rep {e : PyData} (h : (isSize e || isNamesE e) = true) : isRepeat e = false := by
  cases hr : isRepeat e with
  | false => rfl
  | true =>
    have m := rep_mark hr
    rcases Bool.or_eq_true_iff.mp h with a | a
    · rw [mark_size m (by decide) (by decide) (by decide) (by decide)] at a
      cases a
    · have := mark_uniq m (Bool.and_eq_true_iff.mp a).1
      exact absurd this (by decide)
theorem flat_fill {e : PyData} (h : (isSize e || isNamesE e) = true) : isFill e = false := by
  cases hr : isFill e with
  | false => rfl
  | true =>
    obtain ⟨z, hz, m⟩ := fill_mark hr
    rcases Bool.or_eq_true_iff.mp h with a | a
    · rw [mark_size m (by rcases hz with rfl | rfl <;> decide) (by rcases hz with rfl | rfl <;> decide) (by rcases hz with rfl | rfl <;> decide) (by rcases hz with rfl | rfl <;> decide)] at a
      cases a
    · have := mark_uniq m (Bool.and_eq_true_iff.mp a).1
      exact absurd this (by rcases hz with rfl | rfl <;> decide)
theorem dpSnoc {K : PySem.W.Frag} {H : Hp} : ∀ {vs us : List V} {ds es : List PyData}, DpAll K H vs ds → DpAll K H us es → DpAll K H (vs ++ us) (ds ++ es)
  | _, _, _, _, .nil, h => h
  | _, _, _, _, .cons a b, h => .cons a (dpSnoc b h)
section
variable {P : Program} {w : World} {K : PySem.W.Frag} {mg : Str → Option Value} {base : Heap}
/-- sizes_in of what repeats nothing -/
def spSz0 (K : PySem.W.Frag) : Sp := fun vs H Q _ => ∃ (v : V) (ds : List PyData) (H0 : Hp), vs = [v] ∧ Same H0 H ∧ Dp K H0 v (.tuple ds) ∧ ds.length ≤ 100 ∧ (∀ e ∈ ds, okR e ∧ (isSize e || isNamesE e) = true) ∧
  ∀ H' p us, Same H H' → H p = none → H' p = some (.lst us) → DpAll K H0 us (ds.filter isSize) → Q (.ref p) H'
theorem scSz : FnScope ["entries", "sizes", "entry"] ["entries"] (defScope (top 54)) := ⟨rfl, rfl, rfl, by decide +kernel, rfl, by decide +kernel, by decide +kernel⟩
theorem filter_snoc {ds : List PyData} {i : Nat} {e : PyData} (h : ds[i]? = some e) : (ds.take (i + 1)).filter isSize = (ds.take i).filter isSize ++ (if isSize e = true then [e] else []) := by
  rw [List.take_succ, h, List.filter_append]
  congr 1
  show List.filter isSize [e] = _
  by_cases hs : isSize e = true
  · rw [if_pos hs, List.filter_cons_of_pos hs]
    rfl
  · rw [if_neg hs, List.filter_cons_of_neg hs]
    rfl
theorem ok_sz0 {f f1 f2 f3 : Addr} {fd d1 d2 d3 : FuncData} (F : FnP K "sizes_in" (top 54) f fd) (d_is_size : D1 P w K mg base "is_size" "value" 8 (spQ K okB isSize) f1 d1) (d_is_repeat : D1 P w K mg base "is_repeat" "value" 10 (spQ K okR isRepeat) f2 d2) (d_is_filler : D1 P w K mg base "is_filler" "value" 10 (spQ K okR isFill) f3 d3) :
    FnOk P w K mg base CX0 11 f fd ["entries"] (spSz0 K) := by
  refine F.ok scSz (fun vs H Q E h => ?_) (fun cdv A outer s H vs Q E hr h => ?_)
  · obtain ⟨v, ds, H0, rfl, _⟩ := h
    rfl
  · obtain ⟨v, ds, H0, rfl, s00, hd, hn, ho, k⟩ := h
    refine ⟨_, PSs.nox (pss_cons (ps_set (i := 1) scSz.nd rfl (Or.inl rfl) (pe_lst pa_nil))
  (pss_cons (ps_for PassesOwn.never rfl (pi_tup (pv 0))
    (pg_name (i := 2) scSz.nd rfl (Or.inl rfl))
    (pss_one (ps_if (pt_val (pe_call d_is_repeat.G (hr.mono (by decide)) (by rfl) d_is_repeat.g d_is_repeat.kp d_is_repeat.b .nil pass0 (pa_cons (pv 2) pa_nil)))
    pss_never
    (pss_one (ps_if (pt_val (pe_call d_is_filler.G (hr.mono (by decide)) (by rfl) d_is_filler.g d_is_filler.kp d_is_filler.b .nil pass0 (pa_cons (pv 2) pa_nil)))
    pss_never
    (pss_one (ps_if (pt_val (pe_call d_is_size.G (hr.mono (by decide)) (by rfl) d_is_size.g d_is_size.kp d_is_size.b .nil pass0 (pa_cons (pv 2) pa_nil)))
    (pss_one (ps_expr (pe_bm PySem.F.plainAttrs_list PySem.F.slot_list_append PySem.F.type_list_append mt_append (pv 1) (pa_cons (pv 2) pa_nil))))
    pss_nil)))))))
  (pss_one (ps_ret (pv 1))))), ?_⟩
    cases hd with
    | @tup p xs _ ht hx =>
      have ht := Same.seqT s00 ht
      have hl := dpLen hx
      refine ⟨(by show 0 ≤ sizeLine; decide), fun q nq => ?_⟩
      have s0 := same_upd (o := .lst []) nq
      refine ⟨_, rfl, p, rfl, ⟨xs, Same.seqT s0 ht⟩, for_tup (K := K) (a := p) (xs := xs) (fun i σ H' => Same H H' ∧ ∃ us u, H' q = some (.lst us) ∧ DpAll K H0 us ((ds.take i).filter isSize) ∧ σ = [some (.ref p), some (.ref q), u]) ⟨s0, [], _, upd_same, .nil, rfl⟩ (fun i σ H' _ h => Same.seqT h.1 ht) ?_ ?_⟩
      · rintro i x σ H2 hi ⟨s2, us, u, hq, hus, rfl⟩
        have hi' := (List.getElem?_eq_some_iff.mp hi).1
        have he : ds[i]? = some (ds[i]'(by omega)) := List.getElem?_eq_getElem _
        obtain ⟨u', eu, hu⟩ := dpAt i hx he
        rw [hi] at eu
        cases eu
        have hm : ds[i]'(by omega) ∈ ds := List.getElem_mem _
        generalize ds[i]'(by omega) = e at he hu hm
        obtain ⟨oe, fe⟩ := ho e hm
        refine ⟨_, rfl, x, e, rfl, dpS (s00.trans s2) hu, oe, fun H3 s3 => ⟨_, rfl, ite2 (fun c => absurd c (by rw [flat_rep fe]; decide)) (fun _ => ?_)⟩⟩
        refine ⟨_, rfl, x, e, rfl, dpS (s00.trans (s2.trans s3)) hu, oe, fun H4 s4 => ⟨_, rfl, ite2 (fun c => absurd c (by rw [flat_fill fe]; decide)) (fun _ => ?_)⟩⟩
        have s24 := (s2.trans s3).trans s4
        refine ⟨_, rfl, x, e, rfl, dpS (s00.trans s24) hu, oe.1.1, fun H5 s5 => ⟨_, rfl, ite2 (fun c => ?_) (fun c => ?_)⟩⟩
        · have hq5 := s5 _ _ (s4 _ _ (s3 _ _ hq))
          have lus : us.length ≤ 100 := by
            rw [dpLen hus]
            exact Nat.le_trans (List.length_filter_le _ _) (Nat.le_trans (by rw [List.length_take]; exact Nat.min_le_right _ _) hn)
          refine ⟨_, rfl, .inl ⟨rfl, _, SqL.of hq5⟩, _, rfl, q, _, _, rfl, rfl, hq5, Nat.lt_of_le_of_lt lus (by decide), same_upd' nq (s24.trans s5), _, _, upd_same, ?_, rfl⟩
          rw [filter_snoc he, if_pos c]
          exact dpSnoc hus (.cons hu .nil)
        · refine ⟨s24.trans s5, us, _, s5 _ _ (s4 _ _ (s3 _ _ hq)), ?_, rfl⟩
          rw [filter_snoc he, if_neg c, List.append_nil]
          exact hus
      · rintro σ H2 ⟨s2, us, u, hq, hus, rfl⟩
        rw [hl, List.take_length] at hus
        exact ⟨_, rfl, k H2 q us s2 nq hq hus⟩
end
end K5

set_option Elab.async false
set_option linter.all false
set_option maxRecDepth 100000
set_option maxHeartbeats 4000000
namespace K5
open PySem PySem.Spec PyProof.Rows L2
open K1 (FnP top Nm)
def inner (d : PyData) : List PyData := (itemsOf d).filter isSize
def szOne (e : PyData) : List PyData := if isRepeat e = true then (List.replicate (topOf (itemAt e 1)).toNat (inner (itemAt e 2))).flatten else if isFill e = true then inner (itemAt e 1) else if isSize e = true then [e] else []
def szs (ds : List PyData) : List PyData := ds.flatMap szOne
/-- entries of no great size -/
def okT (ds : List PyData) : Prop := ds.length ≤ 100 ∧ ∀ e ∈ ds, okR e ∧ ∀ i, (itemsOf (itemAt e i)).length ≤ 100 ∧ ∀ e' ∈ itemsOf (itemAt e i), okR e'
theorem inner_of {d : PyData} (h : areInner d = true) : ∃ ds, d = .tuple ds ∧ ∀ e ∈ ds, (isSize e || isNamesE e) = true := by
  cases d with
  | tuple ds => exact ⟨ds, rfl, fun e he => List.all_eq_true.mp (Bool.and_eq_true_iff.mp h).1 e he⟩
  | _ => exact absurd h Bool.false_ne_true
theorem rep_parts {e : PyData} (h : isRepeat e = true) : (∃ n : Nat, itemAt e 1 = .int (n : Int) ∧ n ≤ 20) ∧ areInner (itemAt e 2) = true := by
  obtain ⟨_, h⟩ := Bool.and_eq_true_iff.mp h
  obtain ⟨h1, h⟩ := Bool.and_eq_true_iff.mp h
  obtain ⟨h2, h3⟩ := Bool.and_eq_true_iff.mp h
  obtain ⟨h4, h5⟩ := Bool.and_eq_true_iff.mp h2
  obtain ⟨n, en⟩ := isInt_of h1
  rw [en] at h4 h5
  have h4 : 1 ≤ n := of_decide_eq_true h4
  have h5 : n ≤ 20 := of_decide_eq_true h5
  obtain ⟨m, rfl⟩ := Int.eq_ofNat_of_zero_le (by omega : 0 ≤ n)
  exact ⟨⟨m, en, by omega⟩, h3⟩
theorem flat_len {α : Type} (l : List α) : ∀ n : Nat, (List.replicate n l).flatten.length = n * l.length
  | 0 => by simp
  | n + 1 => by
    rw [List.replicate_succ, List.flatten_cons, List.length_append, flat_len l n, Nat.succ_mul]
    omega
theorem inner_len (d : PyData) : (inner d).length ≤ (itemsOf d).length := List.length_filter_le _ _
theorem szOne_len {e : PyData} (h : ∀ i, (itemsOf (itemAt e i)).length ≤ 100) : (szOne e).length ≤ 2000 := by
  unfold szOne
  split
  · rename_i hr
    obtain ⟨⟨n, en, hn⟩, _⟩ := rep_parts hr
    rw [flat_len, en]
    show n * _ ≤ 2000
    have h1 := Nat.le_trans (inner_len (itemAt e 2)) (h 2)
    have := Nat.mul_le_mul hn h1
    omega
  · split
    · exact Nat.le_trans (inner_len _) (Nat.le_trans (h 1) (by decide))
    · split
      · exact Nat.le_trans (Nat.le_refl 1) (by decide)
      · exact Nat.zero_le _
theorem szs_len : ∀ ds : List PyData, (∀ e ∈ ds, ∀ i, (itemsOf (itemAt e i)).length ≤ 100) → (szs ds).length ≤ ds.length * 2000
  | [], _ => Nat.le_refl _
  | e :: ds, h => by
    have h1 := szOne_len (h e (List.mem_cons_self ..))
    have h2 := szs_len ds fun x hx => h x (List.mem_cons_of_mem _ hx)
    show (szOne e ++ szs ds).length ≤ (ds.length + 1) * 2000
    rw [List.length_append]
    omega
theorem szs_snoc {ds : List PyData} {i : Nat} {e : PyData} (h : ds[i]? = some e) : szs (ds.take (i + 1)) = szs (ds.take i) ++ szOne e := by
  unfold szs
  rw [List.take_succ, h, List.flatMap_append]
  show _ ++ (szOne e ++ []) = _
  rw [List.append_nil]
theorem dpRep {K : PySem.W.Frag} {H : Hp} {us : List V} {ds : List PyData} (h : DpAll K H us ds) : ∀ n : Nat, DpAll K H (List.replicate n us).flatten (List.replicate n ds).flatten
  | 0 => .nil
  | n + 1 => by
    rw [List.replicate_succ, List.flatten_cons, List.replicate_succ, List.flatten_cons]
    exact dpSnoc h (dpRep h n)
section
variable {P : Program} {w : World} {K : PySem.W.Frag} {mg : Str → Option Value} {base : Heap}
def spSz (K : PySem.W.Frag) : Sp := fun vs H Q _ => ∃ (v : V) (ds : List PyData), vs = [v] ∧ Dp K H v (.tuple ds) ∧ okT ds ∧ ∀ H' p us, Same H H' → H p = none → H' p = some (.lst us) → DpAll K H us (szs ds) → Q (.ref p) H'
theorem ok_sz {f f1 f2 f3 f0 : Addr} {fd d1 d2 d3 d0 : FuncData} (F : FnP K "sizes_in" (top 54) f fd) (d_is_size : D1 P w K mg base "is_size" "value" 8 (spQ K okB isSize) f1 d1) (d_is_repeat : D1 P w K mg base "is_repeat" "value" 10 (spQ K okR isRepeat) f2 d2) (d_is_filler : D1 P w K mg base "is_filler" "value" 10 (spQ K okR isFill) f3 d3)
    (d_sizes_in : D1 P w K mg base "sizes_in" "entries" 11 (spSz0 K) f0 d0) : FnOk P w K mg base CX0 12 f fd ["entries"] (spSz K) := by
  refine F.ok scSz (fun vs H Q E h => ?_) (fun cdv A outer s H vs Q E hr h => ?_)
  · obtain ⟨v, ds, rfl, _⟩ := h
    rfl
  · obtain ⟨v, ds, rfl, hd, ⟨hn, ho⟩, k⟩ := h
    refine ⟨_, PSs.nox (pss_cons (ps_set (i := 1) scSz.nd rfl (Or.inl rfl) (pe_lst pa_nil))
  (pss_cons (ps_for PassesOwn.never rfl (pi_tup (pv 0))
    (pg_name (i := 2) scSz.nd rfl (Or.inl rfl))
    (pss_one (ps_if (pt_val (pe_call d_is_repeat.G (hr.mono (by decide)) (by rfl) d_is_repeat.g d_is_repeat.kp d_is_repeat.b .nil pass0 (pa_cons (pv 2) pa_nil)))
    (pss_one (ps_expr (pe_bm PySem.F.plainAttrs_list PySem.F.slot_list_extend PySem.F.type_list_extend mt_extend (pv 1) (pa_cons (pe_op op_rep (pe_call d_sizes_in.G (hr.mono (by decide)) (by rfl) d_sizes_in.g d_sizes_in.kp d_sizes_in.b .nil pass0 (pa_cons (pe_ix ix_tup (pv 2) pe_int (fun _ _ => rfl)) pa_nil)) (pe_ix ix_tup (pv 2) pe_int (fun _ _ => rfl))) pa_nil))))
    (pss_one (ps_if (pt_val (pe_call d_is_filler.G (hr.mono (by decide)) (by rfl) d_is_filler.g d_is_filler.kp d_is_filler.b .nil pass0 (pa_cons (pv 2) pa_nil)))
    (pss_one (ps_expr (pe_bm PySem.F.plainAttrs_list PySem.F.slot_list_extend PySem.F.type_list_extend mt_extend (pv 1) (pa_cons (pe_call d_sizes_in.G (hr.mono (by decide)) (by rfl) d_sizes_in.g d_sizes_in.kp d_sizes_in.b .nil pass0 (pa_cons (pe_ix ix_tup (pv 2) pe_int (fun _ _ => rfl)) pa_nil)) pa_nil))))
    (pss_one (ps_if (pt_val (pe_call d_is_size.G (hr.mono (by decide)) (by rfl) d_is_size.g d_is_size.kp d_is_size.b .nil pass0 (pa_cons (pv 2) pa_nil)))
    (pss_one (ps_expr (pe_bm PySem.F.plainAttrs_list PySem.F.slot_list_append PySem.F.type_list_append mt_append (pv 1) (pa_cons (pv 2) pa_nil))))
    pss_nil)))))))
  (pss_one (ps_ret (pv 1))))), ?_⟩
    cases hd with
    | @tup p xs _ ht hx =>
      have hl := dpLen hx
      refine ⟨(by show 0 ≤ sizeLine; decide), fun q nq => ?_⟩
      have s0 := same_upd (o := .lst []) nq
      refine ⟨_, rfl, p, rfl, ⟨xs, Same.seqT s0 ht⟩, for_tup (K := K) (a := p) (xs := xs) (fun i σ H' => Same H H' ∧ ∃ us u, H' q = some (.lst us) ∧ DpAll K H us (szs (ds.take i)) ∧ σ = [some (.ref p), some (.ref q), u]) ⟨s0, [], _, upd_same, .nil, rfl⟩ (fun i σ H' _ h => Same.seqT h.1 ht) ?_ ?_⟩
      · rintro i x σ H2 hi ⟨s2, us, u, hq, hus, rfl⟩
        have hi' := (List.getElem?_eq_some_iff.mp hi).1
        have he : ds[i]? = some (ds[i]'(by omega)) := List.getElem?_eq_getElem _
        obtain ⟨u', eu, hu⟩ := dpAt i hx he
        rw [hi] at eu
        cases eu
        have hm : ds[i]'(by omega) ∈ ds := List.getElem_mem _
        generalize ds[i]'(by omega) = e at he hu hm
        obtain ⟨oe, oi⟩ := ho e hm
        have lus : us.length ≤ 200000 := by
          rw [dpLen hus]
          refine Nat.le_trans (szs_len _ fun e' he' i => ((ho e' (List.mem_of_mem_take he')).2 i).1) ?_
          have : (ds.take i).length ≤ 100 := by
            rw [List.length_take]
            omega
          omega
        refine ⟨_, rfl, x, e, rfl, dpS s2 hu, oe, fun H3 s3 => ⟨_, rfl, ite2 (fun c => ?_) (fun c => ?_)⟩⟩
        · -- a repeat
          have s23 := s2.trans s3
          obtain ⟨⟨n, en, hn20⟩, ha⟩ := rep_parts c
          obtain ⟨y, ys, z, rfl, hy, ez, hz⟩ := dpItem (n := 3) hu (rep_mark c) 2 (by decide)
          obtain ⟨y', ys', z', e2, hy', ez', hz'⟩ := dpItem (n := 3) hu (rep_mark c) 1 (by decide)
          cases e2
          rw [en] at hz'
          cases hz'
          obtain ⟨es, ees, hes⟩ := inner_of ha
          have oi2 := oi 2
          rw [ees] at oi2 hz
          have hq3 := s3 _ _ hq
          refine ⟨_, rfl, .inl ⟨rfl, _, SqL.of hq3⟩, _, rfl, y, ys, 2, z, rfl, rfl, Same.seqT s23 hy, atI_nat (j := 2) ez, z, es, H, rfl, s23, hz, oi2.1, fun e' he' => ⟨oi2.2 e' he', hes e' he'⟩, fun H4 p4 us4 s4 n4 h4 hus4 => ?_⟩
          have s24 := s23.trans s4
          have l4 : us4.length ≤ 100 := by
            rw [dpLen hus4]
            exact Nat.le_trans (List.length_filter_le _ _) oi2.1
          have lr : (List.replicate n us4).flatten.length ≤ 2000 := by
            rw [flat_len]
            have := Nat.mul_le_mul hn20 l4
            omega
          refine ⟨_, rfl, y, ys', 1, _, rfl, rfl, Same.seqT s24 hy', atI_nat (j := 1) ez', p4, n, us4, rfl, rfl, h4, by omega, by omega, ?_, fun p5 n5 => ?_⟩
          · have := Nat.mul_le_mul l4 hn20
            exact Nat.le_trans (show us4.length * n ≤ 2000 by omega) (by decide)
          · have s5 := same_upd (o := .lst (List.replicate (n : Int).toNat us4).flatten) n5
            have hq5 := s5 _ _ (s4 _ _ hq3)
            refine ⟨q, p5, us, _, rfl, rfl, hq5, upd_same, Nat.le_trans (show us.length + (List.replicate n us4).flatten.length ≤ 202000 by omega) (by decide), same_upd' nq (s24.trans s5), _, _, upd_same, ?_, rfl⟩
            rw [szs_snoc he]
            refine dpSnoc hus ?_
            unfold szOne inner
            rw [if_pos c, en, ees]
            exact dpRep hus4 n
        refine ⟨_, rfl, x, e, rfl, dpS (s2.trans s3) hu, oe, fun H4 s4 => ⟨_, rfl, ite2 (fun c2 => ?_) (fun c2 => ?_)⟩⟩
        · -- a fill, a fit
          have s24 := (s2.trans s3).trans s4
          obtain ⟨zz, _, hm2⟩ := fill_mark c2
          obtain ⟨y, ys, z, rfl, hy, ez, hz⟩ := dpItem (n := 2) hu hm2 1 (by decide)
          obtain ⟨es, ees, hes⟩ := inner_of (Bool.and_eq_true_iff.mp c2).2
          have oi1 := oi 1
          rw [ees] at oi1 hz
          have hq4 := s4 _ _ (s3 _ _ hq)
          refine ⟨_, rfl, .inl ⟨rfl, _, SqL.of hq4⟩, _, rfl, y, ys, 1, z, rfl, rfl, Same.seqT s24 hy, atI_nat (j := 1) ez, z, es, H, rfl, s24, hz, oi1.1, fun e' he' => ⟨oi1.2 e' he', hes e' he'⟩, fun H5 p5 us5 s5 n5 h5 hus5 => ?_⟩
          have l5 : us5.length ≤ 100 := by
            rw [dpLen hus5]
            exact Nat.le_trans (List.length_filter_le _ _) oi1.1
          refine ⟨q, p5, us, us5, rfl, rfl, s5 _ _ hq4, h5, Nat.le_trans (show us.length + us5.length ≤ 202000 by omega) (by decide), same_upd' nq (s24.trans s5), _, _, upd_same, ?_, rfl⟩
          rw [szs_snoc he]
          refine dpSnoc hus ?_
          unfold szOne inner
          rw [if_neg c, if_pos c2, ees]
          exact hus5
        · have s24 := (s2.trans s3).trans s4
          have eo : szOne e = if isSize e = true then [e] else [] := by
            unfold szOne
            rw [if_neg c, if_neg c2]
          refine ⟨_, rfl, x, e, rfl, dpS s24 hu, oe.1.1, fun H5 s5 => ⟨_, rfl, ite2 (fun c3 => ?_) (fun c3 => ?_)⟩⟩
          · have hq5 := s5 _ _ (s4 _ _ (s3 _ _ hq))
            refine ⟨_, rfl, .inl ⟨rfl, _, SqL.of hq5⟩, _, rfl, q, _, _, rfl, rfl, hq5, Nat.lt_of_le_of_lt lus (by decide), same_upd' nq (s24.trans s5), _, _, upd_same, ?_, rfl⟩
            rw [szs_snoc he, eo, if_pos c3]
            exact dpSnoc hus (.cons hu .nil)
          · refine ⟨s24.trans s5, us, _, s5 _ _ (s4 _ _ (s3 _ _ hq)), ?_, rfl⟩
            rw [szs_snoc he, eo, if_neg c3, List.append_nil]
            exact hus
      · rintro σ H2 ⟨s2, us, u, hq, hus, rfl⟩
        rw [hl, List.take_length] at hus
        exact ⟨_, rfl, k H2 q us s2 nq hq hus⟩
end
end K5

set_option Elab.async false
set_option linter.all false
set_option maxRecDepth 100000
set_option maxHeartbeats 4000000
namespace K5
open PySem PySem.Spec PyProof.Rows L2
open K1 (FnP top Nm)
/-! ### templates -/
def areEnt (d : PyData) : Bool := match d with
  | .tuple ds => ds.all isEntry && (!(decide (40 < (szs ds).length) || decide (1 < (ds.filter isFill).length)) && (decide ((ds.filter isFill).length = 0) || (szs ds).all mayFill))
  | _ => false
def okEnt (d : PyData) : Prop := ∀ ds, d = .tuple ds → okT ds
theorem szs_ok {ds : List PyData} (h : okT ds) {e : PyData} (he : e ∈ szs ds) : okB e := by
  obtain ⟨x, hx, hex⟩ := List.mem_flatMap.mp he
  obtain ⟨o1, o2⟩ := h.2 x hx
  unfold szOne at hex
  split at hex
  · obtain ⟨l, hl, hel⟩ := List.mem_flatten.mp hex
    rw [List.eq_of_mem_replicate hl] at hel
    exact ((o2 2).2 e (List.mem_filter.mp hel).1).1.1
  · split at hex
    · exact ((o2 1).2 e (List.mem_filter.mp hex).1).1.1
    · split at hex
      · rw [List.mem_singleton] at hex
        subst hex
        exact o1.1.1
      · exact nomatch hex
section
variable {P : Program} {w : World} {K : PySem.W.Frag} {mg : Str → Option Value} {base : Heap}
theorem scAE : FnScope ["value", "entry", "sizes", "fillers", "size"] ["value"] (defScope (top 56)) := ⟨rfl, rfl, rfl, by decide +kernel, rfl, by decide +kernel, by decide +kernel⟩
theorem filt_snoc {ds : List PyData} {i : Nat} {e : PyData} (h : ds[i]? = some e) : ((ds.take (i + 1)).filter isFill).length = ((ds.take i).filter isFill).length + (if isFill e = true then 1 else 0) := by
  rw [List.take_succ, h, List.filter_append, List.length_append]
  congr 1
  show (List.filter isFill [e]).length = _
  by_cases hs : isFill e = true
  · rw [if_pos hs, List.filter_cons_of_pos hs]
    rfl
  · rw [if_neg hs, List.filter_cons_of_neg hs]
    rfl
theorem ok_ae {f f1 f2 f3 f4 : Addr} {fd d1 d2 d3 d4 : FuncData} {tk : Tok} (F : FnP K "are_entries" (top 56) f fd) (N : Nm mg) (hall : mg "all" = none) (gM : mg "MOST_SIZES" = some (.int 40 tk)) (d_is_entry : D1 P w K mg base "is_entry" "value" 11 (spQ K okR isEntry) f1 d1) (d_sizes_in : D1 P w K mg base "sizes_in" "entries" 12 (spSz K) f2 d2)
    (d_is_filler : D1 P w K mg base "is_filler" "value" 10 (spQ K okR isFill) f3 d3) (d_may_be_filled : D1 P w K mg base "may_be_filled" "size" 9 (spQ K okB mayFill) f4 d4) : FnOk P w K mg base CX0 13 f fd ["value"] (spQ K okEnt areEnt) := by
  refine F.ok scAE (fun vs H Q E h => ?_) (fun cdv A outer s H vs Q E hr h => ?_)
  · obtain ⟨v, d, rfl, _⟩ := h
    rfl
  · obtain ⟨v, d, rfl, hd, ho, k⟩ := h
    refine ⟨_, PSs.nox (pss_cons (ps_if (PW.pt (pw_or (pt_not (pt_val (pe_callB call_isi (by rfl) N.isi (by decide +kernel) (pa_cons (pv 0) (pa_cons (pe_bltn (v := .ty "tuple") (u := .type "tuple") (by rfl) N.ttup (by decide +kernel) rfl) pa_nil))))) (pw_or1 (pt_not (pt_val (pe_callB (cr_all rfl) (by rfl) hall (by decide +kernel) (pa_cons (pe_lc (own := [("entry", 1)]) (g := gName 1) (tt := tYes) rfl scAE.nd (pi_tup (pv 0)) (blkOk_by (own := [("entry", 1)]) (N := ["value", "entry", "sizes", "fillers", "size"]) (sc := defScope (top 56)) (by decide +kernel)) (fun _ _ _ _ _ => (pg_name (i := 1) scAE.nd rfl (Or.inl rfl))) (fun _ _ _ _ _ => pts_nil) (fun _ _ _ _ _ => (pe_call d_is_entry.G (hr.mono (by decide)) (by rfl) d_is_entry.g d_is_entry.kp d_is_entry.b .nil pass0 (pa_cons (pv 1) pa_nil)))) pa_nil)))))))
    (pss_one (ps_ret pe_bl))
    pss_nil)
  (pss_cons (ps_set (i := 2) scAE.nd rfl (Or.inl rfl) (pe_call d_sizes_in.G (hr.mono (by decide)) (by rfl) d_sizes_in.g d_sizes_in.kp d_sizes_in.b .nil pass0 (pa_cons (pv 0) pa_nil)))
  (pss_cons (ps_setLc (i := 3) (own := [("entry", 1)]) (g := gName 1) rfl scAE.nd rfl rfl (sw_true rfl rfl rfl (by decide +kernel)) (pi_tup (pv 0)) (blkOk_by (own := [("entry", 1)]) (N := ["value", "entry", "sizes", "fillers", "size"]) (sc := defScope (top 56)) (by decide +kernel)) (fun _ _ _ _ _ => (pg_name (i := 1) scAE.nd rfl (Or.inl rfl))) (fun _ _ _ _ _ => pts_one (pt_val (pe_call d_is_filler.G (hr.mono (by decide)) (by rfl) d_is_filler.g d_is_filler.kp d_is_filler.b .nil pass0 (pa_cons (pv 1) pa_nil)))) (fun _ _ _ _ _ => (pv 1)))
  (pss_cons (ps_if (PW.pt (pw_or (pt_cmpR op_gt (pe_callB call_len_seq (by rfl) N.len PySem.boot_len (pa_cons (pv 2) pa_nil)) (pe_glob (by rfl) gM (v := .int 40) ⟨_, rfl⟩) (nomark _)) (pw_or1 (pt_cmpR op_gt (pe_callB call_len_seq (by rfl) N.len PySem.boot_len (pa_cons (pv 3) pa_nil)) pe_int (nomark _)))))
    (pss_one (ps_ret pe_bl))
    pss_nil)
  (pss_one (ps_ret (pe_or (pe_cmpR op_eq (pe_callB call_len_seq (by rfl) N.len PySem.boot_len (pa_cons (pv 3) pa_nil)) pe_int (nomark _)) (pe_one (pe_callB (cr_all rfl) (by rfl) hall (by decide +kernel) (pa_cons (pe_lc (own := [("size", 4)]) (g := gName 4) (tt := tYes) rfl scAE.nd (pi_list (pv 2)) (blkOk_by (own := [("size", 4)]) (N := ["value", "entry", "sizes", "fillers", "size"]) (sc := defScope (top 56)) (by decide +kernel)) (fun _ _ _ _ _ => (pg_name (i := 4) scAE.nd rfl (Or.inl rfl))) (fun _ _ _ _ _ => pts_nil) (fun _ _ _ _ _ => (pe_call d_may_be_filled.G (hr.mono (by decide)) (by rfl) d_may_be_filled.g d_may_be_filled.kp d_may_be_filled.b .nil pass0 (pa_cons (pv 4) pa_nil)))) pa_nil)))))))))), ?_⟩
    refine ⟨_, rfl, _, _, _, _, _, rfl, .ty _, dpTy hd, kitD d (by decide), _, rfl, ite2 (fun c => ?_) (fun c => ?_)⟩
    · have c := tB c
      have e : areEnt d = false := by
        cases d with
        | tuple ds => exact absurd c (by simp only [isTy, tyN]; decide)
        | _ => rfl
      exact iteT (bq (A := True) e (k H (Same.refl H)))
    · have c := fB c
      obtain ⟨ds, rfl⟩ := isTy_tup c
      obtain ⟨hn, hoo⟩ := ho ds rfl
      have hT := ho ds rfl
      have ed : areEnt (.tuple ds) = (ds.all isEntry && (!(decide (40 < (szs ds).length) || decide (1 < (ds.filter isFill).length)) && (decide ((ds.filter isFill).length = 0) || (szs ds).all mayFill))) := rfl
      have hdd := hd
      cases hd with
      | @tup p xs _ ht hx =>
        have hl := dpLen hx
        have at_ : ∀ i x, xs[i]? = some x → ∃ e, ds[i]? = some e ∧ Dp K H x e ∧ e ∈ ds := fun i x hi => by
          have hi' := (List.getElem?_eq_some_iff.mp hi).1
          have he : ds[i]? = some (ds[i]'(by omega)) := List.getElem?_eq_getElem _
          obtain ⟨u, eu, hu⟩ := dpAt i hx he
          rw [hi] at eu
          cases eu
          exact ⟨_, he, hu, List.getElem_mem _⟩
        refine ⟨_, rfl, p, rfl, ⟨xs, ht⟩, fun D nD => ?_⟩
        have ln : ∀ i, ((ds.take i).map fun e => V.bl (isEntry e)).length < sizeLine := fun i => by
          rw [List.length_map, List.length_take]
          exact Nat.lt_of_le_of_lt (Nat.le_trans (Nat.min_le_right _ _) hn) (by decide)
        refine lc_tup (K := K) (a := p) (xs := xs) (fun i H' => Same H H' ∧ H' D = some (.lst ((ds.take i).map fun e => V.bl (isEntry e)))) ⟨same_upd nD, upd_same⟩ (fun i H' _ h => Same.seqT h.1 ht) ?_ ?_
        · rintro i x H2 hi ⟨s2, hD⟩
          obtain ⟨e, he, hu, hm⟩ := at_ i x hi
          refine ⟨rfl, iteT (B := Same H H2 ∧ H2 D = some (.lst ((ds.take (i + 1)).map fun e => V.bl (isEntry e)))) ?_⟩
          exact ⟨_, rfl, x, e, rfl, dpS s2 hu, (hoo e hm).1, fun H3 s3 => ⟨_, s3 _ _ hD, ln _, same_upd' nD (s2.trans s3), by rw [upd_same, take_snoc he]⟩⟩
        rintro H2 ⟨s2, hD⟩
        rw [hl, List.take_length] at hD
        refine ⟨D, ds.map isEntry, rfl, SqL.of (by rw [List.map_map]; exact hD), _, rfl, ite2 (fun c2 => ?_) (fun c2 => ?_)⟩
        · have e : ds.all isEntry = false := by
            have := tB c2
            rw [List.all_map] at this
            exact this
          exact bq (A := True) (by rw [ed, e, Bool.false_and]) (k H2 s2)
        have eall : ds.all isEntry = true := by
          have := fB c2
          rw [List.all_map] at this
          exact this
        refine ⟨_, rfl, _, ds, rfl, dpS s2 hdd, hT, fun H3 q us s3 nq hq hus => ?_⟩
        have s23 := s2.trans s3
        refine ⟨_, rfl, p, rfl, ⟨xs, Same.seqT s23 ht⟩, fun D2 nD2 => ?_⟩
        refine lc_tup (K := K) (a := p) (xs := xs) (fun i H' => Same H3 H' ∧ ∃ fs : List V, H' D2 = some (.lst fs) ∧ fs.length = ((ds.take i).filter isFill).length) ⟨same_upd nD2, [], upd_same, rfl⟩ (fun i H' _ h => Same.seqT (s23.trans h.1) ht) ?_ ?_
        · rintro i x H4 hi ⟨s4, fs, hD2, hfs⟩
          obtain ⟨e, he, hu, hm⟩ := at_ i x hi
          refine ⟨rfl, _, rfl, x, e, rfl, dpS (s23.trans s4) hu, (hoo e hm).1, fun H5 s5 => ⟨_, rfl, ite2 (fun c3 => ?_) (fun c3 => ?_)⟩⟩
          · refine ⟨_, rfl, fs, s5 _ _ hD2, ?_, same_upd' nD2 (s4.trans s5), fs ++ [x], upd_same, ?_⟩
            · rw [hfs]
              exact Nat.lt_of_le_of_lt (Nat.le_trans (List.length_filter_le _ _) (Nat.le_trans (by rw [List.length_take]; exact Nat.min_le_right _ _) hn)) (by decide)
            · rw [filt_snoc he, if_pos c3, List.length_append, hfs]
              rfl
          · refine ⟨s4.trans s5, fs, s5 _ _ hD2, ?_⟩
            rw [filt_snoc he, if_neg c3, hfs]
            rfl
        rintro H4 ⟨s4, fs, hD2, hfs⟩
        rw [hl, List.take_length] at hfs
        have s24 := s23.trans s4
        have lu : us.length = (szs ds).length := dpLen hus
        have hq4 := s4 _ _ hq
        refine ⟨_, rfl, q, _, rfl, .inl (SqL.of hq4), _, _, rfl, rfl, _, rfl, ite2 (fun c3 => ?_) (fun c3 => ?_)⟩
        · have c3 : (40 : Int) < ((us.length : Nat) : Int) := of_decide_eq_true c3
          refine iteT (bq (A := True) ?_ (k H4 s24))
          rw [ed, decide_eq_true (by omega : 40 < (szs ds).length), Bool.true_or, Bool.not_true, Bool.false_and, Bool.and_false]
        have c3 : ¬ 40 < (szs ds).length := fun z => c3 (decide_eq_true (show (40 : Int) < ((us.length : Nat) : Int) by omega))
        refine ⟨_, rfl, D2, _, rfl, .inl (SqL.of hD2), _, _, rfl, rfl, _, rfl, ite2 (fun c4 => ?_) (fun c4 => ?_)⟩
        · have c4 : (1 : Int) < ((fs.length : Nat) : Int) := of_decide_eq_true c4
          refine bq (A := True) ?_ (k H4 s24)
          rw [ed, decide_eq_true (by omega : 1 < (ds.filter isFill).length), Bool.or_true, Bool.not_true, Bool.false_and, Bool.and_false]
        have c4 : ¬ 1 < (ds.filter isFill).length := fun z => c4 (decide_eq_true (show (1 : Int) < ((fs.length : Nat) : Int) by omega))
        refine ⟨_, rfl, D2, _, rfl, .inl (SqL.of hD2), rfl, _, rfl, ite2 (fun c5 => ?_) (fun c5 => ?_)⟩
        · have c5 : V.int ((fs.length : Nat) : Int) = V.int 0 := of_decide_eq_true c5
          injection c5 with c5
          refine bq (A := True) ?_ (k H4 s24)
          rw [ed, eall, decide_eq_false c3, decide_eq_false c4, decide_eq_true (by omega : (ds.filter isFill).length = 0)]
          rfl
        have c5 : ¬ (ds.filter isFill).length = 0 := fun z => c5 (decide_eq_true (show V.int ((fs.length : Nat) : Int) = V.int 0 by rw [hfs, z]; rfl))
        refine ⟨_, rfl, q, rfl, ⟨us, SqL.of hq4⟩, fun D3 nD3 => ?_⟩
        have lz : (szs ds).length ≤ 40 := by omega
        have lm : ∀ i, (((szs ds).take i).map fun e => V.bl (mayFill e)).length < sizeLine := fun i => by
          rw [List.length_map, List.length_take]
          exact Nat.lt_of_le_of_lt (Nat.le_trans (Nat.min_le_right _ _) lz) (by decide)
        refine lc_list (K := K) (a := q) (xs := us) (fun i H' => Same H4 H' ∧ H' D3 = some (.lst (((szs ds).take i).map fun e => V.bl (mayFill e)))) ⟨same_upd nD3, upd_same⟩ (fun i H' _ h => SqL.of (h.1 _ _ hq4)) ?_ ?_
        · rintro i x H5 hi ⟨s5, hD3⟩
          have hi' := (List.getElem?_eq_some_iff.mp hi).1
          have he : (szs ds)[i]? = some ((szs ds)[i]'(by omega)) := List.getElem?_eq_getElem _
          obtain ⟨u, eu, hu⟩ := dpAt i hus he
          rw [hi] at eu
          cases eu
          refine ⟨rfl, iteT (B := Same H4 H5 ∧ H5 D3 = some (.lst (((szs ds).take (i + 1)).map fun e => V.bl (mayFill e)))) ?_⟩
          exact ⟨_, rfl, x, _, rfl, dpS ((s3.trans s4).trans s5) (by first | exact dpS s2 hu | exact hu), szs_ok hT (List.getElem_mem _), fun H6 s6 => ⟨_, s6 _ _ hD3, lm _, same_upd' nD3 (s5.trans s6), by rw [upd_same, take_snoc he]⟩⟩
        · rintro H5 ⟨s5, hD3⟩
          rw [lu, List.take_length] at hD3
          refine ⟨D3, (szs ds).map mayFill, rfl, SqL.of (by rw [List.map_map]; exact hD3), bq (A := True) ?_ (k H5 (s24.trans s5))⟩
          rw [ed, eall, decide_eq_false c3, decide_eq_false c4, decide_eq_false c5, List.all_map]
          rfl
theorem scTp : FnScope ["value"] ["value"] (defScope (top 58)) := ⟨rfl, rfl, rfl, by decide +kernel, rfl, by decide +kernel, by decide +kernel⟩
theorem ok_tp {f f1 f2 : Addr} {fd d1 d2 : FuncData} (F : FnP K "is_template" (top 58) f fd) (d_is_inherited : D1 P w K mg base "is_inherited" "value" 3 (spQ K okInh isInh) f1 d1) (d_are_entries : D1 P w K mg base "are_entries" "value" 13 (spQ K okEnt areEnt) f2 d2) :
    FnOk P w K mg base CX0 14 f fd ["value"] (spQ K (fun d => okInh d ∧ okEnt d) fun d => isInh d || areEnt d) := by
  refine F.ok scTp (fun vs H Q E h => ?_) (fun cdv A outer s H vs Q E hr h => ?_)
  · obtain ⟨v, d, rfl, _⟩ := h
    rfl
  · obtain ⟨v, d, rfl, hd, ho, k⟩ := h
    refine ⟨_, PSs.nox (pss_one (ps_ret (pe_or (pe_call d_is_inherited.G (hr.mono (by decide)) (by rfl) d_is_inherited.g d_is_inherited.kp d_is_inherited.b .nil pass0 (pa_cons (pv 0) pa_nil)) (pe_one (pe_call d_are_entries.G (hr.mono (by decide)) (by rfl) d_are_entries.g d_are_entries.kp d_are_entries.b .nil pass0 (pa_cons (pv 0) pa_nil)))))), ?_⟩
    refine ⟨_, rfl, v, d, rfl, hd, ho.1, fun H1 s1 => ⟨_, rfl, ite2 (fun c => bq (A := True) (show (isInh d || areEnt d) = true by rw [c, Bool.true_or]) (k H1 s1)) (fun c => ?_)⟩⟩
    exact ⟨_, rfl, v, d, rfl, dpS s1 hd, ho.2, fun H2 s2 => bq (A := True) (show (isInh d || areEnt d) = areEnt d by rw [Bool.eq_false_iff.mpr c, Bool.false_or]) (k H2 (s1.trans s2))⟩
end
end K5

set_option Elab.async false
set_option linter.all false
set_option maxRecDepth 100000
set_option maxHeartbeats 4000000
namespace L2
open PySem PySem.Spec PyProof.Rows
section
variable {X : Cx}
/-- name = {..} on one line, the name a local -/
theorem ps_setDc {i : Nat} {y : Str} {py : Pos} {kx vx tg iter : Expr} {ifs : List Expr} {scope : Scope} {own : List (Str × Nat)} {pos spos : Pos} {wi : TI} {g : TG} {tt : TT} {tk tv : TE} (hc : X.calm = true) (hN : X.N.Nodup) (hy : X.N[i]? = some y) (hyl : X.env.scope.names.lookup y = some .local)
    (hsw : swapsWith (.DictComp kx vx [⟨tg, iter, ifs, 0⟩] scope pos) (some (.Name y py)) spos.line X.env = pure true) (hi : PI X tg iter wi) (ok : BlkOk X.N X.env.scope scope own)
    (hg : ∀ (s : Shared) (H : Hp) (C : Addr) (cl : List (Str × Addr)) (fp : List Addr), PG (X.blk s H scope (compEnvC scope cl C X.env) fp) tg g) (ht : ∀ (s : Shared) (H : Hp) (C : Addr) (cl : List (Str × Addr)) (fp : List Addr), PTs (X.blk s H scope (compEnvC scope cl C X.env) fp) ifs tt)
    (hk : ∀ (s : Shared) (H : Hp) (C : Addr) (cl : List (Str × Addr)) (fp : List Addr), PE (X.blk s H scope (compEnvC scope cl C X.env) fp) kx tk)
    (he : ∀ (s : Shared) (H : Hp) (C : Addr) (cl : List (Str × Addr)) (fp : List Addr), PE (X.blk s H scope (compEnvC scope cl C X.env) fp) vx tv) (hs : ∀ x, foldedSetIterable iter X.env x = pure x := by intro _; rfl) :
    PS X (.Assign [.Name y py] (.DictComp kx vx [⟨tg, iter, ifs, 0⟩] scope pos) spos) (tAsg (tDc wi g tt tk tv (own.map (·.2))) (gName i)) := by
  refine ⟨fun pins s σ H D I h => ?_⟩
  rw [exec_Assign_Name_used _ _ _ _ hsw]
  refine wpAny_bind (wpAny_standAt (wpAny_bind ?_))
  show wpAny _ X.A (do let _ ← comprehension (.DictComp kx vx [⟨tg, iter, ifs, 0⟩] scope pos) scope X.env (firstIterPos [⟨tg, iter, ifs, 0⟩] pos) newDict false (eval iter X.env) (some (assign (.Name y py) X.env))) _ _ s
  have h : tDc wi g tt tk tv (own.map (·.2)) σ H (fun x H1 => gName i x σ H1 D.nx) := h
  refine wpAny_bind (thn (dc_core (Qf := fun _ s' => SP X pins D .next s') hc hN I hi ok hg ht hk he hs h fun L C s' m H' I' q hn f => ?_) fun _ s' hq => wpAny_pure (wpAny_pure hq))
  show wpAny _ _ (assign (.Name y py) X.env (.ref L)) _ _ _
  refine wpAny_assign_Name (store_ok2 (v := V.ref L) I' hN hy (.inl hyl) rfl (fun s2 I2 ⟨a, sb, ha⟩ => ?_) (.inr hyl))
  obtain ⟨f0, f1, f2, f3, f4, f5⟩ := f
  have haC : C ≠ a := by
    rcases ha with z | z
    · rw [z]; exact f1
    · exact fun e => f4 y a z e.symm
  refine ⟨m, hn.sameBut sb haC, fun h3 sb3 => ?_⟩
  exact ⟨_, H', I2.turned (t' := s2.toks) (fun b o hb e => (sb3.2 b hb).trans e) f0 f1 f3 f4 f5, q⟩
theorem sw_dict {kx vx : Expr} {gs : List Comprehension} {scope : Scope} {pos py : Pos} {y : Str} {l : Nat} {env : Env} (hk : env.scope.kind = .function) (hy : env.scope.names.lookup y = some .local) (hl : (py.line == pos.line) = true)
    (ha : (scope.names.any fun (n, k) => n == y && (k == .local || k == .cell)) = false) : swapsWith (.DictComp kx vx gs scope pos) (some (.Name y py)) l env = pure true := by
  have ky : env.kindOf y = some .local := hy
  have hb : env.blockKind = .function := by unfold Env.blockKind; rw [hk]; rfl
  unfold swapsWith
  simp only [hb, ky, ha, Expr.pos, hl]
  rfl
end
end L2
namespace K5
open PySem PySem.Spec PyProof.Rows L2
open K1 (FnP top Nm)
/-! ### words and rows of fields -/
def isDot (d : PyData) : Bool := match d with
  | .str z => decide (z = ".")
  | _ => false
def isFW (d : PyData) : Bool := isName d || isDot d
def isFRow (d : PyData) : Bool := match d with
  | .tuple ds => decide (1 ≤ ds.length) && (decide (ds.length ≤ 20) && ds.all isFW)
  | _ => false
section
variable {P : Program} {w : World} {K : PySem.W.Frag} {mg : Str → Option Value} {base : Heap}
theorem scFW : FnScope ["value"] ["value"] (defScope (top 30)) := ⟨rfl, rfl, rfl, by decide +kernel, rfl, by decide +kernel, by decide +kernel⟩
theorem ok_fw {f f1 : Addr} {fd d1 : FuncData} {tk : Tok} (F : FnP K "is_field_word" (top 30) f fd) (N : Nm mg) (hs : mg "str" = none) (gN : mg "NO_FIELD" = some (.str "." tk)) (d_is_name : D1 P w K mg base "is_name" "value" 1 (spQ K okZ isName) f1 d1) :
    FnOk P w K mg base CX0 2 f fd ["value"] (spQ K okZ isFW) := by
  refine F.ok scFW (fun vs H Q E h => ?_) (fun cdv A outer s H vs Q E hr h => ?_)
  · obtain ⟨v, d, rfl, _⟩ := h
    rfl
  · obtain ⟨v, d, rfl, hd, ho, k⟩ := h
    refine ⟨_, PSs.nox (pss_one (ps_ret (pe_or (pe_call d_is_name.G (hr.mono (by decide)) (by rfl) d_is_name.g d_is_name.kp d_is_name.b .nil pass0 (pa_cons (pv 0) pa_nil)) (pe_one (pe_and (pe_callB call_isi (by rfl) N.isi (by decide +kernel) (pa_cons (pv 0) (pa_cons (pe_bltn (v := .ty "str") (u := .type "str") (by rfl) hs (by decide +kernel) rfl) pa_nil))) (pe_one (pe_cmpR op_eq (pv 0) (pe_glob (by rfl) gN (v := .str ".") ⟨_, rfl⟩) (nomark _)))))))), ?_⟩
    refine ⟨_, rfl, v, d, rfl, hd, ho, fun H1 s1 => ⟨_, rfl, ite2 (fun c => bq (A := True) (show isFW d = true by unfold isFW; rw [c, Bool.true_or]) (k H1 s1)) (fun c => ?_)⟩⟩
    have e : isFW d = isDot d := by
      unfold isFW
      rw [Bool.eq_false_iff.mpr c, Bool.false_or]
    refine ⟨_, rfl, _, _, _, _, _, rfl, .ty _, dpTy (dpS s1 hd), kitD d (by decide), _, rfl, ite2 (fun c2 => ?_) (fun c2 => ?_)⟩
    · obtain ⟨z, rfl⟩ : ∃ z, d = .str z := by
        cases d with
        | str z => exact ⟨z, rfl⟩
        | _ => exact absurd c2 (by simp only [isTy, tyN]; decide)
      cases hd
      have q := k H1 s1
      rw [e, show isDot (.str z) = decide (V.str z = V.str ".") from decide_eq_decide.mpr ⟨fun h => by rw [h], fun h => by injection h⟩] at q
      exact ⟨_, rfl, rfl, q⟩
    · have q := k H1 s1
      rw [e, show isDot d = false by
        cases d with
        | str z => exact absurd (by simp only [isTy, tyN]; decide) c2
        | _ => rfl] at q
      exact q
theorem scFR : FnScope ["value", "word"] ["value"] (defScope (top 31)) := ⟨rfl, rfl, rfl, by decide +kernel, rfl, by decide +kernel, by decide +kernel⟩
theorem ok_fr {f f1 : Addr} {fd d1 : FuncData} {tk : Tok} (F : FnP K "is_field_row" (top 31) f fd) (N : Nm mg) (hall : mg "all" = none) (gM : mg "MOST_FIELD_COLUMNS" = some (.int 20 tk)) (d_is_field_word : D1 P w K mg base "is_field_word" "value" 2 (spQ K okZ isFW) f1 d1) :
    FnOk P w K mg base CX0 3 f fd ["value"] (spQ K okNs isFRow) := by
  refine F.ok scFR (fun vs H Q E h => ?_) (fun cdv A outer s H vs Q E hr h => ?_)
  · obtain ⟨v, d, rfl, _⟩ := h
    rfl
  · obtain ⟨v, d, rfl, hd, ho, k⟩ := h
    refine ⟨_, PSs.nox (pss_cons (ps_if (PW.pt (pw_or (pt_not (pt_val (pe_callB call_isi (by rfl) N.isi (by decide +kernel) (pa_cons (pv 0) (pa_cons (pe_bltn (v := .ty "tuple") (u := .type "tuple") (by rfl) N.ttup (by decide +kernel) rfl) pa_nil))))) (pw_or1 (pt_not (pt_chain op_le op_le pe_int (pe_callB call_len_seq (by rfl) N.len PySem.boot_len (pa_cons (pv 0) pa_nil)) (pe_glob (by rfl) gM (v := .int 20) ⟨_, rfl⟩))))))
    (pss_one (ps_ret pe_bl))
    pss_nil)
  (pss_one (ps_ret (pe_callB (cr_all rfl) (by rfl) hall (by decide +kernel) (pa_cons (pe_lc (own := [("word", 1)]) (g := gName 1) (tt := tYes) rfl scFR.nd (pi_tup (pv 0)) (blkOk_by (own := [("word", 1)]) (N := ["value", "word"]) (sc := defScope (top 31)) (by decide +kernel)) (fun _ _ _ _ _ => (pg_name (i := 1) scFR.nd rfl (Or.inl rfl))) (fun _ _ _ _ _ => pts_nil) (fun _ _ _ _ _ => (pe_call d_is_field_word.G (hr.mono (by decide)) (by rfl) d_is_field_word.g d_is_field_word.kp d_is_field_word.b .nil pass0 (pa_cons (pv 1) pa_nil)))) pa_nil))))), ?_⟩
    refine ⟨_, rfl, _, _, _, _, _, rfl, .ty _, dpTy hd, kitD d (by decide), _, rfl, ite2 (fun c => ?_) (fun c => ?_)⟩
    · have c := tB c
      have e : isFRow d = false := by
        cases d with
        | tuple ds => exact absurd c (by simp only [isTy, tyN]; decide)
        | _ => rfl
      exact iteT (bq (A := True) e (k H (Same.refl H)))
    · have c := fB c
      obtain ⟨ds, rfl⟩ := isTy_tup c
      have hk := k H (Same.refl H)
      cases hd with
      | @tup p xs _ ht hx =>
        have hl := dpLen hx
        have no : ¬ (1 ≤ ds.length ∧ ds.length ≤ 20) → Q (.bl false) H := fun n => by
          have e : isFRow (.tuple ds) = false := by
            show (decide (1 ≤ ds.length) && (decide (ds.length ≤ 20) && ds.all isFW)) = false
            by_cases h1 : 1 ≤ ds.length
            · rw [decide_eq_false (fun h2 : ds.length ≤ 20 => n ⟨h1, h2⟩), Bool.false_and, Bool.and_false]
            · rw [decide_eq_false h1, Bool.false_and]
          rw [e] at hk
          exact hk
        refine ⟨_, rfl, p, _, rfl, .inr ht, _, _, rfl, rfl, _, rfl, ite2 (fun c1 => ⟨_, _, rfl, rfl, _, rfl, ite2 (fun c2 => ?_) (fun c2 => ?_)⟩) (fun c1 => ⟨_, rfl, ?_⟩)⟩
        rotate_left 2
        · exact iteT (no fun h => c1 (decide_eq_true (show (1 : Int) ≤ ((xs.length : Nat) : Int) by omega)))
        · refine no fun h => ?_
          have c2 : decide (((xs.length : Nat) : Int) ≤ 20) = false := Bool.not_eq_true' _ ▸ c2
          have := of_decide_eq_false c2
          omega
        · have c1 : (1 : Int) ≤ ((xs.length : Nat) : Int) := of_decide_eq_true c1
          have c2 : ((xs.length : Nat) : Int) ≤ 20 := by
            apply Classical.byContradiction
            intro n
            apply c2
            show (!decide (((xs.length : Nat) : Int) ≤ 20)) = true
            rw [decide_eq_false n]
            rfl
          refine ⟨_, rfl, p, rfl, ⟨xs, ht⟩, fun D nD => ?_⟩
          have ln : ∀ i, ((ds.take i).map fun e => V.bl (isFW e)).length < sizeLine := fun i => by
            rw [List.length_map, List.length_take]
            exact Nat.lt_of_le_of_lt (Nat.le_trans (Nat.min_le_right _ _) (ho ds rfl).1) (by decide)
          refine lc_tup (K := K) (a := p) (xs := xs) (fun i H' => Same H H' ∧ H' D = some (.lst ((ds.take i).map fun e => V.bl (isFW e)))) ⟨same_upd nD, upd_same⟩ (fun i H' _ h => Same.seqT h.1 ht) ?_ ?_
          · rintro i x H2 hi ⟨s2, hD⟩
            have hi' := (List.getElem?_eq_some_iff.mp hi).1
            have he : ds[i]? = some (ds[i]'(by omega)) := List.getElem?_eq_getElem _
            obtain ⟨u, eu, hu⟩ := dpAt i hx he
            rw [hi] at eu
            cases eu
            refine ⟨rfl, iteT (B := Same H H2 ∧ H2 D = some (.lst ((ds.take (i + 1)).map fun e => V.bl (isFW e)))) ?_⟩
            refine ⟨_, rfl, x, _, rfl, dpS s2 hu, (ho ds rfl).2 _ (List.getElem_mem _), fun H3 s3 => ⟨_, s3 _ _ hD, ln _, same_upd' nD (s2.trans s3), by rw [upd_same, take_snoc he]⟩⟩
          · rintro H2 ⟨s2, hD⟩
            rw [hl, List.take_length] at hD
            refine ⟨D, ds.map isFW, rfl, SqL.of (by rw [List.map_map]; exact hD), bq (A := True) ?_ (k H2 s2)⟩
            show (decide (1 ≤ ds.length) && (decide (ds.length ≤ 20) && ds.all isFW)) = (ds.map isFW).all id
            rw [decide_eq_true (by omega : 1 ≤ ds.length), decide_eq_true (by omega : ds.length ≤ 20), Bool.true_and, Bool.true_and, List.all_map]
            rfl
end
end K5

set_option Elab.async false
set_option linter.all false
set_option maxRecDepth 100000
set_option maxHeartbeats 4000000
namespace K5
open PySem PySem.Spec PyProof.Rows L2
open K1 (FnP top Nm wm)
/-! ### cells of a field -/
def mxL : List Int → Int
  | [] => 0
  | x :: xs => xs.foldl max x
def mnL : List Int → Int
  | [] => 0
  | x :: xs => xs.foldl min x
theorem foldl_max (xs : List Int) : ∀ x, (xs.foldl max x = x ∨ xs.foldl max x ∈ xs) ∧ x ≤ xs.foldl max x ∧ ∀ y ∈ xs, y ≤ xs.foldl max x := by
  induction xs with
  | nil => exact fun x => ⟨.inl rfl, Int.le_refl _, fun y h => nomatch h⟩
  | cons a as ih =>
    intro x
    obtain ⟨h1, h2, h3⟩ := ih (max x a)
    refine ⟨?_, by have := Int.le_max_left x a; exact Int.le_trans this h2, fun y hy => ?_⟩
    · rcases h1 with h | h
      · rcases Int.le_total x a with q | q
        · exact .inr (by rw [List.foldl_cons, h, Int.max_eq_right q]; exact List.mem_cons_self ..)
        · exact .inl (by rw [List.foldl_cons, h, Int.max_eq_left q])
      · exact .inr (List.mem_cons_of_mem _ h)
    · rcases List.mem_cons.mp hy with e | h
      · rw [e]
        exact Int.le_trans (Int.le_max_right x a) h2
      · exact h3 y h
theorem foldl_min (xs : List Int) : ∀ x, (xs.foldl min x = x ∨ xs.foldl min x ∈ xs) ∧ xs.foldl min x ≤ x ∧ ∀ y ∈ xs, xs.foldl min x ≤ y := by
  induction xs with
  | nil => exact fun x => ⟨.inl rfl, Int.le_refl _, fun y h => nomatch h⟩
  | cons a as ih =>
    intro x
    obtain ⟨h1, h2, h3⟩ := ih (min x a)
    refine ⟨?_, by have := Int.min_le_left x a; exact Int.le_trans h2 this, fun y hy => ?_⟩
    · rcases h1 with h | h
      · rcases Int.le_total x a with q | q
        · exact .inl (by rw [List.foldl_cons, h, Int.min_eq_left q])
        · exact .inr (by rw [List.foldl_cons, h, Int.min_eq_right q]; exact List.mem_cons_self ..)
      · exact .inr (List.mem_cons_of_mem _ h)
    · rcases List.mem_cons.mp hy with e | h
      · rw [e]
        exact Int.le_trans h2 (Int.min_le_right x a)
      · exact h3 y h
theorem mx_is {ns : List Int} {m : Int} (h : m ∈ ns) (hm : ∀ y, y ∈ ns → y ≤ m) : m = mxL ns := by
  cases ns with
  | nil => exact nomatch h
  | cons x xs =>
    obtain ⟨h1, h2, h3⟩ := foldl_max xs x
    have a : mxL (x :: xs) ≤ m := hm _ (by
      show xs.foldl max x ∈ x :: xs
      rcases h1 with e | e
      · rw [e]; exact List.mem_cons_self ..
      · exact List.mem_cons_of_mem _ e)
    have b : m ≤ mxL (x :: xs) := by
      rcases List.mem_cons.mp h with e | e
      · rw [e]; exact h2
      · exact h3 m e
    omega
theorem mn_is {ns : List Int} {m : Int} (h : m ∈ ns) (hm : ∀ y, y ∈ ns → m ≤ y) : m = mnL ns := by
  cases ns with
  | nil => exact nomatch h
  | cons x xs =>
    obtain ⟨h1, h2, h3⟩ := foldl_min xs x
    have a : m ≤ mnL (x :: xs) := hm _ (by
      show xs.foldl min x ∈ x :: xs
      rcases h1 with e | e
      · rw [e]; exact List.mem_cons_self ..
      · exact List.mem_cons_of_mem _ e)
    have b : mnL (x :: xs) ≤ m := by
      rcases List.mem_cons.mp h with e | e
      · rw [e]; exact h2
      · exact h3 m e
    omega
def rectB (cs : List (Int × Int)) : Bool := decide ((mxL (cs.map (·.1)) - mnL (cs.map (·.1)) + 1) * (mxL (cs.map (·.2)) - mnL (cs.map (·.2)) + 1) = (cs.length : Int))
/-- a list of new pairs -/
def Cells (H : Hp) (a : Addr) (cs : List (Int × Int)) : Prop := ∃ ps : List Addr, H a = some (.lst (ps.map V.ref)) ∧ ps.length = cs.length ∧ ∀ (i : Nat) (p : Addr) (c : Int × Int), ps[i]? = some p → cs[i]? = some c → H p = some (.tup [.int c.1, .int c.2])
theorem Cells.same {H H' : Hp} {a : Addr} {cs : List (Int × Int)} (h : Cells H a cs) (s : Same H H') : Cells H' a cs := by
  obtain ⟨ps, h1, h2, h3⟩ := h
  exact ⟨ps, s _ _ h1, h2, fun i p c e e' => s _ _ (h3 i p c e e')⟩
def okCs (cs : List (Int × Int)) : Prop := cs.length ≤ 1000 ∧ ∀ c ∈ cs, 0 ≤ c.1 ∧ c.1 ≤ 1000 ∧ 0 ≤ c.2 ∧ c.2 ≤ 1000
section
variable {P : Program} {w : World} {K : PySem.W.Frag} {mg : Str → Option Value} {base : Heap}
def spRect : Sp := fun vs H Q _ => ∃ (a : Addr) (cs : List (Int × Int)), vs = [.ref a] ∧ Cells H a cs ∧ cs ≠ [] ∧ okCs cs ∧ ∀ H', Same H H' → Q (.bl (rectB cs)) H'
theorem scRc : FnScope ["cells", "rows", "row", "column", "columns"] ["cells"] (defScope (top 33)) := ⟨rfl, rfl, rfl, by decide +kernel, rfl, by decide +kernel, by decide +kernel⟩
theorem bnd {ns : List Int} {m n : Int} (h : ∀ x ∈ ns, 0 ≤ x ∧ x ≤ 1000) (hm : m ∈ ns) (hn : n ∈ ns) : (m - n + 1).natAbs < 2 ^ 98 := by
  have := h m hm
  have := h n hn
  omega
theorem ok_rc {f : Addr} {fd : FuncData} (F : FnP K "is_rectangle" (top 33) f fd) (N : Nm mg) (hmax : mg "max" = none) (hmin : mg "min" = none) : FnOk P w K mg base CX0 1 f fd ["cells"] spRect := by
  refine F.ok scRc (fun vs H Q E h => ?_) (fun cdv A outer s H vs Q E hr h => ?_)
  · obtain ⟨a, cs, rfl, _⟩ := h
    rfl
  · obtain ⟨a, cs, rfl, hc, h0, ⟨h1, h2⟩, k⟩ := h
    refine ⟨_, PSs.nox (pss_cons (ps_setLc (i := 1) (own := [("row", 2), ("column", 3)]) (g := gTup K 2 (gCons (gName 2) (gCons (gName 3) gNil))) (tt := tYes) rfl scRc.nd rfl rfl (sw_true rfl rfl rfl (by decide +kernel)) (pi_list (pv 0)) (blkOk_by (own := [("row", 2), ("column", 3)]) (N := ["cells", "rows", "row", "column", "columns"]) (sc := defScope (top 33)) (by decide +kernel)) (fun _ _ _ _ _ => (pg_tup rfl (pgs_cons (pg_name (i := 2) scRc.nd rfl (Or.inl rfl)) (pgs_cons (pg_name (i := 3) scRc.nd rfl (Or.inl rfl)) pgs_nil)))) (fun _ _ _ _ _ => pts_nil) (fun _ _ _ _ _ => (pv 2)))
  (pss_cons (ps_setLc (i := 4) (own := [("row", 2), ("column", 3)]) (g := gTup K 2 (gCons (gName 2) (gCons (gName 3) gNil))) (tt := tYes) rfl scRc.nd rfl rfl (sw_true rfl rfl rfl (by decide +kernel)) (pi_list (pv 0)) (blkOk_by (own := [("row", 2), ("column", 3)]) (N := ["cells", "rows", "row", "column", "columns"]) (sc := defScope (top 33)) (by decide +kernel)) (fun _ _ _ _ _ => (pg_tup rfl (pgs_cons (pg_name (i := 2) scRc.nd rfl (Or.inl rfl)) (pgs_cons (pg_name (i := 3) scRc.nd rfl (Or.inl rfl)) pgs_nil)))) (fun _ _ _ _ _ => pts_nil) (fun _ _ _ _ _ => (pv 3)))
  (pss_one (ps_ret (pe_cmpR op_eq (pe_op op_mulW (pe_op op_add (pe_op op_sub (pe_callB (cr_max rfl) (by rfl) hmax (by decide +kernel) (pa_cons (pv 1) pa_nil)) (pe_callB (cr_min rfl) (by rfl) hmin (by decide +kernel) (pa_cons (pv 1) pa_nil))) pe_int) (pe_op op_add (pe_op op_sub (pe_callB (cr_max rfl) (by rfl) hmax (by decide +kernel) (pa_cons (pv 4) pa_nil)) (pe_callB (cr_min rfl) (by rfl) hmin (by decide +kernel) (pa_cons (pv 4) pa_nil))) pe_int)) (pe_callB call_len_seq (by rfl) N.len PySem.boot_len (pa_cons (pv 0) pa_nil)) (nomark _)))))), ?_⟩
    have l0 : 0 < cs.length := List.length_pos_iff.mpr h0
    have ln : ∀ (i : Nat) (g : Int × Int → Int), ((cs.take i).map fun c => V.int (g c)).length < sizeLine := fun i g => by
      rw [List.length_map, List.length_take]
      exact Nat.lt_of_le_of_lt (Nat.le_trans (Nat.min_le_right _ _) h1) (by decide)
    have ts : ∀ {i : Nat} {c : Int × Int} (g : Int × Int → V), cs[i]? = some c → (cs.take (i + 1)).map g = (cs.take i).map g ++ [g c] := fun g e => by
      rw [List.take_succ, e, List.map_append]
      rfl
    obtain ⟨ps, c1, c2, c3⟩ := hc
    have at_ : ∀ {i : Nat} {x : V}, (ps.map V.ref)[i]? = some x → ∃ p c, x = .ref p ∧ cs[i]? = some c ∧ H p = some (.tup [.int c.1, .int c.2]) := fun {i x} hi => by
      rw [List.getElem?_map] at hi
      cases hp : ps[i]? with
      | none =>
        rw [hp] at hi
        exact nomatch hi
      | some p =>
        rw [hp] at hi
        cases hi
        have hl := (List.getElem?_eq_some_iff.mp hp).1
        have hc : cs[i]? = some (cs[i]'(by omega)) := List.getElem?_eq_getElem _
        exact ⟨p, _, rfl, hc, c3 _ _ _ hp hc⟩
    refine ⟨_, rfl, a, rfl, ⟨_, SqL.of c1⟩, fun D nD => ?_⟩
    refine lc_list (K := K) (a := a) (xs := ps.map V.ref) (fun i H' => Same H H' ∧ H' D = some (.lst ((cs.take i).map fun c => V.int c.1))) ⟨same_upd nD, upd_same⟩ (fun i H' _ h => SqL.of (h.1 _ _ c1)) ?_ ?_
    · rintro i x H2 hi ⟨s2, hD⟩
      obtain ⟨p, c, rfl, ec, hp⟩ := at_ hi
      refine ⟨p, _, rfl, SqT.of (s2 _ _ hp), rfl, _, _, rfl, _, _, rfl, rfl, rfl, iteT (B := Same H H2 ∧ H2 D = some (.lst ((cs.take (i + 1)).map fun c => V.int c.1))) ?_⟩
      exact ⟨_, rfl, _, hD, ln _ _, same_upd' nD s2, by rw [upd_same, ts (fun c => V.int c.1) ec]⟩
    rintro H2 ⟨s2, hD⟩
    have lp : (ps.map V.ref).length = cs.length := by rw [List.length_map, c2]
    rw [lp, List.take_length] at hD
    refine ⟨_, rfl, a, rfl, ⟨_, SqL.of (s2 _ _ c1)⟩, fun D2 nD2 => ?_⟩
    refine lc_list (K := K) (a := a) (xs := ps.map V.ref) (fun i H' => Same H2 H' ∧ H' D2 = some (.lst ((cs.take i).map fun c => V.int c.2))) ⟨same_upd nD2, upd_same⟩ (fun i H' _ h => SqL.of (h.1 _ _ (s2 _ _ c1))) ?_ ?_
    · rintro i x H3 hi ⟨s3, hD2⟩
      obtain ⟨p, c, rfl, ec, hp⟩ := at_ hi
      refine ⟨p, _, rfl, SqT.of (s3 _ _ (s2 _ _ hp)), rfl, _, _, rfl, _, _, rfl, rfl, rfl, iteT (B := Same H2 H3 ∧ H3 D2 = some (.lst ((cs.take (i + 1)).map fun c => V.int c.2))) ?_⟩
      exact ⟨_, rfl, _, hD2, ln _ _, same_upd' nD2 s3, by rw [upd_same, ts (fun c => V.int c.2) ec]⟩
    rintro H3 ⟨s3, hD2⟩
    rw [lp, List.take_length] at hD2
    have hD3 := s3 _ _ hD
    have m1 : (cs.map fun c => V.int c.1) = (cs.map (·.1)).map V.int := by rw [List.map_map]; rfl
    have m2 : (cs.map fun c => V.int c.2) = (cs.map (·.2)).map V.int := by rw [List.map_map]; rfl
    rw [m1] at hD3
    rw [m2] at hD2
    have b1 : ∀ x ∈ cs.map (·.1), 0 ≤ x ∧ x ≤ 1000 := fun x hx => by
      obtain ⟨c, hc, rfl⟩ := List.mem_map.mp hx
      exact ⟨(h2 c hc).1, (h2 c hc).2.1⟩
    have b2 : ∀ x ∈ cs.map (·.2), 0 ≤ x ∧ x ≤ 1000 := fun x hx => by
      obtain ⟨c, hc, rfl⟩ := List.mem_map.mp hx
      exact ⟨(h2 c hc).2.2.1, (h2 c hc).2.2.2⟩
    have q1 : 0 < (cs.map (·.1)).length := by rw [List.length_map]; exact l0
    have q2 : 0 < (cs.map (·.2)).length := by rw [List.length_map]; exact l0
    refine ⟨_, rfl, D, _, rfl, SqL.of hD3, q1, fun m1 hm1 hx1 => ?_⟩
    refine ⟨_, rfl, D, _, rfl, SqL.of hD3, q1, fun n1 hn1 hy1 => ?_⟩
    refine ⟨_, _, rfl, rfl, _, _, rfl, rfl, ?_⟩
    refine ⟨_, rfl, D2, _, rfl, SqL.of hD2, q2, fun m2 hm2 hx2 => ?_⟩
    refine ⟨_, rfl, D2, _, rfl, SqL.of hD2, q2, fun n2 hn2 hy2 => ?_⟩
    refine ⟨_, _, rfl, rfl, _, _, rfl, rfl, ?_⟩
    refine ⟨_, _, rfl, rfl, wm (bnd b1 hm1 hn1) (bnd b2 hm2 hn2), ?_⟩
    refine ⟨_, rfl, a, _, rfl, .inl (SqL.of (s3 _ _ (s2 _ _ c1))), rfl, ?_⟩
    rw [mx_is hm1 hx1, mn_is hn1 hy1, mx_is hm2 hx2, mn_is hn2 hy2, lp]
    have q := k _ (s2.trans s3)
    rw [show rectB cs = decide (V.int ((mxL (cs.map (·.1)) - mnL (cs.map (·.1)) + 1) * (mxL (cs.map (·.2)) - mnL (cs.map (·.2)) + 1)) = V.int ((cs.length : Nat) : Int)) from decide_eq_decide.mpr ⟨fun h => by rw [h], fun h => by injection h⟩] at q
    exact q
end
end K5

set_option Elab.async false
set_option linter.all false
set_option maxRecDepth 100000
set_option maxHeartbeats 4000000
namespace K5
open PySem PySem.Spec PyProof.Rows L2
open K1 (FnP top Nm wm)
/-! ### fields of one name -/
def cellZ (z : Str) (b : Bool) : Str := if b then z else "."
def rowD (z : Str) (bs : List Bool) : PyData := .tuple (bs.map fun b => .str (cellZ z b))
def fldD (z : Str) (rows : List (List Bool)) : PyData := .tuple (rows.map (rowD z))
def rowCs (r : Nat) (bs : List Bool) (j : Nat) : List (Int × Int) := (List.range j).filterMap fun (c : Nat) => if bs[c]? = some true then some ((r : Int), (c : Int)) else none
def oneCs (r : Nat) : Option (List Bool) → List (Int × Int)
  | some bs => rowCs r bs bs.length
  | none => []
def allCs (rows : List (List Bool)) (i : Nat) : List (Int × Int) := (List.range i).flatMap fun (r : Nat) => oneCs r rows[r]?
theorem rowCs_succ {r j : Nat} {bs : List Bool} : rowCs r bs (j + 1) = rowCs r bs j ++ (if bs[j]? = some true then [((r : Int), (j : Int))] else []) := by
  unfold rowCs
  rw [List.range_succ, List.filterMap_append]
  congr 1
  by_cases h : bs[j]? = some true
  · rw [if_pos h, List.filterMap_cons]
    simp only [h, if_true, List.filterMap_nil]
  · rw [if_neg h, List.filterMap_cons]
    simp only [h, if_false, List.filterMap_nil]
theorem allCs_succ {i : Nat} {rows : List (List Bool)} {bs : List Bool} (h : rows[i]? = some bs) : allCs rows (i + 1) = allCs rows i ++ rowCs i bs bs.length := by
  unfold allCs
  rw [List.range_succ, List.flatMap_append, List.flatMap_cons, List.flatMap_nil, List.append_nil, h]
  rfl
/-- what the dict at D holds: cs under the one name z -/
def One (H0 H : Hp) (D : Addr) (z : Str) (cs : List (Int × Int)) : Prop := H0 D = none ∧ ((cs = [] ∧ H D = some (.dK [])) ∨ (cs ≠ [] ∧ ∃ a, a ≠ D ∧ H0 a = none ∧ H D = some (.dK [(.inr z, .ref a)]) ∧ Cells H a cs))
theorem One.same {H0 H H' : Hp} {D : Addr} {z : Str} {cs : List (Int × Int)} (h : One H0 H D z cs) (s : Same H H') : One H0 H' D z cs := by
  obtain ⟨h0, h | ⟨h1, a, h2, h3, h4, h5⟩⟩ := h
  · exact ⟨h0, .inl ⟨h.1, s _ _ h.2⟩⟩
  · exact ⟨h0, .inr ⟨h1, a, h2, h3, s _ _ h4, h5.same s⟩⟩
theorem upd_same' {H0 H : Hp} {p : Addr} {o : HO} (n : H0 p = none) (s : Same H0 H) : Same H0 (upd H p o) := fun b x e => by
  rw [upd_ne (ne_of_none e n)]
  exact s b x e
theorem none_of {H G : Hp} {q : Addr} (s : Same H G) (h : G q = none) : H q = none := by
  cases e : H q with
  | none => rfl
  | some o =>
    rw [s _ _ e] at h
    cases h
theorem Cells.push {H : Hp} {a p : Addr} {cs : List (Int × Int)} {ps : List Addr} {c : Int × Int} (h1 : H a = some (.lst (ps.map V.ref))) (h2 : ps.length = cs.length) (h3 : ∀ (i : Nat) (p : Addr) (c : Int × Int), ps[i]? = some p → cs[i]? = some c → H p = some (.tup [.int c.1, .int c.2]))
    (hp : H p = some (.tup [.int c.1, .int c.2])) : Cells (upd H a (.lst (ps.map V.ref ++ [.ref p]))) a (cs ++ [c]) := by
  have na : ∀ {q : Addr} {xs : List V}, H q = some (.tup xs) → q ≠ a := fun {q xs} e z => by
    rw [z, h1] at e
    cases e
  refine ⟨ps ++ [p], by rw [upd_same, List.map_append]; rfl, by rw [List.length_append, List.length_append, h2]; rfl, fun i q d e e' => ?_⟩
  by_cases hi : i < ps.length
  · rw [List.getElem?_append_left hi] at e
    rw [List.getElem?_append_left (by omega)] at e'
    have := h3 i q d e e'
    rw [upd_ne (na this)]
    exact this
  · rw [List.getElem?_append_right (by omega)] at e
    rw [List.getElem?_append_right (by omega)] at e'
    have hz : i - ps.length = 0 := by
      have := (List.getElem?_eq_some_iff.mp e).1
      rw [List.length_singleton] at this
      omega
    rw [hz] at e
    rw [show i - cs.length = 0 by omega] at e'
    cases e
    cases e'
    rw [upd_ne (na hp)]
    exact hp
section
variable {P : Program} {w : World} {K : PySem.W.Frag} {mg : Str → Option Value} {base : Heap}
def okRows (z : Str) (rows : List (List Bool)) : Prop := z ≠ "." ∧ rows.length ≤ 20 ∧ ∀ bs ∈ rows, bs.length ≤ 20
def spFC (K : PySem.W.Frag) : Sp := fun vs H Q _ => ∃ (v : V) (z : Str) (rows : List (List Bool)), vs = [v] ∧ Dp K H v (fldD z rows) ∧ okRows z rows ∧ ∀ H' D, Same H H' → One H H' D z (allCs rows rows.length) → Q (.ref D) H'
theorem scFC : FnScope ["fields", "cells", "row", "words", "column", "word"] ["fields"] (defScope (top 32)) := ⟨rfl, rfl, rfl, by decide +kernel, rfl, by decide +kernel, by decide +kernel⟩
theorem rowCs_len {r j : Nat} {bs : List Bool} : (rowCs r bs j).length ≤ j := by
  refine Nat.le_trans (List.length_filterMap_le _ _) ?_
  rw [List.length_range]
  exact Nat.le_refl _
theorem allCs_len {rows : List (List Bool)} (h : ∀ bs ∈ rows, bs.length ≤ 20) : ∀ i, i ≤ rows.length → (allCs rows i).length ≤ 20 * i
  | 0, _ => Nat.le_refl _
  | i + 1, hi => by
    have he : rows[i]? = some (rows[i]'hi) := List.getElem?_eq_getElem _
    rw [allCs_succ he, List.length_append]
    have := allCs_len h i (by omega)
    have := rowCs_len (r := i) (j := (rows[i]'hi).length) (bs := rows[i]'hi)
    have := h _ (List.getElem_mem hi)
    omega
theorem ok_fc {f : Addr} {fd : FuncData} {tk : Tok} (F : FnP K "field_cells" (top 32) f fd) (N : Nm mg) (gN : mg "NO_FIELD" = some (.str "." tk)) : FnOk P w K mg base CX0 1 f fd ["fields"] (spFC K) := by
  refine F.ok scFC (fun vs H Q E h => ?_) (fun cdv A outer s H vs Q E hr h => ?_)
  · obtain ⟨v, z, rows, rfl, _⟩ := h
    rfl
  · obtain ⟨v, z, rows, rfl, hd, ⟨hz, hn, hb⟩, k⟩ := h
    refine ⟨_, PSs.nox (pss_cons (ps_set (i := 1) scFC.nd rfl (Or.inl rfl) pe_dnewK)
  (pss_cons (ps_for PassesOwn.never rfl (pi_enumT (by rfl) N.enu (pa_cons (pv 0) pa_nil))
    (pg_tup rfl (pgs_cons (pg_name (i := 2) scFC.nd rfl (Or.inl rfl)) (pgs_cons (pg_name (i := 3) scFC.nd rfl (Or.inl rfl)) pgs_nil)))
    (pss_one (ps_for PassesOwn.never rfl (pi_enumT (by rfl) N.enu (pa_cons (pv 3) pa_nil))
    (pg_tup rfl (pgs_cons (pg_name (i := 4) scFC.nd rfl (Or.inl rfl)) (pgs_cons (pg_name (i := 5) scFC.nd rfl (Or.inl rfl)) pgs_nil)))
    (pss_one (ps_if (pt_cmpR op_ne (pv 5) (pe_glob (by rfl) gN (v := .str ".") ⟨_, rfl⟩) (nomark _))
    (pss_one (ps_expr (pe_bm PySem.F.plainAttrs_list PySem.F.slot_list_append PySem.F.type_list_append mt_append (pe_dsetd (pv 1) (pv 5) (pe_lst pa_nil) ⟨rfl, rfl, rfl, rfl⟩) (pa_cons (pe_tup (pa_cons (pv 2) (pa_cons (pv 4) pa_nil))) pa_nil))))
    pss_nil)))))
  (pss_one (ps_ret (pv 1))))), ?_⟩
    cases hd with
    | @tup p xs _ ht hx =>
      have lx : xs.length = rows.length := by rw [dpLen hx, List.length_map]
      refine fun D nD => ?_
      have s0 := same_upd (o := .dK []) nD
      refine ⟨_, rfl, p, xs, rfl, Same.seqT s0 ht, for_enumT (K := K) (a := p) (xs := xs) (fun i σ H' => Same H H' ∧ One H H' D z (allCs rows i) ∧ ∃ v1 v2 v3 v4, σ = [some (.ref p), some (.ref D), v1, v2, v3, v4]) ⟨s0, ⟨nD, .inl ⟨rfl, upd_same⟩⟩, _, _, _, _, rfl⟩ (fun i σ H' _ h => Same.seqT h.1 ht) ?_ ?_⟩
      · rintro i x T σ H1 hi ⟨s1, o1, v1, v2, v3, v4, rfl⟩ nT
        have hi' := (List.getElem?_eq_some_iff.mp hi).1
        have he : rows[i]? = some (rows[i]'(by omega)) := List.getElem?_eq_getElem _
        generalize rows[i]'(by omega) = bs at he
        have hbs : bs.length ≤ 20 := hb bs (List.mem_of_getElem? he)
        obtain ⟨u, eu, hu⟩ := dpAt i hx (show (rows.map (rowD z))[i]? = some (rowD z bs) by rw [List.getElem?_map, he]; rfl)
        rw [hi] at eu
        cases eu
        cases hu with
        | @tup r ys _ hr hy =>
          have ly : ys.length = bs.length := by rw [dpLen hy, List.length_map]
          refine ⟨T, _, rfl, SqT.of upd_same, rfl, _, _, rfl, _, _, rfl, rfl, ?_⟩
          have sT := same_upd (o := .tup [.int (i : Nat), .ref r]) nT
          have s2 := s1.trans sT
          refine ⟨_, rfl, r, ys, rfl, Same.seqT s2 hr, for_enumT (K := K) (a := r) (xs := ys) (fun j σ H' => Same H H' ∧ One H H' D z (allCs rows i ++ rowCs i bs j) ∧ ∃ v3 v4, σ = [some (.ref p), some (.ref D), some (.int (i : Nat)), some (.ref r), v3, v4]) ⟨s2, by
              rw [show rowCs i bs 0 = [] from rfl, List.append_nil]
              exact o1.same sT, _, _, rfl⟩ (fun j σ H' _ h => Same.seqT h.1 hr) ?_ ?_⟩
          · rintro j y T2 σ H2 hj ⟨s3, o3, v3, v4, rfl⟩ nT2
            have hj' := (List.getElem?_eq_some_iff.mp hj).1
            have hc : bs[j]? = some (bs[j]'(by omega)) := List.getElem?_eq_getElem _
            generalize bs[j]'(by omega) = b at hc
            obtain ⟨u, eu, hu⟩ := dpAt j hy (show (bs.map fun b => PyData.str (cellZ z b))[j]? = some (.str (cellZ z b)) by rw [List.getElem?_map, hc]; rfl)
            rw [hj] at eu
            cases eu
            cases hu
            refine ⟨T2, _, rfl, SqT.of upd_same, rfl, _, _, rfl, _, _, rfl, rfl, ?_⟩
            have sT2 := same_upd (o := .tup [.int (j : Nat), V.str (cellZ z b)]) nT2
            have s4 := s3.trans sT2
            have o4 := o3.same sT2
            cases b with
            | false =>
              refine ⟨_, rfl, rfl, false, rfl, iteF ⟨s4, ?_, _, _, rfl⟩⟩
              rw [rowCs_succ, if_neg (by rw [hc]; intro e; cases e), List.append_nil]
              exact o4
            | true =>
              refine ⟨_, rfl, rfl, true, by show V.bl (!decide (V.str z = V.str ".")) = _; rw [decide_eq_false (fun e => hz (by injection e))]; rfl, iteT ?_⟩
              have eR : allCs rows i ++ rowCs i bs (j + 1) = (allCs rows i ++ rowCs i bs j) ++ [((i : Int), (j : Int))] := by
                rw [rowCs_succ, if_pos hc, List.append_assoc]
              have isd : IsD (upd H2 T2 (.tup [.int (j : Nat), V.str (cellZ z true)])) D := by
                obtain ⟨_, ⟨_, h⟩ | ⟨_, _, _, _, h, _⟩⟩ := o4
                · exact .inl ⟨_, .inl h⟩
                · exact .inl ⟨_, .inl h⟩
              generalize hG : upd H2 T2 (.tup [.int (j : Nat), V.str (cellZ z true)]) = G at s4 o4 isd
              refine ⟨_, rfl, D, rfl, isd, _, rfl, (by show 0 ≤ sizeLine; decide), fun q nq => ?_⟩
              have sq := same_upd (o := .lst []) nq
              obtain ⟨d0, ⟨e0, hD⟩ | ⟨ne, a, ha, ha0, hD, ps, c1, c2, c3⟩⟩ := o4
              · refine ⟨[], .inr z, sq _ _ hD, rfl, by decide, fun v hv => (by rw [show valV [] (Sum.inr z : Key) = none from rfl] at hv; cases hv), fun _ => ?_⟩
                have hqD : q ≠ D := fun e => by
                  rw [e, hD] at nq
                  cases nq
                have gq : upd (upd G q (.lst [])) D (.dK (putK [] (.inr z) (.ref q))) q = some (.lst []) := by rw [upd_ne hqD, upd_same]
                refine ⟨.inl ⟨rfl, _, SqL.of gq⟩, _, rfl, _, rfl, (by show 2 ≤ sizeLine; decide), fun p2 np2 => ⟨q, [], _, rfl, rfl, same_upd np2 _ _ gq, by decide, ?_⟩⟩
                have t1 := upd_same' (o := .lst []) (none_of s4 nq) s4
                have t2 := upd_same' (o := .dK (putK [] (.inr z) (.ref q))) d0 t1
                have t3 := upd_same' (o := .tup [.int (i : Nat), .int (j : Nat)]) (none_of t2 np2) t2
                have t4 := upd_same' (o := .lst ([] ++ [.ref p2])) (none_of s4 nq) t3
                have hp2q : p2 ≠ q := fun e => by
                  rw [e, gq] at np2
                  cases np2
                have hp2D : D ≠ p2 := fun e => by
                  rw [← e, upd_same] at np2
                  cases np2
                refine ⟨t4, ?_, _, _, rfl⟩
                rw [eR, e0, List.nil_append]
                refine ⟨d0, .inr ⟨List.cons_ne_nil _ _, q, hqD, none_of s4 nq, by rw [upd_ne (Ne.symm hqD), upd_ne hp2D, upd_same]; rfl, ?_⟩⟩
                exact Cells.push (ps := []) (cs := []) (c := ((i : Int), (j : Int))) (by rw [upd_ne (Ne.symm hp2q)]; exact gq) rfl (fun i p c e => nomatch e) upd_same
              · refine ⟨_, .inr z, sq _ _ hD, rfl, by show 1 < sizeLine; decide, fun v hv => ?_, fun hv => ?_⟩
                · have ev : v = .ref a := by
                    have : valV [((Sum.inr z : Key), V.ref a)] (.inr z) = some (.ref a) := by simp [valV]
                    rw [this] at hv
                    cases hv
                    rfl
                  subst ev
                  have g1 := sq _ _ c1
                  refine ⟨.inl ⟨rfl, _, SqL.of g1⟩, _, rfl, _, rfl, (by show 2 ≤ sizeLine; decide), fun p2 np2 => ⟨a, _, _, rfl, rfl, same_upd np2 _ _ g1, ?_, ?_⟩⟩
                  · rw [List.length_map, c2]
                    have := allCs_len hb i (by omega)
                    have := rowCs_len (r := i) (j := j) (bs := bs)
                    rw [List.length_append]
                    exact Nat.lt_of_lt_of_le (m := 1000) (by omega) (by decide)
                  have t1 := upd_same' (o := .lst []) (none_of s4 nq) s4
                  have t2 := upd_same' (o := .tup [.int (i : Nat), .int (j : Nat)]) (none_of t1 np2) t1
                  have t3 := upd_same' (o := .lst (ps.map V.ref ++ [.ref p2])) ha0 t2
                  have g2 := same_upd (o := .tup [.int (i : Nat), .int (j : Nat)]) np2 _ _ g1
                  have gD := same_upd (o := .tup [.int (i : Nat), .int (j : Nat)]) np2 _ _ (sq _ _ hD)
                  refine ⟨t3, ?_, _, _, rfl⟩
                  rw [eR]
                  refine ⟨d0, .inr ⟨by simp, a, ha, ha0, by rw [upd_ne (Ne.symm ha)]; exact gD, ?_⟩⟩
                  exact Cells.push (c := ((i : Int), (j : Int))) g2 c2 (fun i p c e e' => same_upd np2 _ _ (sq _ _ (c3 i p c e e'))) upd_same
                · have : valV [((Sum.inr z : Key), V.ref a)] (.inr z) = some (.ref a) := by simp [valV]
                  rw [this] at hv
                  cases hv
          · rintro σ H2 ⟨s3, o3, v3, v4, rfl⟩
            rw [ly] at o3
            exact ⟨s3, by rw [allCs_succ he]; exact o3, _, _, _, _, rfl⟩
      · rintro σ H1 ⟨s1, o1, v1, v2, v3, v4, rfl⟩
        rw [lx] at o1
        exact ⟨_, rfl, k _ _ s1 o1⟩
end
end K5

set_option Elab.async false
set_option linter.all false
set_option maxRecDepth 100000
set_option maxHeartbeats 4000000
namespace L2
open PySem PySem.Spec PyProof.Rows
theorem u1 {k : Nat} {A : Around} (r : Room k A) : A.units + 1 < cLine := by have := r.units; omega
/-- a dict comprehension over it: Pv by the turn and the heap (the new dict at D within) -/
theorem dc_it {J : It} {n : Nat} {G : Hp → Prop} {Y : Nat → Hp → V → Hp → Prop} (w : Walk J n G Y) {g : TG} {tt : TT} {tk tv : TE} {vs : List Nat} {σ : St} {H1 : Hp} {D : Addr} {Qd : Hp → Prop} (Pv : Nat → Hp → Prop) (h0 : Pv 0 (upd H1 D (.dK []))) (hG : ∀ i H, i ≤ n → Pv i H → G H)
    (hs : ∀ i x H H', i < n → Pv i H → Y i H x H' → g x (wipe σ vs) H' fun σ2 H2 => wipe σ2 vs = wipe σ vs ∧ tt σ2 H2 fun b H3 =>
      if b = true then tk σ2 H3 fun y H4 => tv σ2 H4 fun z H5 => ∃ kvs k, y = kV k ∧ H5 D = some (.dK kvs) ∧ kvs.length < sizeLine ∧ Pv (i + 1) (upd H5 D (.dK (putK kvs k z))) else Pv (i + 1) H3) (hd : ∀ H, Pv n H → Qd H) :
    ∃ W : Nat → Nat → Hp → Prop, (∃ m, W 0 m (upd H1 D (.dK []))) ∧ ∀ i m H, W i m H →
      (J.stop i H ∧ Qd H) ∨ (J.go i H ∧ ∃ Nx : Hp → Prop, (∀ H', Nx H' → ∃ m', m' < m ∧ W (i + 1) m' H') ∧ ∀ x H', J.yld i H x H' → g x (wipe σ vs) H' fun σ2 H2 => wipe σ2 vs = wipe σ vs ∧ tt σ2 H2 fun b H3 =>
        if b = true then tk σ2 H3 fun y H4 => tv σ2 H4 fun z H5 => ∃ kvs k, y = kV k ∧ H5 D = some (.dK kvs) ∧ kvs.length < sizeLine ∧ Nx (upd H5 D (.dK (putK kvs k z))) else Nx H3) := by
  refine ⟨fun i m H => m = n - i ∧ i ≤ n ∧ Pv i H, ⟨n, by simp, Nat.zero_le _, h0⟩, ?_⟩
  rintro i m H ⟨rfl, hi, p⟩
  have q := hG i H hi p
  by_cases hlt : i < n
  · refine .inr ⟨w.goes i H hlt q, Pv (i + 1), fun H' p' => ⟨n - (i + 1), by omega, rfl, hlt, p'⟩, fun x H' y => hs i x H H' hlt p (w.yields i H x H' hlt q y)⟩
  · have e : i = n := by omega
    subst e
    exact .inl ⟨w.stops H q, hd H p⟩
end L2
namespace K5
open PySem PySem.Spec PyProof.Rows L2
open K1 (FnP top Nm wm)
def okFld (z : Str) (rows : List (List Bool)) : Prop := nameB z = true ∧ okRows z rows ∧ (∃ n, 1 ≤ n ∧ ∀ bs ∈ rows, bs.length = n) ∧ (allCs rows rows.length = [] ∨ rectB (allCs rows rows.length) = true)
theorem allCs_mem {rows : List (List Bool)} {i : Nat} (h : ∀ bs ∈ rows, bs.length ≤ 20) (hi : i ≤ 20) {c : Int × Int} (hc : c ∈ allCs rows i) : 0 ≤ c.1 ∧ c.1 ≤ 1000 ∧ 0 ≤ c.2 ∧ c.2 ≤ 1000 := by
  obtain ⟨r, hr, hcr⟩ := List.mem_flatMap.mp hc
  have hr := List.mem_range.mp hr
  cases hb : rows[r]? with
  | none =>
    rw [hb] at hcr
    exact nomatch hcr
  | some bs =>
    rw [hb] at hcr
    have l := h bs (List.mem_of_getElem? hb)
    obtain ⟨j, hj, e⟩ := List.mem_filterMap.mp hcr
    have hj := List.mem_range.mp hj
    split at e
    · cases e
      refine ⟨?_, ?_, ?_, ?_⟩ <;> (show (_ : Int) ≤ _) <;> simp only [] <;> omega
    · exact nomatch e
theorem same_lock {H H2 H' : Hp} {D : Addr} {u v : HO} (s : Same H H2) (d : H D = none) (t : Same (upd H2 D u) H') : Same H (upd H' D v) := fun b x e => by
  have hb : b ≠ D := ne_of_none e d
  rw [upd_ne hb]
  exact t b x (by rw [upd_ne hb]; exact s b x e)
section
variable {P : Program} {w : World} {K : PySem.W.Frag} {mg : Str → Option Value} {base : Heap}
def spWF (K : PySem.W.Frag) : Sp := fun vs H Q _ => ∃ (v : V) (z : Str) (rows : List (List Bool)), vs = [v] ∧ Dp K H v (fldD z rows) ∧ okFld z rows ∧ ∀ H', Same H H' → Q .non H'
theorem scWF : FnScope ["fields", "index", "row", "cells", "wrong", "name", "word"] ["fields"] (defScope (top 34)) := ⟨rfl, rfl, rfl, by decide +kernel, rfl, by decide +kernel, by decide +kernel⟩
theorem ok_wf {f f1 f2 f3 : Addr} {fd d1 d2 d3 : FuncData} {tk : Tok} (F : FnP K "wrong_field_row" (top 34) f fd) (N : Nm mg) (hany : mg "any" = none) (gM : mg "MOST_FIELD_ROWS" = some (.int 20 tk)) (d_is_field_row : D1 P w K mg base "is_field_row" "value" 3 (spQ K okNs isFRow) f1 d1)
    (d_field_cells : D1 P w K mg base "field_cells" "fields" 1 (spFC K) f2 d2) (d_is_rectangle : D1 P w K mg base "is_rectangle" "cells" 1 spRect f3 d3) : FnOk P w K mg base CX0 4 f fd ["fields"] (spWF K) := by
  refine F.ok scWF (fun vs H Q E h => ?_) (fun cdv A outer s H vs Q E hr h => ?_)
  · obtain ⟨v, z, rows, rfl, _⟩ := h
    rfl
  · obtain ⟨v, z, rows, rfl, hd, ⟨hz, ok, ⟨n, n1, hn⟩, hc⟩, k⟩ := h
    refine ⟨_, PSs.nox (pss_cons (ps_if (PW.pt (pw_or (pt_not (pt_val (pe_callB call_isi (by rfl) N.isi (by decide +kernel) (pa_cons (pv 0) (pa_cons (pe_bltn (v := .ty "tuple") (u := .type "tuple") (by rfl) N.ttup (by decide +kernel) rfl) pa_nil))))) (pw_or1 (pt_cmpR op_gt (pe_callB call_len_seq (by rfl) N.len PySem.boot_len (pa_cons (pv 0) pa_nil)) (pe_glob (by rfl) gM (v := .int 20) ⟨_, rfl⟩) (nomark _)))))
    (pss_one (ps_ret (pe_un un_neg pe_int)))
    pss_nil)
  (pss_cons (ps_for PassesOwn.never rfl (pi_enumT (by rfl) N.enu (pa_cons (pv 0) pa_nil))
    (pg_tup rfl (pgs_cons (pg_name (i := 1) scWF.nd rfl (Or.inl rfl)) (pgs_cons (pg_name (i := 2) scWF.nd rfl (Or.inl rfl)) pgs_nil)))
    (pss_one (ps_if (PW.pt (pw_or (pt_not (pt_val (pe_call d_is_field_row.G (hr.mono (by decide)) (by rfl) d_is_field_row.g d_is_field_row.kp d_is_field_row.b .nil pass0 (pa_cons (pv 2) pa_nil)))) (pw_or1 (pt_cmpR op_ne (pe_callB call_len_seq (by rfl) N.len PySem.boot_len (pa_cons (pv 2) pa_nil)) (pe_callB call_len_seq (by rfl) N.len PySem.boot_len (pa_cons (pe_ix ix_tup (pv 0) pe_int (fun _ _ => rfl)) pa_nil)) (nomark _)))))
    (pss_one (ps_ret (pv 1)))
    pss_nil)))
  (pss_cons (ps_set (i := 3) scWF.nd rfl (Or.inr rfl) (pe_call d_field_cells.G (hr.mono (by decide)) (by rfl) d_field_cells.g d_field_cells.kp d_field_cells.b .nil pass0 (pa_cons (pv 0) pa_nil)))
  (pss_cons (ps_lock (ps_set (i := 4) scWF.nd rfl (Or.inr rfl) (pe_dc (own := [("name", 5)]) (g := gName 5) rfl scWF.nd (pi_keys (pv 3)) (blkOk_by (own := [("name", 5)]) (N := ["fields", "index", "row", "cells", "wrong", "name", "word"]) (sc := defScope (top 34)) (by decide +kernel)) (fun _ _ _ _ _ => (pg_name (i := 5) scWF.nd rfl (Or.inl rfl))) (fun _ _ _ _ _ => pts_one (pt_not (pt_val (pe_call d_is_rectangle.G (hr.mono (by decide)) (by rfl) d_is_rectangle.g d_is_rectangle.kp d_is_rectangle.b .nil pass0 (pa_cons (pe_dget (u1 hr) (pv 3) (pv 5) (fun _ _ => rfl)) pa_nil))))) (fun _ _ _ _ _ => (pv 5)) (fun _ _ _ _ _ => pe_bl))))
  (pss_cons (ps_for PassesOwn.never rfl (pi_enumT (by rfl) N.enu (pa_cons (pv 0) pa_nil))
    (pg_tup rfl (pgs_cons (pg_name (i := 1) scWF.nd rfl (Or.inl rfl)) (pgs_cons (pg_name (i := 2) scWF.nd rfl (Or.inl rfl)) pgs_nil)))
    (pss_one (ps_if (pt_val (pe_callB (cr_any rfl) (by rfl) hany (by decide +kernel) (pa_cons (pe_lc (own := [("word", 6)]) (g := gName 6) (tt := tYes) rfl scWF.nd (pi_tup (pv 2)) (blkOk_by (own := [("word", 6)]) (N := ["fields", "index", "row", "cells", "wrong", "name", "word"]) (sc := defScope (top 34)) (by decide +kernel)) (fun _ _ _ _ _ => (pg_name (i := 6) scWF.nd rfl (Or.inl rfl))) (fun _ _ _ _ _ => pts_nil) (fun _ _ _ _ _ => (pe_cmp (pc_din (u1 hr) (pv 6) (pv 4)) rfl))) pa_nil)))
    (pss_one (ps_ret (pv 1)))
    pss_nil)))
  (pss_one (ps_ret pe_non))))))), ?_⟩
    have okR : ∀ bs ∈ rows, isFRow (rowD z bs) = true ∧ okNs (rowD z bs) := fun bs hb => by
      have l1 := hn bs hb
      have l2 := ok.2.2 bs hb
      have hzl : z.cps.size ≤ 16 := by
        unfold nameB at hz
        simp only [Bool.and_eq_true, decide_eq_true_eq] at hz
        exact hz.2.1
      refine ⟨?_, ?_⟩
      · show (decide (1 ≤ (bs.map fun b => PyData.str (cellZ z b)).length) && (decide ((bs.map fun b => PyData.str (cellZ z b)).length ≤ 20) && (bs.map fun b => PyData.str (cellZ z b)).all isFW)) = true
        rw [List.length_map, decide_eq_true (by omega : 1 ≤ bs.length), decide_eq_true l2, Bool.true_and, Bool.true_and, List.all_map, List.all_eq_true]
        intro b _
        cases b with
        | true =>
          show (isName (.str z) || isDot (.str z)) = true
          rw [show isName (.str z) = nameB z from rfl, hz, Bool.true_or]
        | false =>
          show (isName (.str ".") || isDot (.str ".")) = true
          rw [show isDot (.str ".") = true by decide, Bool.or_true]
      · rintro ds e
        have e : PyData.tuple (bs.map fun b => PyData.str (cellZ z b)) = .tuple ds := e
        injection e with e
        subst e
        refine ⟨by rw [List.length_map]; omega, fun x hx y ey => ?_⟩
        obtain ⟨b, _, rfl⟩ := List.mem_map.mp hx
        injection ey with ey
        subst ey
        cases b with
        | true => exact Nat.le_trans hzl (by decide)
        | false => show ("." : Str).cps.size ≤ 1000; decide
    cases hd with
    | @tup p xs _ ht hx =>
      have lx : xs.length = rows.length := by rw [dpLen hx, List.length_map]
      have l20 := ok.2.1
      have rowAt : ∀ {i : Nat} {x : V}, xs[i]? = some x → ∃ bs, rows[i]? = some bs ∧ bs ∈ rows ∧ Dp K H x (rowD z bs) := fun {i x} hi => by
        have hi' := (List.getElem?_eq_some_iff.mp hi).1
        have he : rows[i]? = some (rows[i]'(by omega)) := List.getElem?_eq_getElem _
        obtain ⟨u, eu, hu⟩ := dpAt i hx (show (rows.map (rowD z))[i]? = some (rowD z (rows[i]'(by omega))) by rw [List.getElem?_map, he]; rfl)
        rw [hi] at eu
        cases eu
        exact ⟨_, he, List.getElem_mem _, hu⟩
      refine ⟨_, rfl, _, _, _, _, true, rfl, .ty _, tyT ht, kit_ty (by decide +kernel), true, rfl, iteF ?_⟩
      refine ⟨_, rfl, p, _, rfl, .inr ht, _, _, rfl, rfl, _, rfl, ite2 (fun c => absurd (of_decide_eq_true c) (by omega)) (fun _ => ?_)⟩
      refine ⟨_, rfl, p, xs, rfl, ht, for_enumT (K := K) (a := p) (xs := xs) (fun i σ H' => Same H H' ∧ ∃ v1 v2 v3 v4 v5 v6, σ = [some (.ref p), v1, v2, v3, v4, v5, v6]) ⟨Same.refl H, _, _, _, _, _, _, rfl⟩ (fun i σ H' _ h => Same.seqT h.1 ht) ?_ ?_⟩
      · rintro i x T σ H1 hi ⟨s1, v1, v2, v3, v4, v5, v6, rfl⟩ nT
        obtain ⟨bs, eb, mb, hu⟩ := rowAt hi
        obtain ⟨o1, o2⟩ := okR bs mb
        have hx0 : 0 < xs.length := by
          have := (List.getElem?_eq_some_iff.mp hi).1
          omega
        obtain ⟨b0, eb0, mb0, hu0⟩ := rowAt (List.getElem?_eq_getElem hx0)
        generalize hx00 : xs[0] = x0 at hu0
        have ex0 : xs[0]? = some x0 := by rw [← hx00]; exact List.getElem?_eq_getElem hx0
        have s2 := s1.trans (same_upd (o := .tup [.int (i : Nat), x]) nT)
        refine ⟨T, _, rfl, SqT.of upd_same, rfl, _, _, rfl, _, _, rfl, rfl, ?_⟩
        refine ⟨_, rfl, x, rowD z bs, rfl, dpS s2 hu, o2, fun H2 s3 => ⟨_, rfl, ite2 (fun c => absurd c (by rw [o1]; decide)) (fun c => ?_)⟩⟩
        have s23 := s2.trans s3
        clear s3 s2
        cases hu with
        | @tup r ys _ hr hy =>
          cases hu0 with
          | @tup r0 ys0 _ hr0 hy0 =>
            have e1 : ys.length = n := by rw [dpLen hy, List.length_map, hn bs mb]
            have e2 : ys0.length = n := by rw [dpLen hy0, List.length_map, hn b0 mb0]
            refine ⟨_, rfl, r, _, rfl, .inr (Same.seqT s23 hr), _, rfl, p, _, _, _, rfl, rfl, Same.seqT s23 ht, atI_nat (j := 0) ex0, r0, _, rfl, .inr (Same.seqT s23 hr0), rfl, false, ?_, iteF ⟨s23, _, _, _, _, _, _, rfl⟩⟩
            show V.bl (!decide (V.int ((ys.length : Nat) : Int) = V.int ((ys0.length : Nat) : Int))) = V.bl false
            rw [e1, e2, decide_eq_true rfl]
            rfl
      rintro σ H1 ⟨s1, v1, v2, v3, v4, v5, v6, rfl⟩
      refine ⟨_, rfl, .ref p, z, rows, rfl, dpS s1 (.tup ht hx), ok, fun H2 D s2 o2 => ?_⟩
      have s02 := s1.trans s2
      have hD : ∃ kvs, H2 D = some (.dK kvs) ∧ (kvs = [] ∨ ∃ a, a ≠ D ∧ kvs = [(.inr z, .ref a)] ∧ allCs rows rows.length ≠ [] ∧ Cells H2 a (allCs rows rows.length)) := by
        obtain ⟨_, ⟨_, h⟩ | ⟨h1, a, h2, _, h3, h4⟩⟩ := o2
        · exact ⟨_, h, .inl rfl⟩
        · exact ⟨_, h3, .inr ⟨a, h2, rfl, h1, h4⟩⟩
      have d0 : H D = none := none_of s1 o2.1
      obtain ⟨kvs, hD, hk⟩ := hD
      refine ⟨D, _, hD, trivial, fun od => ?_⟩
      refine ⟨_, rfl, D, od, rfl, .inl ⟨kvs, upd_same, fun W nW => ?_⟩⟩
      have hWD : W ≠ D := fun e => by
        rw [e, upd_same] at nW
        cases nW
      have hDG : upd H2 D (.frz od (.dK kvs)) D = some (.frz od (.dK kvs)) := upd_same
      have hkG : ∀ a, a ≠ D → kvs = [(.inr z, .ref a)] → Cells H2 a (allCs rows rows.length) → Cells (upd H2 D (.frz od (.dK kvs))) a (allCs rows rows.length) := fun a ha e ⟨ps, c1, c2, c3⟩ => by
        refine ⟨ps, by rw [upd_ne ha]; exact c1, c2, fun i p c e1 e2 => ?_⟩
        have := c3 i p c e1 e2
        have hp : p ≠ D := fun e => by
          rw [e, hD] at this
          cases this
        rw [upd_ne hp]
        exact this
      refine dc_it (walk_keys (d := D) (o := od) (kvs := kvs)) (fun i H' => Same (upd H2 D (.frz od (.dK kvs))) H' ∧ H' W = some (.dK [])) ⟨same_upd nW, upd_same⟩ (fun i H' _ h => h.1 _ _ hDG) ?_ ?_
      · rintro i x H3 H4 hi ⟨s3, hW⟩ ⟨rfl, ky, v, ek, rfl⟩
        rcases hk with rfl | ⟨a, ha, rfl, hne, hcs⟩
        · exact absurd hi (Nat.not_lt_zero _)
        have i0 : i = 0 := by
          have : i < 1 := hi
          omega
        subst i0
        cases ek
        have hb : rectB (allCs rows rows.length) = true := hc.resolve_left hne
        refine ⟨rfl, _, rfl, _, rfl, D, .ref a, rfl, .inl ⟨_, .inr z, .inr ⟨od, s3 _ _ hDG⟩, rfl, by simp [valV]⟩, ?_⟩
        refine ⟨a, _, rfl, (hkG a ha rfl hcs).same s3, hne, ⟨Nat.le_trans (allCs_len ok.2.2 _ (Nat.le_refl _)) (by omega), fun c hc => allCs_mem ok.2.2 l20 hc⟩, fun H5 s5 => ⟨_, rfl, ?_⟩⟩
        rw [hb]
        exact iteF ⟨s3.trans s5, s5 _ _ hW⟩
      rintro H3 ⟨s3, hW⟩
      refine ⟨s3 _ _ hDG, ?_⟩
      have s4 : Same H (upd H3 D (.dK kvs)) := same_lock s02 d0 s3
      have hW4 : upd H3 D (.dK kvs) W = some (.dK []) := by rw [upd_ne hWD]; exact hW
      generalize upd H3 D (.dK kvs) = H4 at s4 hW4
      refine ⟨_, rfl, p, xs, rfl, Same.seqT s4 ht, for_enumT (K := K) (a := p) (xs := xs) (fun i σ H' => (Same H H' ∧ H' W = some (.dK [])) ∧ ∃ v1 v2 v3 v5 v6, σ = [some (.ref p), v1, v2, v3, some (.ref W), v5, v6]) ⟨⟨s4, hW4⟩, _, _, _, _, _, rfl⟩ (fun i σ H' _ h => Same.seqT h.1.1 ht) ?_ ?_⟩
      · rintro i x T σ H5 hi ⟨⟨s5, hW5⟩, v1, v2, v3, v5, v6, rfl⟩ nT
        obtain ⟨bs, eb, mb, hu⟩ := rowAt hi
        cases hu with
        | @tup r ys _ hr hy =>
          have ly : ys.length = n := by rw [dpLen hy, List.length_map, hn bs mb]
          have n20 : n ≤ 20 := by
            rw [← hn bs mb]
            exact ok.2.2 bs mb
          have sT := same_upd (o := .tup [.int (i : Nat), .ref r]) nT
          have s6 := s5.trans sT
          refine ⟨T, _, rfl, SqT.of upd_same, rfl, _, _, rfl, _, _, rfl, rfl, ?_⟩
          refine ⟨_, rfl, r, rfl, ⟨ys, Same.seqT s6 hr⟩, fun L nL => ?_⟩
          refine lc_tup (K := K) (a := r) (xs := ys) (fun j H' => (Same H H' ∧ H' W = some (.dK [])) ∧ H' L = some (.lst ((List.replicate j false).map V.bl))) ⟨⟨same_upd' (none_of s6 nL) s6, same_upd nL _ _ (sT _ _ hW5)⟩, upd_same⟩ (fun j H' _ h => Same.seqT h.1.1 hr) ?_ ?_
          · rintro j y H6 hj ⟨⟨s7, hW6⟩, hL⟩
            have hj' := (List.getElem?_eq_some_iff.mp hj).1
            obtain ⟨u, eu, hu⟩ := dpAt j hy (show (bs.map fun b => PyData.str (cellZ z b))[j]? = some (.str (cellZ z (bs[j]'(by rw [hn bs mb]; omega)))) by rw [List.getElem?_map, List.getElem?_eq_getElem]; rfl)
            rw [hj] at eu
            cases eu
            cases hu
            refine ⟨rfl, iteT (B := (Same H H6 ∧ H6 W = some (.dK [])) ∧ H6 L = some (.lst ((List.replicate (j + 1) false).map V.bl))) ?_⟩
            refine ⟨_, rfl, _, rfl, W, none, rfl, .inl ⟨[], .inr _, .inl hW6, rfl, rfl⟩, _, hL, ?_, ⟨same_upd' (none_of s6 nL) s7, ?_⟩, ?_⟩
            · rw [List.length_map, List.length_replicate]
              exact Nat.lt_of_lt_of_le (m := 1000) (by omega) (by decide)
            · have hWL : W ≠ L := fun e => by
                rw [e, hL] at hW6
                cases hW6
              rw [upd_ne hWL]
              exact hW6
            · rw [upd_same, List.replicate_succ', List.map_append]
              rfl
          · rintro H6 ⟨⟨s7, hW6⟩, hL⟩
            refine ⟨L, _, rfl, SqL.of hL, false, ?_, iteF ⟨⟨s7, hW6⟩, _, _, _, _, _, rfl⟩⟩
            show V.bl ((List.replicate ys.length false).any id) = V.bl false
            rw [List.any_replicate]
            split <;> rfl
      · rintro σ H5 ⟨⟨s5, hW5⟩, v1, v2, v3, v5, v6, rfl⟩
        exact k _ s5
end
end K5

set_option Elab.async false
set_option linter.all false
set_option maxRecDepth 100000
set_option maxHeartbeats 4000000
namespace K5
open PySem PySem.Spec PyProof.Rows L2
open K1 (FnP top Nm wm)
/-! ### checks, Grid made -/
theorem dT {p : Prop} [Decidable p] (h : p) : V.bl (decide p) = V.bl true := by rw [decide_eq_true h]
abbrev FnM (K : PySem.W.Frag) (m q : Str) (st : Stmt) (dvs : List V) (kws : List (Str × V)) (f : Addr) (fd : FuncData) : Prop := FunD K m q (defArgs st) (defBody st) (defScope st) dvs kws f fd
def fnames : List Str := ["columns", "rows", "fields", "more_columns", "more_rows", "flow", "dense", "column_gap", "row_gap", "justify", "align", "items_justify", "items_align"]
structure TG (K : PySem.W.Frag) (mg : Str → Option Value) (x : Str) (C fI fE : Addr) : Prop where
  gC : mg x = some (.ref C)
  cl : Cls K C
  mkC : Mk K C fI
  eqf : PySem.W.findIn K (.ref C) "__eq__" = some (some (.ref fE))
  eqi : PySem.W.isFn K (.ref fE) = true
  nef : PySem.W.findIn K (.ref C) "__ne__" = some (some (.builtin "object.__ne__"))
  cls : PySem.W.findIn K (.ref C) "__class__" = some (some (.builtin "object.__class__"))
  mro : PySem.W.mroIn K C (.type "object") = some true
  gget : PySem.W.specialIn K (.builtin "object.__class__") "__get__" = some (some (.builtin "getset_descriptor.__get__"))
  gtk : PySem.W.takesIn K (.builtin "object.__class__") = some true
  self : PySem.W.kitOne K (.ref C) (.ref C) = some true
  nf : PySem.W.notFirst K C (.ref C) = true
  na : ∀ y ∈ fnames, NoAttr K C y
theorem TG.ty {K : PySem.W.Frag} {mg : Str → Option Value} {x : Str} {C fI fE : Addr} (T : TG K mg x C fI fE) {H : Hp} {a dx : Addr} {fs : List (Str × V)} (e : H a = some (.ins C dx fs)) : TyX K H (.ref a) (.ref C) := .base (.ins e T.cl T.cls T.gget T.gtk T.mro)
/-- all but a keep what they hold -/
def Keep (a : Addr) (H H' : Hp) : Prop := ∀ b o, b ≠ a → H b = some o → H' b = some o
theorem Keep.of {a : Addr} {H H' : Hp} (s : Same H H') : Keep a H H' := fun b o _ e => s b o e
theorem Keep.trans {a : Addr} {H H1 H2 : Hp} (s : Keep a H H1) (t : Keep a H1 H2) : Keep a H H2 := fun b o n e => t b o n (s b o n e)
theorem Keep.upd {a : Addr} {H H1 : Hp} {o : HO} (s : Keep a H H1) : Keep a H (upd H1 a o) := fun b o' n e => by
  rw [upd_ne n]
  exact s b o' n e
def okMore (ds : List PyData) : Prop := 1 ≤ ds.length ∧ ds.length ≤ 8 ∧ ∀ e ∈ ds, okB e ∧ isSize e = true
def flows : List Str := ["row", "column"]
def lanesWays : List Str := ["start", "end", "center", "stretch", "between", "around", "evenly"]
def waysAcross : List Str := ["start", "end", "center", "stretch"]
def waysDown : List Str := ["start", "end", "center", "stretch", "baseline"]
structure Gr where
  c : PyData
  r : PyData
  z : Str
  rows : List (List Bool)
  mc : List PyData
  mr : List PyData
  fl : Str
  de : Bool
  cg : PyData
  rg : PyData
  j : Str
  al : Str
  ij : Str
  ia : Str
def Gr.ds (g : Gr) : List PyData := [g.c, g.r, fldD g.z g.rows, .tuple g.mc, .tuple g.mr, .str g.fl, .bool g.de, g.cg, g.rg, .str g.j, .str g.al, .str g.ij, .str g.ia]
structure OkGr (g : Gr) : Prop where
  c1 : okInh g.c ∧ okEnt g.c
  c2 : (isInh g.c || areEnt g.c) = true
  r1 : okInh g.r ∧ okEnt g.r
  r2 : (isInh g.r || areEnt g.r) = true
  f : okFld g.z g.rows
  mc : okMore g.mc
  mr : okMore g.mr
  fl : isWord (.str g.fl) flows = true
  cg1 : okS g.cg
  cg2 : isFixed g.cg = true
  rg1 : okS g.rg
  rg2 : isFixed g.rg = true
  j : isWord (.str g.j) lanesWays = true
  al : isWord (.str g.al) lanesWays = true
  ij : isWord (.str g.ij) waysAcross = true
  ia : isWord (.str g.ia) waysDown = true
structure Ways (K : PySem.W.Frag) (mg : Str → Option Value) (aF aL aA aD : Addr) : Prop where
  gF : mg "FLOWS" = some (.ref aF)
  hF : ∀ H, SqT K H aF (flows.map V.str)
  gL : mg "LANES_WAYS" = some (.ref aL)
  hL : ∀ H, SqT K H aL (lanesWays.map V.str)
  gA : mg "WAYS_ACROSS" = some (.ref aA)
  hA : ∀ H, SqT K H aA (waysAcross.map V.str)
  gD : mg "WAYS_DOWN" = some (.ref aD)
  hD : ∀ H, SqT K H aD (waysDown.map V.str)
section
variable {P : Program} {w : World} {K : PySem.W.Frag} {mg : Str → Option Value} {base : Heap}
def spCG : Sp := fun vs H Q _ => ∃ (x : V) (b : Bool), vs = [x, .bl b] ∧ b = true ∧ Q .non H
theorem scCG : FnScope ["part", "is_right"] ["part", "is_right"] (defScope (top 66)) := ⟨rfl, rfl, rfl, by decide +kernel, rfl, by decide +kernel, by decide +kernel⟩
theorem ok_cg {f : Addr} {fd : FuncData} (F : FnP K "check_grid" (top 66) f fd) (N : Nm mg) : FnOk P w K mg base CX0 1 f fd ["part", "is_right"] spCG := by
  refine F.ok scCG (fun vs H Q E h => ?_) (fun cdv A outer s H vs Q E hr h => ?_)
  · obtain ⟨x, b, rfl, _⟩ := h
    rfl
  · obtain ⟨x, b, rfl, rfl, k⟩ := h
    refine ⟨_, PSs.nox (pss_one (ps_if (pt_not (pt_val (pv 1)))
    pss_never
    pss_nil)), ?_⟩
    exact ⟨_, rfl, true, rfl, iteF k⟩
theorem scCF : FnScope ["fields", "index"] ["fields"] (defScope (top 67)) := ⟨rfl, rfl, rfl, by decide +kernel, rfl, by decide +kernel, by decide +kernel⟩
theorem ok_cf {f f1 : Addr} {fd d1 : FuncData} (F : FnP K "check_fields" (top 67) f fd) (N : Nm mg) (d_wrong_field_row : D1 P w K mg base "wrong_field_row" "fields" 4 (spWF K) f1 d1) : FnOk P w K mg base CX0 5 f fd ["fields"] (spWF K) := by
  refine F.ok scCF (fun vs H Q E h => ?_) (fun cdv A outer s H vs Q E hr h => ?_)
  · obtain ⟨v, z, rows, rfl, _⟩ := h
    rfl
  · obtain ⟨v, z, rows, rfl, hd, ok, k⟩ := h
    refine ⟨_, PSs.nox (pss_cons (ps_set (i := 1) scCF.nd rfl (Or.inl rfl) (pe_call d_wrong_field_row.G (hr.mono (by decide)) (by rfl) d_wrong_field_row.g d_wrong_field_row.kp d_wrong_field_row.b .nil pass0 (pa_cons (pv 0) pa_nil)))
  (pss_one (ps_if (pt_cmp (pc_notN (pv 1)))
    pss_never
    pss_nil))), ?_⟩
    exact ⟨_, rfl, v, z, rows, rfl, hd, ok, fun H' s => ⟨_, rfl, false, rfl, iteF (k _ s)⟩⟩
def spFS (K : PySem.W.Frag) : Sp := fun vs H Q _ => ∃ (x v : V) (ds : List PyData), vs = [x, v] ∧ Dp K H v (.tuple ds) ∧ okMore ds ∧ ∀ H', Same H H' → Q .non H'
theorem scFS : FnScope ["part", "sizes", "index", "size"] ["part", "sizes"] (defScope (top 68)) := ⟨rfl, rfl, rfl, by decide +kernel, rfl, by decide +kernel, by decide +kernel⟩
theorem ok_fs {f f1 : Addr} {fd d1 : FuncData} {tk : Tok} (F : FnP K "check_further_sizes" (top 68) f fd) (N : Nm mg) (gM : mg "MOST_FURTHER_SIZES" = some (.int 8 tk)) (d_is_size : D1 P w K mg base "is_size" "value" 8 (spQ K okB isSize) f1 d1) :
    FnOk P w K mg base CX0 9 f fd ["part", "sizes"] (spFS K) := by
  refine F.ok scFS (fun vs H Q E h => ?_) (fun cdv A outer s H vs Q E hr h => ?_)
  · obtain ⟨x, v, ds, rfl, _⟩ := h
    rfl
  · obtain ⟨x, v, ds, rfl, hd, ⟨n1, n8, hs⟩, k⟩ := h
    refine ⟨_, PSs.nox (pss_cons (ps_if (PW.pt (pw_or (pt_not (pt_val (pe_callB call_isi (by rfl) N.isi (by decide +kernel) (pa_cons (pv 1) (pa_cons (pe_bltn (v := .ty "tuple") (u := .type "tuple") (by rfl) N.ttup (by decide +kernel) rfl) pa_nil))))) (pw_or1 (pt_not (pt_chain op_le op_le pe_int (pe_callB call_len_seq (by rfl) N.len PySem.boot_len (pa_cons (pv 1) pa_nil)) (pe_glob (by rfl) gM (v := .int 8) ⟨_, rfl⟩))))))
    pss_never
    pss_nil)
  (pss_one (ps_for PassesOwn.never rfl (pi_enumT (by rfl) N.enu (pa_cons (pv 1) pa_nil))
    (pg_tup rfl (pgs_cons (pg_name (i := 2) scFS.nd rfl (Or.inl rfl)) (pgs_cons (pg_name (i := 3) scFS.nd rfl (Or.inl rfl)) pgs_nil)))
    (pss_one (ps_if (pt_not (pt_val (pe_call d_is_size.G (hr.mono (by decide)) (by rfl) d_is_size.g d_is_size.kp d_is_size.b .nil pass0 (pa_cons (pv 3) pa_nil))))
    pss_never
    pss_nil))))), ?_⟩
    cases hd with
    | @tup p xs _ ht hx =>
      have hl := dpLen hx
      refine ⟨_, rfl, _, _, _, _, true, rfl, .ty _, tyT ht, kit_ty (by decide +kernel), true, rfl, iteF ?_⟩
      refine ⟨_, rfl, p, _, rfl, .inr ht, _, _, rfl, rfl, true, dT (by omega : (1 : Int) ≤ ((xs.length : Nat) : Int)), iteT ⟨_, _, rfl, rfl, true, dT (by omega : ((xs.length : Nat) : Int) ≤ 8), iteF ?_⟩⟩
      refine ⟨_, rfl, p, xs, rfl, ht, for_enumT (K := K) (a := p) (xs := xs) (fun i σ H' => Same H H' ∧ ∃ v1 v2, σ = [some x, some (.ref p), v1, v2]) ⟨Same.refl H, _, _, rfl⟩ (fun i σ H' _ h => Same.seqT h.1 ht) ?_ ?_⟩
      · rintro i y T σ H1 hi ⟨s1, v1, v2, rfl⟩ nT
        have hi' := (List.getElem?_eq_some_iff.mp hi).1
        have he : ds[i]? = some (ds[i]'(by omega)) := List.getElem?_eq_getElem _
        obtain ⟨u, eu, hu⟩ := dpAt i hx he
        rw [hi] at eu
        cases eu
        obtain ⟨o1, o2⟩ := hs _ (List.getElem_mem (by omega : i < ds.length))
        have s2 := s1.trans (same_upd (o := .tup [.int (i : Nat), y]) nT)
        refine ⟨T, _, rfl, SqT.of upd_same, rfl, _, _, rfl, _, _, rfl, rfl, ?_⟩
        refine ⟨_, rfl, y, _, rfl, dpS s2 hu, o1, fun H2 s3 => ⟨true, by rw [o2], iteF ⟨s2.trans s3, _, _, rfl⟩⟩⟩
      · rintro σ H1 ⟨s1, v1, v2, rfl⟩
        exact k _ s1
end
end K5

set_option Elab.async false
set_option linter.all false
set_option maxRecDepth 100000
set_option maxHeartbeats 4000000
namespace K5
open PySem PySem.Spec PyProof.Rows L2
open K1 (FnP top Nm wm)
section
variable {P : Program} {w : World} {K : PySem.W.Frag} {mg : Str → Option Value} {base : Heap} {C fI fE aF aL aA aD : Addr}
def spGI (K : PySem.W.Frag) (C : Addr) : Sp := fun vs H Q _ => ∃ (a dx : Addr) (xs : List V) (g : Gr), vs = .ref a :: xs ∧ H a = some (.ins C dx []) ∧ DpAll K H xs g.ds ∧ OkGr g ∧ ∀ H', Keep a H H' → H' a = some (.ins C dx (fnames.zip xs)) → Q .non H'
theorem scGI : FnScope ["self", "columns", "rows", "fields", "more_columns", "more_rows", "flow", "dense", "column_gap", "row_gap", "justify", "align", "items_justify", "items_align"] ["self", "columns", "rows", "fields", "more_columns", "more_rows", "flow", "dense", "column_gap", "row_gap", "justify", "align", "items_justify", "items_align"] (defScope (inClass (top 65) 0)) := ⟨rfl, rfl, rfl, by decide +kernel, rfl, by decide +kernel, by decide +kernel⟩
theorem ok_gi {f f1 f2 f3 f4 f5 f6 : Addr} {fd d1 d2 d3 d4 d5 d6 : FuncData} {dvs : List V} {kws : List (Str × V)} (F : FnM K "__init__" "Grid.__init__" (inClass (top 65) 0) dvs kws f fd) (N : Nm mg) (T : TG K mg "Grid" C fI fE) (W : Ways K mg aF aL aA aD)
    (d_check_grid : D2 P w K mg base "check_grid" "part" "is_right" 1 spCG f1 d1) (d_check_fields : D1 P w K mg base "check_fields" "fields" 5 (spWF K) f2 d2) (d_check_further_sizes : D2 P w K mg base "check_further_sizes" "part" "sizes" 9 (spFS K) f3 d3)
    (d_is_template : D1 P w K mg base "is_template" "value" 14 (spQ K (fun d => okInh d ∧ okEnt d) fun d => isInh d || areEnt d) f4 d4) (d_is_word : D2 P w K mg base "is_word" "value" "words" 1 (spWord K) f5 d5) (d_is_fixed : D1 P w K mg base "is_fixed" "value" 5 (spQ K okS isFixed) f6 d6) :
    FnOk P w K mg base CX0 15 f fd ("self" :: fnames) (spGI K C) := by
  refine F.ok scGI (fun vs H Q E h => ?_) (fun cdv A outer s H vs Q E hr h => ?_)
  · obtain ⟨a, dx, xs, g, rfl, _, hx, _⟩ := h
    show xs.length + 1 = 14
    rw [dpLen hx]
    rfl
  · obtain ⟨a, dx, xs, g, rfl, ha, hx, ok, k⟩ := h
    refine ⟨_, PSs.nox (pss_cons (ps_expr (pe_call d_check_grid.G (hr.mono (by decide)) (by rfl) d_check_grid.g d_check_grid.kp d_check_grid.b .nil pass0 (pa_cons pe_str (pa_cons (pe_call d_is_template.G (hr.mono (by decide)) (by rfl) d_is_template.g d_is_template.kp d_is_template.b .nil pass0 (pa_cons (pv 1) pa_nil)) pa_nil))))
  (pss_cons (ps_expr (pe_call d_check_grid.G (hr.mono (by decide)) (by rfl) d_check_grid.g d_check_grid.kp d_check_grid.b .nil pass0 (pa_cons pe_str (pa_cons (pe_call d_is_template.G (hr.mono (by decide)) (by rfl) d_is_template.g d_is_template.kp d_is_template.b .nil pass0 (pa_cons (pv 2) pa_nil)) pa_nil))))
  (pss_cons (ps_expr (pe_call d_check_fields.G (hr.mono (by decide)) (by rfl) d_check_fields.g d_check_fields.kp d_check_fields.b .nil pass0 (pa_cons (pv 3) pa_nil)))
  (pss_cons (ps_expr (pe_call d_check_further_sizes.G (hr.mono (by decide)) (by rfl) d_check_further_sizes.g d_check_further_sizes.kp d_check_further_sizes.b .nil pass0 (pa_cons pe_str (pa_cons (pv 4) pa_nil))))
  (pss_cons (ps_expr (pe_call d_check_further_sizes.G (hr.mono (by decide)) (by rfl) d_check_further_sizes.g d_check_further_sizes.kp d_check_further_sizes.b .nil pass0 (pa_cons pe_str (pa_cons (pv 5) pa_nil))))
  (pss_cons (ps_expr (pe_call d_check_grid.G (hr.mono (by decide)) (by rfl) d_check_grid.g d_check_grid.kp d_check_grid.b .nil pass0 (pa_cons pe_str (pa_cons (pe_call d_is_word.G (hr.mono (by decide)) (by rfl) d_is_word.g d_is_word.kp d_is_word.b .nil pass0 (pa_cons (pv 6) (pa_cons (pe_glob (by rfl) W.gF (v := .ref aF) rfl) pa_nil))) pa_nil))))
  (pss_cons (ps_expr (pe_call d_check_grid.G (hr.mono (by decide)) (by rfl) d_check_grid.g d_check_grid.kp d_check_grid.b .nil pass0 (pa_cons pe_str (pa_cons (pe_callB call_isi (by rfl) N.isi (by decide +kernel) (pa_cons (pv 7) (pa_cons (pe_bltn (v := .ty "bool") (u := .type "bool") (by rfl) N.tbool (by decide +kernel) rfl) pa_nil))) pa_nil))))
  (pss_cons (ps_expr (pe_call d_check_grid.G (hr.mono (by decide)) (by rfl) d_check_grid.g d_check_grid.kp d_check_grid.b .nil pass0 (pa_cons pe_str (pa_cons (pe_call d_is_fixed.G (hr.mono (by decide)) (by rfl) d_is_fixed.g d_is_fixed.kp d_is_fixed.b .nil pass0 (pa_cons (pv 8) pa_nil)) pa_nil))))
  (pss_cons (ps_expr (pe_call d_check_grid.G (hr.mono (by decide)) (by rfl) d_check_grid.g d_check_grid.kp d_check_grid.b .nil pass0 (pa_cons pe_str (pa_cons (pe_call d_is_fixed.G (hr.mono (by decide)) (by rfl) d_is_fixed.g d_is_fixed.kp d_is_fixed.b .nil pass0 (pa_cons (pv 9) pa_nil)) pa_nil))))
  (pss_cons (ps_expr (pe_call d_check_grid.G (hr.mono (by decide)) (by rfl) d_check_grid.g d_check_grid.kp d_check_grid.b .nil pass0 (pa_cons pe_str (pa_cons (pe_call d_is_word.G (hr.mono (by decide)) (by rfl) d_is_word.g d_is_word.kp d_is_word.b .nil pass0 (pa_cons (pv 10) (pa_cons (pe_glob (by rfl) W.gL (v := .ref aL) rfl) pa_nil))) pa_nil))))
  (pss_cons (ps_expr (pe_call d_check_grid.G (hr.mono (by decide)) (by rfl) d_check_grid.g d_check_grid.kp d_check_grid.b .nil pass0 (pa_cons pe_str (pa_cons (pe_call d_is_word.G (hr.mono (by decide)) (by rfl) d_is_word.g d_is_word.kp d_is_word.b .nil pass0 (pa_cons (pv 11) (pa_cons (pe_glob (by rfl) W.gL (v := .ref aL) rfl) pa_nil))) pa_nil))))
  (pss_cons (ps_expr (pe_call d_check_grid.G (hr.mono (by decide)) (by rfl) d_check_grid.g d_check_grid.kp d_check_grid.b .nil pass0 (pa_cons pe_str (pa_cons (pe_call d_is_word.G (hr.mono (by decide)) (by rfl) d_is_word.g d_is_word.kp d_is_word.b .nil pass0 (pa_cons (pv 12) (pa_cons (pe_glob (by rfl) W.gA (v := .ref aA) rfl) pa_nil))) pa_nil))))
  (pss_cons (ps_expr (pe_call d_check_grid.G (hr.mono (by decide)) (by rfl) d_check_grid.g d_check_grid.kp d_check_grid.b .nil pass0 (pa_cons pe_str (pa_cons (pe_call d_is_word.G (hr.mono (by decide)) (by rfl) d_is_word.g d_is_word.kp d_is_word.b .nil pass0 (pa_cons (pv 13) (pa_cons (pe_glob (by rfl) W.gD (v := .ref aD) rfl) pa_nil))) pa_nil))))
  (pss_cons (ps_fld (pv 0) (pv 1) rfl)
  (pss_cons (ps_fld (pv 0) (pv 2) rfl)
  (pss_cons (ps_fld (pv 0) (pv 3) rfl)
  (pss_cons (ps_fld (pv 0) (pv 4) rfl)
  (pss_cons (ps_fld (pv 0) (pv 5) rfl)
  (pss_cons (ps_fld (pv 0) (pv 6) rfl)
  (pss_cons (ps_fld (pv 0) (pv 7) rfl)
  (pss_cons (ps_fld (pv 0) (pv 8) rfl)
  (pss_cons (ps_fld (pv 0) (pv 9) rfl)
  (pss_cons (ps_fld (pv 0) (pv 10) rfl)
  (pss_cons (ps_fld (pv 0) (pv 11) rfl)
  (pss_cons (ps_fld (pv 0) (pv 12) rfl)
  (pss_one (ps_fld (pv 0) (pv 13) rfl))))))))))))))))))))))))))), ?_⟩
    have hxx := hx
    obtain ⟨c, r, z, rows, mc, mr, fl, de, cg, rg, j, al, ij, ia⟩ := g
    obtain ⟨oc1, oc2, or1, or2, of, omc, omr, ofl, ocg1, ocg2, org1, org2, oj, oal, oij, oia⟩ := ok
    have hx : DpAll K H xs [c, r, fldD z rows, .tuple mc, .tuple mr, .str fl, .bool de, cg, rg, .str j, .str al, .str ij, .str ia] := hx
    cases hx with
    | @cons v0 xs _ _ h0 hx =>
      cases hx with
      | @cons v1 xs _ _ h1 hx =>
        cases hx with
        | @cons v2 xs _ _ h2 hx =>
          cases hx with
          | @cons v3 xs _ _ h3 hx =>
            cases hx with
            | @cons v4 xs _ _ h4 hx =>
              cases hx with
              | @cons v5 xs _ _ h5 hx =>
                cases hx with
                | @cons v6 xs _ _ h6 hx =>
                  cases hx with
                  | @cons v7 xs _ _ h7 hx =>
                    cases hx with
                    | @cons v8 xs _ _ h8 hx =>
                      cases hx with
                      | @cons v9 xs _ _ h9 hx =>
                        cases hx with
                        | @cons v10 xs _ _ h10 hx =>
                          cases hx with
                          | @cons v11 xs _ _ h11 hx =>
                            cases hx with
                            | @cons v12 xs _ _ h12 hx =>
                              cases hx
                              cases h5
                              cases h9
                              cases h10
                              cases h11
                              cases h12
                              cases h6
                              refine ⟨_, rfl, v0, c, rfl, h0, oc1, fun H1 s1 => ⟨_, _, rfl, oc2, ?_⟩⟩
                              refine ⟨_, rfl, v1, r, rfl, dpS s1 h1, or1, fun H2 s2 => ⟨_, _, rfl, or2, ?_⟩⟩
                              have s2 := s1.trans s2
                              refine ⟨_, rfl, v2, z, rows, rfl, dpS s2 h2, of, fun H3 s3 => ?_⟩
                              have s3 := s2.trans s3
                              refine ⟨_, rfl, _, v3, mc, rfl, dpS s3 h3, omc, fun H4 s4 => ?_⟩
                              have s4 := s3.trans s4
                              refine ⟨_, rfl, _, v4, mr, rfl, dpS s4 h4, omr, fun H5 s5 => ?_⟩
                              have s5 := s4.trans s5
                              refine ⟨_, rfl, _, _, aF, flows, rfl, .str _, W.hF _, _, _, rfl, ofl, ?_⟩
                              refine ⟨_, rfl, _, _, _, _, true, rfl, .ty _, .base (.bl _), kit_ty (by decide +kernel), _, _, rfl, rfl, ?_⟩
                              refine ⟨_, rfl, v7, cg, rfl, dpS s5 h7, ocg1, fun H6 s6 => ⟨_, _, rfl, ocg2, ?_⟩⟩
                              have s6 := s5.trans s6
                              refine ⟨_, rfl, v8, rg, rfl, dpS s6 h8, org1, fun H7 s7 => ⟨_, _, rfl, org2, ?_⟩⟩
                              have s7 := s6.trans s7
                              refine ⟨_, rfl, _, _, aL, lanesWays, rfl, .str _, W.hL _, _, _, rfl, oj, ?_⟩
                              refine ⟨_, rfl, _, _, aL, lanesWays, rfl, .str _, W.hL _, _, _, rfl, oal, ?_⟩
                              refine ⟨_, rfl, _, _, aA, waysAcross, rfl, .str _, W.hA _, _, _, rfl, oij, ?_⟩
                              refine ⟨_, rfl, _, _, aD, waysDown, rfl, .str _, W.hD _, _, _, rfl, oia, ?_⟩
                              refine ⟨_, rfl, _, rfl, a, C, dx, _, rfl, s7 _ _ ha, T.cl, T.na "columns" (by decide), (by show 0 < 1000; decide), ?_⟩
                              refine ⟨_, rfl, _, rfl, a, C, dx, _, rfl, upd_same, T.cl, T.na "rows" (by decide), (by show 1 < 1000; decide), ?_⟩
                              refine ⟨_, rfl, _, rfl, a, C, dx, _, rfl, upd_same, T.cl, T.na "fields" (by decide), (by show 2 < 1000; decide), ?_⟩
                              refine ⟨_, rfl, _, rfl, a, C, dx, _, rfl, upd_same, T.cl, T.na "more_columns" (by decide), (by show 3 < 1000; decide), ?_⟩
                              refine ⟨_, rfl, _, rfl, a, C, dx, _, rfl, upd_same, T.cl, T.na "more_rows" (by decide), (by show 4 < 1000; decide), ?_⟩
                              refine ⟨_, rfl, _, rfl, a, C, dx, _, rfl, upd_same, T.cl, T.na "flow" (by decide), (by show 5 < 1000; decide), ?_⟩
                              refine ⟨_, rfl, _, rfl, a, C, dx, _, rfl, upd_same, T.cl, T.na "dense" (by decide), (by show 6 < 1000; decide), ?_⟩
                              refine ⟨_, rfl, _, rfl, a, C, dx, _, rfl, upd_same, T.cl, T.na "column_gap" (by decide), (by show 7 < 1000; decide), ?_⟩
                              refine ⟨_, rfl, _, rfl, a, C, dx, _, rfl, upd_same, T.cl, T.na "row_gap" (by decide), (by show 8 < 1000; decide), ?_⟩
                              refine ⟨_, rfl, _, rfl, a, C, dx, _, rfl, upd_same, T.cl, T.na "justify" (by decide), (by show 9 < 1000; decide), ?_⟩
                              refine ⟨_, rfl, _, rfl, a, C, dx, _, rfl, upd_same, T.cl, T.na "align" (by decide), (by show 10 < 1000; decide), ?_⟩
                              refine ⟨_, rfl, _, rfl, a, C, dx, _, rfl, upd_same, T.cl, T.na "items_justify" (by decide), (by show 11 < 1000; decide), ?_⟩
                              refine ⟨_, rfl, _, rfl, a, C, dx, _, rfl, upd_same, T.cl, T.na "items_align" (by decide), (by show 12 < 1000; decide), ?_⟩
                              exact k _ (((((((((((((Keep.of s7).upd).upd).upd).upd).upd).upd).upd).upd).upd).upd).upd).upd).upd upd_same
end
end K5

set_option Elab.async false
set_option linter.all false
set_option maxRecDepth 100000
set_option maxHeartbeats 4000000
namespace K5
open PySem PySem.Spec PyProof.Rows L2
open K1 (FnP top Nm wm)
/-! ### == of grids -/
def eqAll : List PyData → List PyData → Bool
  | d :: ds, e :: es => PyData.eqv d e && eqAll ds es
  | _, _ => true
section
variable {P : Program} {w : World} {K : PySem.W.Frag} {mg : Str → Option Value} {base : Heap} {C fI fE : Addr}
def GridAt (K : PySem.W.Frag) (C : Addr) (H : Hp) (a : Addr) (xs : List V) (ds : List PyData) : Prop := (∃ dx, H a = some (.ins C dx (fnames.zip xs))) ∧ DpAll K H xs ds ∧ ds.length = 13 ∧ ∀ d ∈ ds, SeqAt.shaped d = true
theorem GridAt.same {H H' : Hp} {a : Addr} {xs : List V} {ds : List PyData} (h : GridAt K C H a xs ds) (s : Same H H') : GridAt K C H' a xs ds := by
  obtain ⟨⟨dx, h1⟩, h2, h3, h4⟩ := h
  exact ⟨⟨dx, s _ _ h1⟩, dpSA s h2, h3, h4⟩
def spGE (K : PySem.W.Frag) (C : Addr) : Sp := fun vs H Q _ => ∃ (a : Addr) (v : V) (xs : List V) (ds : List PyData), vs = [.ref a, v] ∧ GridAt K C H a xs ds ∧
  ((∃ a' ys es, v = .ref a' ∧ GridAt K C H a' ys es ∧ Q (.bl (eqAll ds es)) H) ∨ (TyX K H v (.type "list") ∧ Q (.bl false) H))
theorem scGE : FnScope ["self", "other"] ["self", "other"] (defScope (inClass (top 65) 1)) := ⟨rfl, rfl, rfl, by decide +kernel, rfl, by decide +kernel, by decide +kernel⟩
theorem ok_ge {f : Addr} {fd : FuncData} (F : FnM K "__eq__" "Grid.__eq__" (inClass (top 65) 1) [] [] f fd) (N : Nm mg) (T : TG K mg "Grid" C fI fE) (hno : PySem.W.kitOne K (.type "list") (.ref C) = some false) : FnOk P w K mg base CX0 1 f fd ["self", "other"] (spGE K C) := by
  refine F.ok scGE (fun vs H Q E h => ?_) (fun cdv A outer s H vs Q E hr h => ?_)
  · obtain ⟨a, v, xs, ds, rfl, _⟩ := h
    rfl
  · obtain ⟨a, v, xs, ds, rfl, ⟨⟨dx, h1⟩, hx, l13, hs⟩, h⟩ := h
    refine ⟨_, PSs.nox (pss_one (ps_ret (pe_and (pe_callB call_isi (by rfl) N.isi (by decide +kernel) (pa_cons (pv 1) (pa_cons (pe_glob (by rfl) T.gC (v := .ref C) rfl) pa_nil))) (pe_and (pe_cmpR (op_eqD hr.units) (pe_fld (pv 0) rfl) (pe_fld (pv 1) rfl) (nomark _)) (pe_and (pe_cmpR (op_eqD hr.units) (pe_fld (pv 0) rfl) (pe_fld (pv 1) rfl) (nomark _)) (pe_and (pe_cmpR (op_eqD hr.units) (pe_fld (pv 0) rfl) (pe_fld (pv 1) rfl) (nomark _)) (pe_and (pe_cmpR (op_eqD hr.units) (pe_fld (pv 0) rfl) (pe_fld (pv 1) rfl) (nomark _)) (pe_and (pe_cmpR (op_eqD hr.units) (pe_fld (pv 0) rfl) (pe_fld (pv 1) rfl) (nomark _)) (pe_and (pe_cmpR (op_eqD hr.units) (pe_fld (pv 0) rfl) (pe_fld (pv 1) rfl) (nomark _)) (pe_and (pe_cmpR (op_eqD hr.units) (pe_fld (pv 0) rfl) (pe_fld (pv 1) rfl) (nomark _)) (pe_and (pe_cmpR (op_eqD hr.units) (pe_fld (pv 0) rfl) (pe_fld (pv 1) rfl) (nomark _)) (pe_and (pe_cmpR (op_eqD hr.units) (pe_fld (pv 0) rfl) (pe_fld (pv 1) rfl) (nomark _)) (pe_and (pe_cmpR (op_eqD hr.units) (pe_fld (pv 0) rfl) (pe_fld (pv 1) rfl) (nomark _)) (pe_and (pe_cmpR (op_eqD hr.units) (pe_fld (pv 0) rfl) (pe_fld (pv 1) rfl) (nomark _)) (pe_and (pe_cmpR (op_eqD hr.units) (pe_fld (pv 0) rfl) (pe_fld (pv 1) rfl) (nomark _)) (pe_one (pe_cmpR (op_eqD hr.units) (pe_fld (pv 0) rfl) (pe_fld (pv 1) rfl) (nomark _)))))))))))))))))), ?_⟩
    rcases h with ⟨a', ys, es, rfl, ⟨⟨dx', g1⟩, gx, g13, gs⟩, k⟩ | ⟨ty, k⟩
    rotate_left
    · exact ⟨_, rfl, _, _, _, _, false, rfl, .own _, ty, hno, false, rfl, iteF k⟩
    refine ⟨_, rfl, _, _, _, _, true, rfl, .own _, T.ty g1, T.self, true, rfl, iteT ?_⟩
    cases hx with
    | nil => exact absurd l13 (by simp)
    | @cons x0 xs d0 dss p0 hx =>
      cases hx with
      | nil => exact absurd l13 (by simp)
      | @cons x1 xs d1 dss p1 hx =>
        cases hx with
        | nil => exact absurd l13 (by simp)
        | @cons x2 xs d2 dss p2 hx =>
          cases hx with
          | nil => exact absurd l13 (by simp)
          | @cons x3 xs d3 dss p3 hx =>
            cases hx with
            | nil => exact absurd l13 (by simp)
            | @cons x4 xs d4 dss p4 hx =>
              cases hx with
              | nil => exact absurd l13 (by simp)
              | @cons x5 xs d5 dss p5 hx =>
                cases hx with
                | nil => exact absurd l13 (by simp)
                | @cons x6 xs d6 dss p6 hx =>
                  cases hx with
                  | nil => exact absurd l13 (by simp)
                  | @cons x7 xs d7 dss p7 hx =>
                    cases hx with
                    | nil => exact absurd l13 (by simp)
                    | @cons x8 xs d8 dss p8 hx =>
                      cases hx with
                      | nil => exact absurd l13 (by simp)
                      | @cons x9 xs d9 dss p9 hx =>
                        cases hx with
                        | nil => exact absurd l13 (by simp)
                        | @cons x10 xs d10 dss p10 hx =>
                          cases hx with
                          | nil => exact absurd l13 (by simp)
                          | @cons x11 xs d11 dss p11 hx =>
                            cases hx with
                            | nil => exact absurd l13 (by simp)
                            | @cons x12 xs d12 dss p12 hx =>
                              cases hx with
                              | cons _ _ => exact absurd l13 (by simp only [List.length_cons]; omega)
                              | nil =>
                                cases gx with
                                | nil => exact absurd g13 (by simp)
                                | @cons y0 ys e0 ess q0 gx =>
                                  cases gx with
                                  | nil => exact absurd g13 (by simp)
                                  | @cons y1 ys e1 ess q1 gx =>
                                    cases gx with
                                    | nil => exact absurd g13 (by simp)
                                    | @cons y2 ys e2 ess q2 gx =>
                                      cases gx with
                                      | nil => exact absurd g13 (by simp)
                                      | @cons y3 ys e3 ess q3 gx =>
                                        cases gx with
                                        | nil => exact absurd g13 (by simp)
                                        | @cons y4 ys e4 ess q4 gx =>
                                          cases gx with
                                          | nil => exact absurd g13 (by simp)
                                          | @cons y5 ys e5 ess q5 gx =>
                                            cases gx with
                                            | nil => exact absurd g13 (by simp)
                                            | @cons y6 ys e6 ess q6 gx =>
                                              cases gx with
                                              | nil => exact absurd g13 (by simp)
                                              | @cons y7 ys e7 ess q7 gx =>
                                                cases gx with
                                                | nil => exact absurd g13 (by simp)
                                                | @cons y8 ys e8 ess q8 gx =>
                                                  cases gx with
                                                  | nil => exact absurd g13 (by simp)
                                                  | @cons y9 ys e9 ess q9 gx =>
                                                    cases gx with
                                                    | nil => exact absurd g13 (by simp)
                                                    | @cons y10 ys e10 ess q10 gx =>
                                                      cases gx with
                                                      | nil => exact absurd g13 (by simp)
                                                      | @cons y11 ys e11 ess q11 gx =>
                                                        cases gx with
                                                        | nil => exact absurd g13 (by simp)
                                                        | @cons y12 ys e12 ess q12 gx =>
                                                          cases gx with
                                                          | cons _ _ => exact absurd g13 (by simp only [List.length_cons]; omega)
                                                          | nil =>
                                                            refine ⟨_, rfl, a, C, dx, _, _, rfl, h1, T.cl, T.na "columns" (by decide), rfl, _, rfl, a', C, dx', _, _, rfl, g1, T.cl, T.na "columns" (by decide), rfl, _, _, p0, q0, hs _ (by simp), gs _ (by simp), _, rfl, ite2 (fun c0 => ?_) (fun c0 => bq (A := True) (by simp only [eqAll, Bool.eq_false_iff.mpr c0, Bool.true_and, Bool.false_and]) k)⟩
                                                            refine ⟨_, rfl, a, C, dx, _, _, rfl, h1, T.cl, T.na "rows" (by decide), rfl, _, rfl, a', C, dx', _, _, rfl, g1, T.cl, T.na "rows" (by decide), rfl, _, _, p1, q1, hs _ (by simp), gs _ (by simp), _, rfl, ite2 (fun c1 => ?_) (fun c1 => bq (A := True) (by simp only [eqAll, c0, Bool.eq_false_iff.mpr c1, Bool.true_and, Bool.false_and]) k)⟩
                                                            refine ⟨_, rfl, a, C, dx, _, _, rfl, h1, T.cl, T.na "fields" (by decide), rfl, _, rfl, a', C, dx', _, _, rfl, g1, T.cl, T.na "fields" (by decide), rfl, _, _, p2, q2, hs _ (by simp), gs _ (by simp), _, rfl, ite2 (fun c2 => ?_) (fun c2 => bq (A := True) (by simp only [eqAll, c0, c1, Bool.eq_false_iff.mpr c2, Bool.true_and, Bool.false_and]) k)⟩
                                                            refine ⟨_, rfl, a, C, dx, _, _, rfl, h1, T.cl, T.na "more_columns" (by decide), rfl, _, rfl, a', C, dx', _, _, rfl, g1, T.cl, T.na "more_columns" (by decide), rfl, _, _, p3, q3, hs _ (by simp), gs _ (by simp), _, rfl, ite2 (fun c3 => ?_) (fun c3 => bq (A := True) (by simp only [eqAll, c0, c1, c2, Bool.eq_false_iff.mpr c3, Bool.true_and, Bool.false_and]) k)⟩
                                                            refine ⟨_, rfl, a, C, dx, _, _, rfl, h1, T.cl, T.na "more_rows" (by decide), rfl, _, rfl, a', C, dx', _, _, rfl, g1, T.cl, T.na "more_rows" (by decide), rfl, _, _, p4, q4, hs _ (by simp), gs _ (by simp), _, rfl, ite2 (fun c4 => ?_) (fun c4 => bq (A := True) (by simp only [eqAll, c0, c1, c2, c3, Bool.eq_false_iff.mpr c4, Bool.true_and, Bool.false_and]) k)⟩
                                                            refine ⟨_, rfl, a, C, dx, _, _, rfl, h1, T.cl, T.na "flow" (by decide), rfl, _, rfl, a', C, dx', _, _, rfl, g1, T.cl, T.na "flow" (by decide), rfl, _, _, p5, q5, hs _ (by simp), gs _ (by simp), _, rfl, ite2 (fun c5 => ?_) (fun c5 => bq (A := True) (by simp only [eqAll, c0, c1, c2, c3, c4, Bool.eq_false_iff.mpr c5, Bool.true_and, Bool.false_and]) k)⟩
                                                            refine ⟨_, rfl, a, C, dx, _, _, rfl, h1, T.cl, T.na "dense" (by decide), rfl, _, rfl, a', C, dx', _, _, rfl, g1, T.cl, T.na "dense" (by decide), rfl, _, _, p6, q6, hs _ (by simp), gs _ (by simp), _, rfl, ite2 (fun c6 => ?_) (fun c6 => bq (A := True) (by simp only [eqAll, c0, c1, c2, c3, c4, c5, Bool.eq_false_iff.mpr c6, Bool.true_and, Bool.false_and]) k)⟩
                                                            refine ⟨_, rfl, a, C, dx, _, _, rfl, h1, T.cl, T.na "column_gap" (by decide), rfl, _, rfl, a', C, dx', _, _, rfl, g1, T.cl, T.na "column_gap" (by decide), rfl, _, _, p7, q7, hs _ (by simp), gs _ (by simp), _, rfl, ite2 (fun c7 => ?_) (fun c7 => bq (A := True) (by simp only [eqAll, c0, c1, c2, c3, c4, c5, c6, Bool.eq_false_iff.mpr c7, Bool.true_and, Bool.false_and]) k)⟩
                                                            refine ⟨_, rfl, a, C, dx, _, _, rfl, h1, T.cl, T.na "row_gap" (by decide), rfl, _, rfl, a', C, dx', _, _, rfl, g1, T.cl, T.na "row_gap" (by decide), rfl, _, _, p8, q8, hs _ (by simp), gs _ (by simp), _, rfl, ite2 (fun c8 => ?_) (fun c8 => bq (A := True) (by simp only [eqAll, c0, c1, c2, c3, c4, c5, c6, c7, Bool.eq_false_iff.mpr c8, Bool.true_and, Bool.false_and]) k)⟩
                                                            refine ⟨_, rfl, a, C, dx, _, _, rfl, h1, T.cl, T.na "justify" (by decide), rfl, _, rfl, a', C, dx', _, _, rfl, g1, T.cl, T.na "justify" (by decide), rfl, _, _, p9, q9, hs _ (by simp), gs _ (by simp), _, rfl, ite2 (fun c9 => ?_) (fun c9 => bq (A := True) (by simp only [eqAll, c0, c1, c2, c3, c4, c5, c6, c7, c8, Bool.eq_false_iff.mpr c9, Bool.true_and, Bool.false_and]) k)⟩
                                                            refine ⟨_, rfl, a, C, dx, _, _, rfl, h1, T.cl, T.na "align" (by decide), rfl, _, rfl, a', C, dx', _, _, rfl, g1, T.cl, T.na "align" (by decide), rfl, _, _, p10, q10, hs _ (by simp), gs _ (by simp), _, rfl, ite2 (fun c10 => ?_) (fun c10 => bq (A := True) (by simp only [eqAll, c0, c1, c2, c3, c4, c5, c6, c7, c8, c9, Bool.eq_false_iff.mpr c10, Bool.true_and, Bool.false_and]) k)⟩
                                                            refine ⟨_, rfl, a, C, dx, _, _, rfl, h1, T.cl, T.na "items_justify" (by decide), rfl, _, rfl, a', C, dx', _, _, rfl, g1, T.cl, T.na "items_justify" (by decide), rfl, _, _, p11, q11, hs _ (by simp), gs _ (by simp), _, rfl, ite2 (fun c11 => ?_) (fun c11 => bq (A := True) (by simp only [eqAll, c0, c1, c2, c3, c4, c5, c6, c7, c8, c9, c10, Bool.eq_false_iff.mpr c11, Bool.true_and, Bool.false_and]) k)⟩
                                                            exact ⟨_, rfl, a, C, dx, _, _, rfl, h1, T.cl, T.na "items_align" (by decide), rfl, _, rfl, a', C, dx', _, _, rfl, g1, T.cl, T.na "items_align" (by decide), rfl, _, _, p12, q12, hs _ (by simp), gs _ (by simp), bq (A := True) (by simp only [eqAll, c0, c1, c2, c3, c4, c5, c6, c7, c8, c9, c10, c11, Bool.true_and, Bool.and_true]) k⟩
end
end K5

set_option Elab.async false
set_option linter.all false
set_option maxRecDepth 100000
set_option maxHeartbeats 4000000
namespace K5
open PySem PySem.Spec PyProof.Rows L2
open K1 (FnP top Nm wm)
/-! ### drawn data -/
/-- data of no great size: numbers, texts, tuples, at most n deep -/
def smN : Nat → PyData → Bool
  | _, .none => true
  | _, .bool _ => true
  | _, .int i => decide (i.natAbs < 2 ^ 98)
  | _, .str z => decide (z.length ≤ 1000) && (PyData.str z).canLay0
  | n + 1, .tuple ds => decide (ds.length ≤ 100) && ds.all (smN n)
  | _, _ => false
theorem smN_mono : ∀ (n : Nat) (d : PyData), smN n d = true → smN (n + 1) d = true
  | _, .none, _ => rfl
  | _, .bool _, _ => rfl
  | 0, .int _, h => h
  | _ + 1, .int _, h => h
  | 0, .str _, h => h
  | _ + 1, .str _, h => h
  | n + 1, .tuple ds, h => by
    obtain ⟨h1, h2⟩ := ba (show (decide (ds.length ≤ 100) && ds.all (smN n)) = true from h)
    show (decide (ds.length ≤ 100) && ds.all (smN (n + 1))) = true
    rw [h1, Bool.true_and, List.all_eq_true]
    exact fun e he => smN_mono n e (List.all_eq_true.mp h2 e he)
  | 0, .tuple _, h => nomatch h
  | 0, .list _, h => nomatch h
  | _ + 1, .list _, h => nomatch h
  | 0, .dict _, h => nomatch h
  | _ + 1, .dict _, h => nomatch h
theorem smN_le {m n : Nat} {d : PyData} (h : smN m d = true) (l : m ≤ n) : smN n d = true := by
  induction l with
  | refl => exact h
  | step _ ih => exact smN_mono _ _ ih
def Sm (d : PyData) : Prop := smN 20 d = true
theorem sm_tup {n : Nat} {ds : List PyData} (h : smN n (.tuple ds) = true) : ds.length ≤ 100 ∧ ∀ e ∈ ds, smN n e = true := by
  cases n with
  | zero => exact nomatch h
  | succ n =>
    obtain ⟨h1, h2⟩ := ba (show (decide (ds.length ≤ 100) && ds.all (smN n)) = true from h)
    exact ⟨of_decide_eq_true h1, fun e he => smN_mono _ _ (List.all_eq_true.mp h2 e he)⟩
theorem sm_mk {n : Nat} {ds : List PyData} (l : ds.length ≤ 100) (h : ∀ e ∈ ds, smN n e = true) : smN (n + 1) (.tuple ds) = true := by
  show (decide (ds.length ≤ 100) && ds.all (smN n)) = true
  rw [decide_eq_true l, Bool.true_and, List.all_eq_true]
  exact h
theorem sm_item {n : Nat} {d : PyData} (h : smN n d = true) (i : Nat) : smN n (itemAt d i) = true := by
  unfold itemAt
  split
  · rename_i ds
    obtain ⟨_, h2⟩ := sm_tup h
    rw [List.getD_eq_getElem?_getD]
    cases e : ds[i]? with
    | none => cases n <;> rfl
    | some x => exact h2 x (List.mem_of_getElem? e)
  · cases n <;> rfl
theorem sm_okL {n : Nat} {d : PyData} (h : smN n d = true) : okL d := fun hn => by
  rcases num_shape hn with ⟨i, rfl⟩ | ⟨t, b, rfl, hb⟩
  · have : smN n (.int i) = decide (i.natAbs < 2 ^ 98) := by cases n <;> rfl
    rw [this] at h
    exact ⟨of_decide_eq_true h, by show (1 : Int).natAbs < 2 ^ 98; decide⟩
  · obtain ⟨_, h2⟩ := sm_tup h
    have h3 := h2 (.int t) (by simp)
    have h4 := h2 (.int b) (by simp)
    rw [show smN n (.int t) = decide (t.natAbs < 2 ^ 98) by cases n <;> rfl] at h3
    rw [show smN n (.int b) = decide (b.natAbs < 2 ^ 98) by cases n <;> rfl] at h4
    exact ⟨of_decide_eq_true h3, of_decide_eq_true h4⟩
theorem sm_okS {n : Nat} {d : PyData} (h : smN n d = true) : okS d := ⟨sm_okL h, fun i => sm_okL (sm_item h i)⟩
theorem sm_okB {n : Nat} {d : PyData} (h : smN n d = true) : okB d := ⟨sm_okS h, fun i => sm_okS (sm_item h i)⟩
theorem sm_okZ {n : Nat} {d : PyData} (h : smN n d = true) : okZ d := fun z e => by
  subst e
  rw [show smN n (.str z) = (decide (z.length ≤ 1000) && (PyData.str z).canLay0) by cases n <;> rfl] at h
  exact of_decide_eq_true (ba h).1
theorem sm_okNs {n : Nat} {d : PyData} (h : smN n d = true) : okNs d := fun ds e => by
  subst e
  obtain ⟨h1, h2⟩ := sm_tup h
  exact ⟨by omega, fun e he => sm_okZ (h2 e he)⟩
theorem sm_okE {n : Nat} {d : PyData} (h : smN n d = true) : okE d := ⟨sm_okB h, sm_okNs (sm_item h 1)⟩
theorem sm_okIn {n : Nat} {d : PyData} (h : smN n d = true) : okIn d := fun ds e => by
  subst e
  obtain ⟨h1, h2⟩ := sm_tup h
  exact ⟨by omega, fun e he => sm_okE (h2 e he)⟩
theorem sm_okR {n : Nat} {d : PyData} (h : smN n d = true) : okR d := ⟨sm_okE h, sm_okIn (sm_item h 1), sm_okIn (sm_item h 2)⟩
theorem sm_items {n : Nat} {d : PyData} (h : smN n d = true) : (itemsOf d).length ≤ 100 ∧ ∀ e ∈ itemsOf d, smN n e = true := by
  unfold itemsOf
  split
  · exact sm_tup h
  · exact ⟨Nat.zero_le _, fun e he => nomatch he⟩
theorem sm_okEnt {n : Nat} {d : PyData} (h : smN n d = true) : okEnt d := fun ds e => by
  subst e
  obtain ⟨h1, h2⟩ := sm_tup h
  refine ⟨h1, fun e he => ⟨sm_okR (h2 e he), fun i => ?_⟩⟩
  obtain ⟨g1, g2⟩ := sm_items (sm_item (h2 e he) i)
  exact ⟨g1, fun e' he' => sm_okR (g2 e' he')⟩
theorem sm_okInh {n : Nat} {d : PyData} (h : smN n d = true) : okInh d := fun ds e => by
  have h := sm_item h 1
  rw [e] at h
  obtain ⟨h1, h2⟩ := sm_tup h
  exact ⟨by omega, fun e he => sm_okNs (h2 e he)⟩
theorem sm_all : ∀ (n : Nat) (ds : List PyData), (∀ d ∈ ds, d.canLay0 = true ∧ d.depth ≤ n) → PyData.canLayAll0 ds = true ∧ PyData.depthAll ds ≤ n
  | _, [], _ => ⟨rfl, Nat.zero_le _⟩
  | n, d :: ds, h => by
    obtain ⟨i1, i2⟩ := sm_all n ds fun x hx => h x (List.mem_cons_of_mem _ hx)
    obtain ⟨j1, j2⟩ := h d (List.mem_cons_self ..)
    refine ⟨by rw [PyData.canLayAll0, j1, i1]; rfl, ?_⟩
    rw [PyData.depthAll]
    exact Nat.max_le.mpr ⟨j2, i2⟩
theorem sm_lay : ∀ (n : Nat) (d : PyData), smN n d = true → d.canLay0 = true ∧ d.depth ≤ n + 1
  | n, .none, _ => ⟨rfl, by rw [PyData.depth]; omega⟩
  | n, .bool _, _ => ⟨rfl, by rw [PyData.depth]; omega⟩
  | n, .int _, _ => ⟨rfl, by rw [PyData.depth]; omega⟩
  | n, .str z, h => ⟨by
      rw [show smN n (.str z) = (decide (z.length ≤ 1000) && (PyData.str z).canLay0) by cases n <;> rfl] at h
      exact (ba h).2, by rw [PyData.depth]; omega⟩
  | n + 1, .tuple ds, h => by
    obtain ⟨h1, h2⟩ := ba (show (decide (ds.length ≤ 100) && ds.all (smN n)) = true from h)
    obtain ⟨i1, i2⟩ := sm_all (n + 1) ds fun x hx => sm_lay n x (List.all_eq_true.mp h2 x hx)
    exact ⟨by rw [PyData.canLay0]; exact i1, by rw [PyData.depth]; omega⟩
  | 0, .tuple _, h => nomatch h
  | 0, .list _, h => nomatch h
  | _ + 1, .list _, h => nomatch h
  | 0, .dict _, h => nomatch h
  | _ + 1, .dict _, h => nomatch h
theorem sm_sh {n : Nat} {d : PyData} (h : smN n d = true) (l : n ≤ 40) : SeqAt.shaped d = true := by
  obtain ⟨h1, h2⟩ := sm_lay n d h
  exact Bool.and_eq_true_iff.mpr ⟨h1, decide_eq_true (by omega)⟩
/-- what holds all but a list stays -/
theorem seqT_keep {K : PySem.W.Frag} {a : Addr} {H H' : Hp} {p : Addr} {xs ws : List V} (s : Keep a H H') (ha : H a = some (.lst ws)) (h : SqT K H p xs) : SqT K H' p xs := by
  have np : ∀ o : HO, H p = some o → (∀ w, o ≠ .lst w) → p ≠ a := fun o e n z => by
    rw [z, ha] at e
    injection e with e
    exact n _ e.symm
  rcases h with (h | ⟨o, h⟩) | h
  · exact .inl (.inl (s _ _ (np _ h (fun w e => nomatch e)) h))
  · exact .inl (.inr ⟨o, s _ _ (np _ h (fun w e => nomatch e)) h⟩)
  · exact .inr h
theorem dpKall {K : PySem.W.Frag} {H H' : Hp} {n : Nat} (f : ∀ (d : PyData) (v : V), smN n d = true → Dp K H v d → Dp K H' v d) : ∀ (ds : List PyData) (xs : List V), (∀ e ∈ ds, smN n e = true) → DpAll K H xs ds → DpAll K H' xs ds
  | [], _, _, h => by cases h; exact .nil
  | d :: ds, _, h2, h => by
    cases h with
    | cons q1 q2 => exact .cons (f d _ (h2 d (List.mem_cons_self ..)) q1) (dpKall f ds _ (fun e he => h2 e (List.mem_cons_of_mem _ he)) q2)
theorem dpK {K : PySem.W.Frag} {a : Addr} {H H' : Hp} {ws : List V} (s : Keep a H H') (ha : H a = some (.lst ws)) : ∀ (n : Nat) (d : PyData) (v : V), smN n d = true → Dp K H v d → Dp K H' v d
  | _, .none, _, _, h => by cases h; exact .non
  | _, .bool _, _, _, h => by cases h; exact .bl _
  | _, .int _, _, _, h => by cases h; exact .int _
  | _, .str _, _, _, h => by cases h; exact .str _
  | n + 1, .tuple ds, _, z, h => by
    obtain ⟨_, h2⟩ := ba (show (decide (ds.length ≤ 100) && ds.all (smN n)) = true from z)
    cases h with
    | tup h1 hx =>
      refine .tup (seqT_keep s ha h1) ?_
      exact dpKall (fun d v => dpK s ha n d v) ds _ (List.all_eq_true.mp h2) hx
  | 0, .tuple _, _, z, _ => nomatch z
  | 0, .list _, _, z, _ => nomatch z
  | _ + 1, .list _, _, z, _ => nomatch z
  | 0, .dict _, _, z, _ => nomatch z
  | _ + 1, .dict _, _, z, _ => nomatch z
theorem _root_.L2.Well.lst {H : Hp} {a : Addr} {n : Int} (h : Well H a n) : ∃ ws, H a = some (.lst ws) := by
  obtain ⟨w0, w1, w2, e, _⟩ := h
  exact ⟨_, e⟩
theorem _root_.L2.Well.same {H H' : Hp} {a : Addr} {n : Int} (h : Well H a n) (s : Same H H') : Well H' a n := by
  obtain ⟨w0, w1, w2, e, r⟩ := h
  exact ⟨w0, w1, w2, s _ _ e, r⟩
theorem _root_.L2.Well.mono {H : Hp} {a : Addr} {n m : Int} (h : Well H a n) (l : n ≤ m) : Well H a m := by
  obtain ⟨w0, w1, w2, e, h1, h2, h3, h4, h5⟩ := h
  exact ⟨w0, w1, w2, e, h1, h2, h3, h4, by omega⟩
theorem _root_.L2.But.keep {a : Addr} {H H' : Hp} (h : But a H H') : Keep a H H' := fun b o n e => (h b n).trans e
section
variable {P : Program} {w : World} {K : PySem.W.Frag} {mg : Str → Option Value} {base : Heap}
theorem scDraw : FnScope ["well", "many", "found", "number"] ["well", "many"] (defScope (top 70)) := ⟨rfl, rfl, rfl, by decide +kernel, rfl, by decide +kernel, by decide +kernel⟩
theorem draw_bound {w1 w2 : Int} (h1 : 0 ≤ w1) (h2 : w1 < 4294967296) (h3 : 0 ≤ w2) (h4 : w2 < 1000001) : -(2 ^ 64) < w1 + 104729 * w2 + 1 ∧ w1 + 104729 * w2 + 1 < 2 ^ 64 := by omega
theorem ok_draw {f : Addr} {fd : FuncData} (F : FnP K "_law_draw" (top 70) f fd) (hi : mg "int" = none) : FnOk P w K mg base CX0 1 f fd ["well", "many"] spDraw := by
  refine F.ok scDraw (fun vs H Q E h => ?_) (fun cdv A outer s H vs Q E hr h => ?_)
  · obtain ⟨a, m, n, rfl, _⟩ := h
    rfl
  · obtain ⟨a, m, n, rfl, ⟨w0, w1, w2, hw, h0, h1, h1', h2, h2'⟩, hn, hm, hm', k⟩ := h
    refine ⟨_, PSs.nox (pss_cons (ps_if (pt_cmpR op_gt (pe_ix ix_list (pv 0) pe_int (fun _ _ => rfl)) pe_int (nomark _))
        (pss_cons (ps_set (i := 2) scDraw.nd rfl (Or.inl rfl) (pe_op op_modN (pe_callTy call_int1 (by rfl) hi (by decide +kernel) (pa_cons (pe_ix ix_list (pv 0) pe_int (fun _ _ => rfl)) pa_nil)) (pv 1)))
        (pss_cons (ps_asg (pe_op op_fdivN (pe_ix ix_list (pv 0) pe_int (fun _ _ => rfl)) (pv 1)) (pg_sub (pv 0) pe_int set_list))
        (pss_one (ps_ret (pv 2))))) pss_nil)
      (pss_cons (ps_asg (pe_op op_add (pe_ix ix_list (pv 0) pe_int (fun _ _ => rfl)) pe_int) (pg_sub (pv 0) pe_int set_list))
      (pss_cons (ps_set (i := 3) scDraw.nd rfl (Or.inl rfl) (pe_op op_modN (pe_callTy call_int1 (by rfl) hi (by decide +kernel) (pa_cons (pe_op op_mul (pe_op op_add (pe_op op_add (pe_ix ix_list (pv 0) pe_int (fun _ _ => rfl)) (pe_op op_mul pe_int (pe_ix ix_list (pv 0) pe_int (fun _ _ => rfl)))) pe_int) pe_int) pa_nil)) pe_int))
      (pss_cons (ps_set (i := 3) scDraw.nd rfl (Or.inl rfl) (pe_op op_modN (pe_callTy call_int1 (by rfl) hi (by decide +kernel) (pa_cons (pe_op op_mul (pv 3) (pe_op op_add (pe_op op_fdivN (pv 3) pe_int) pe_int)) pa_nil)) pe_int))
      (pss_one (ps_ret (pe_op op_modN (pe_callTy call_int1 (by rfl) hi (by decide +kernel) (pa_cons (pe_op op_modN (pe_callTy call_int1 (by rfl) hi (by decide +kernel) (pa_cons (pe_op op_mul (pv 3) (pe_op op_add (pe_op op_fdivN (pv 3) pe_int) pe_int)) pa_nil)) pe_int) pa_nil)) (pv 1)))))))), ?_⟩
    -- well[0] > 0
    refine ⟨_, rfl, a, _, _, _, rfl, rfl, SqL.of hw, at0, _, _, rfl, rfl, _, rfl, ?_⟩
    refine ite2 (fun c => ?_) (fun c => ?_)
    · refine ⟨_, rfl, a, _, _, _, rfl, rfl, SqL.of hw, at0, .inl ⟨_, rfl, _, rfl, _, _, rfl, rfl, (by show m ≠ 0; omega), ?_⟩⟩
      refine ⟨_, rfl, a, _, _, _, rfl, rfl, SqL.of hw, at0, _, rfl, _, _, rfl, rfl, divN hm hm', ?_⟩
      refine ⟨_, rfl, a, _, _, 0, rfl, rfl, hw, rfl, ?_⟩
      refine ⟨_, rfl, ?_⟩
      obtain ⟨r0, r1⟩ := fmod_in (x := w0) hm
      exact k _ _ r0 r1 But.upd ⟨w0.fdiv m, w1, w2, upd_same, fdiv_in h0 hm, h1, h1', h2, by omega⟩
    · refine ⟨_, rfl, a, _, _, _, rfl, rfl, SqL.of hw, at2, _, _, rfl, rfl, ?_⟩
      refine ⟨_, rfl, a, _, _, 2, rfl, rfl, hw, rfl, ?_⟩
      have hw' : upd H a (.lst [.int w0, .int w1, .int (w2 + 1)]) a = some (.lst [.int w0, .int w1, .int (w2 + 1)]) := upd_same
      -- figure, the first
      refine ⟨_, rfl, a, _, _, _, rfl, rfl, SqL.of hw', at1, _, rfl, a, _, _, _, rfl, rfl, SqL.of hw', at2, _, _, rfl, rfl, .inl ⟨by decide, by decide⟩, _, _, rfl, rfl, _, _, rfl, rfl, _, _, rfl, rfl, .inr ⟨by decide, by decide⟩, .inl ⟨_, rfl, _, _, rfl, rfl, (by show (2147483647 : Int) ≠ 0; decide), ?_⟩⟩
      obtain ⟨a0, a1⟩ := fmod_in (x := (w1 + 104729 * (w2 + 1) + 1) * 48271) (m := 2147483647) (by decide)
      refine ⟨_, rfl, _, rfl, _, _, rfl, rfl, ⟨by decide, by decide⟩, _, _, rfl, rfl, _, _, rfl, rfl, .inl ⟨by omega, by omega⟩, .inl ⟨_, rfl, _, _, rfl, rfl, (by show (2147483647 : Int) ≠ 0; decide), ?_⟩⟩
      obtain ⟨b0, b1⟩ := fmod_in (x := ((w1 + 104729 * (w2 + 1) + 1) * 48271).fmod 2147483647 * ((((w1 + 104729 * (w2 + 1) + 1) * 48271).fmod 2147483647).fdiv 1009 + 69621)) (m := 2147483647) (by decide)
      refine ⟨_, rfl, _, rfl, _, _, rfl, rfl, ⟨by decide, by decide⟩, _, _, rfl, rfl, _, _, rfl, rfl, .inl ⟨by omega, by omega⟩, .inl ⟨_, rfl, _, _, rfl, rfl, (by show (2147483399 : Int) ≠ 0; decide), .inl ⟨_, rfl, _, rfl, _, _, rfl, rfl, (by show m ≠ 0; omega), ?_⟩⟩⟩
      obtain ⟨r0, r1⟩ := fmod_in (x := (((((w1 + 104729 * (w2 + 1) + 1) * 48271).fmod 2147483647 * ((((w1 + 104729 * (w2 + 1) + 1) * 48271).fmod 2147483647).fdiv 1009 + 69621)).fmod 2147483647 * (((((w1 + 104729 * (w2 + 1) + 1) * 48271).fmod 2147483647 * ((((w1 + 104729 * (w2 + 1) + 1) * 48271).fmod 2147483647).fdiv 1009 + 69621)).fmod 2147483647).fdiv 2003 + 40692)).fmod 2147483399)) hm
      exact k _ _ r0 r1 But.upd ⟨w0, w1, w2 + 1, upd_same, h0, h1, h1', by omega, by omega⟩
end
end K5

set_option Elab.async false
set_option linter.all false
set_option maxRecDepth 100000
set_option maxHeartbeats 4000000
namespace K5
open PySem PySem.Spec PyProof.Rows L2
open K1 (FnP top Nm wm)
/-! ### drawn lengths, parts, shares -/
/-- f(well): data that keep Pd, at most c draws -/
def spDat (K : PySem.W.Frag) (c : Int) (Pd : PyData → Prop) : Sp := fun vs H Q _ => ∃ (a : Addr) (n : Int), vs = [.ref a] ∧ Well H a n ∧ n + c ≤ 1000000 ∧ ∀ x d H', Keep a H H' → Well H' a (n + c) → Dp K H' x d → Pd d → Q x H'
def fixB (d : PyData) : Bool := isFixed d && (mayFill d && (isSize d && smN 2 d))
def shrB (d : PyData) : Bool := isShare d && (isSize d && smN 2 d)
theorem fix_int {r : Int} (h0 : 0 ≤ r) (h1 : r < 80) : fixB (.int r) = true := by
  obtain ⟨n, rfl⟩ := Int.eq_ofNat_of_zero_le h0
  have all : ∀ r : Fin 80, fixB (.int (r.val : Int)) = true := by decide +kernel
  exact all ⟨n, by omega⟩
theorem well_tup {H : Hp} {a : Addr} {n : Int} {p : Addr} {o : HO} (h : Well H a n) (hp : H p = some o) (hn : ∀ w, o ≠ .lst w) : p ≠ a := fun z => by
  obtain ⟨w0, w1, w2, e, _⟩ := h
  rw [z, e] at hp
  injection hp with hp
  exact hn _ hp.symm
theorem well_new {H : Hp} {a : Addr} {n : Int} {p : Addr} (h : Well H a n) (hp : H p = none) : p ≠ a := fun z => by
  obtain ⟨w0, w1, w2, e, _⟩ := h
  rw [z, e] at hp
  cases hp
theorem _root_.L2.Well.updNe {H : Hp} {a b : Addr} {n : Int} {o : HO} (h : Well H a n) (hb : b ≠ a) : Well (upd H b o) a n := by
  obtain ⟨w0, w1, w2, e, r⟩ := h
  exact ⟨w0, w1, w2, by rw [upd_ne (Ne.symm hb)]; exact e, r⟩
theorem lstNew {H : Hp} {p : Addr} {xs : List V} (n : H p = none) : upd H p (.lst xs) p = some (.lst xs) := upd_same
theorem tupNew {K : PySem.W.Frag} {H : Hp} {p : Addr} {xs : List V} {ds : List PyData} (n : H p = none) (h : DpAll K (upd H p (.tup xs)) xs ds) : Dp K (upd H p (.tup xs)) (.ref p) (.tuple ds) := .tup (SqT.of upd_same) h
section
variable {P : Program} {w : World} {K : PySem.W.Frag} {mg : Str → Option Value} {base : Heap}
theorem scOne : FnScope ["well", "some"] ["well", "some"] (defScope (top 71)) := ⟨rfl, rfl, rfl, by decide +kernel, rfl, by decide +kernel, by decide +kernel⟩
theorem ok_one {f f1 : Addr} {fd d1 : FuncData} (F : FnP K "_law_one" (top 71) f fd) (N : Nm mg) (d__law_draw : D2 P w K mg base "_law_draw" "well" "many" 1 spDraw f1 d1) : FnOk P w K mg base CX0 2 f fd ["well", "some"] (spOne K) := by
  refine F.ok scOne (fun vs H Q E h => ?_) (fun cdv A outer s H vs Q E hr h => ?_)
  · obtain ⟨a, b, n, xs, rfl, _⟩ := h
    rfl
  · obtain ⟨a, b, n, xs, rfl, hw, hn, hab, hb, l0, l1, k⟩ := h
    refine ⟨_, PSs.nox (pss_one (ps_ret (pe_ix ix_list (pv 1) (pe_call d__law_draw.G (hr.mono (by decide)) (by rfl) d__law_draw.g d__law_draw.kp d__law_draw.b .nil pass0 (pa_cons (pv 0) (pa_cons (pe_callB call_len_seq (by rfl) N.len PySem.boot_len (pa_cons (pv 1) pa_nil)) pa_nil))) (fun _ _ => rfl)))), ?_⟩
    refine ⟨_, rfl, _, rfl, _, rfl, b, _, rfl, .inl (SqL.of hb), a, _, n, rfl, hw, hn, by omega, by omega, fun r H1 r0 r1 b1 hw1 => ?_⟩
    obtain ⟨j, rfl⟩ := Int.eq_ofNat_of_zero_le r0
    have hj : j < xs.length := by omega
    have hb1 : H1 b = some (.lst xs) := b1.keep _ _ (Ne.symm hab) hb
    refine ⟨b, _, _, _, rfl, rfl, SqL.of hb1, atI_nat (List.getElem?_eq_getElem hj), k _ _ (List.getElem_mem hj) b1 hw1⟩
theorem scFx : FnScope ["well", "some"] ["well"] (defScope (top 73)) := ⟨rfl, rfl, rfl, by decide +kernel, rfl, by decide +kernel, by decide +kernel⟩
theorem ok_fx {f f1 : Addr} {fd d1 : FuncData} (F : FnP K "_law_fixed" (top 73) f fd) (N : Nm mg) (d__law_draw : D2 P w K mg base "_law_draw" "well" "many" 1 spDraw f1 d1) : FnOk P w K mg base CX0 2 f fd ["well"] (spDat K 2 fun d => fixB d = true) := by
  refine F.ok scFx (fun vs H Q E h => ?_) (fun cdv A outer s H vs Q E hr h => ?_)
  · obtain ⟨a, n, rfl, _⟩ := h
    rfl
  · obtain ⟨a, n, rfl, hw, hn, k⟩ := h
    refine ⟨_, PSs.nox (pss_cons (ps_set (i := 1) scFx.nd rfl (Or.inl rfl) (pe_lst (pa_cons pe_int (pa_cons pe_int (pa_cons pe_int (pa_cons (pe_tup (pa_cons pe_int (pa_cons pe_int pa_nil))) (pa_cons pe_int (pa_cons (pe_call d__law_draw.G (hr.mono (by decide)) (by rfl) d__law_draw.g d__law_draw.kp d__law_draw.b .nil pass0 (pa_cons (pv 0) (pa_cons pe_int pa_nil))) (pa_cons (pe_tup (pa_cons pe_str (pa_cons (pe_tup (pa_cons pe_int (pa_cons pe_int pa_nil))) pa_nil))) (pa_cons (pe_tup (pa_cons pe_str (pa_cons (pe_tup (pa_cons pe_int (pa_cons pe_int pa_nil))) pa_nil))) (pa_cons (pe_tup (pa_cons pe_str (pa_cons pe_int pa_nil))) (pa_cons (pe_tup (pa_cons pe_str (pa_cons pe_int pa_nil))) pa_nil))))))))))))
  (pss_one (ps_ret (pe_ix ix_list (pv 1) (pe_call d__law_draw.G (hr.mono (by decide)) (by rfl) d__law_draw.g d__law_draw.kp d__law_draw.b .nil pass0 (pa_cons (pv 0) (pa_cons pe_int pa_nil))) (fun _ _ => rfl))))), ?_⟩
    have kk : Keep a H H := Keep.of (Same.refl H)
    refine ⟨(by show 2 ≤ sizeLine; decide), fun p1 n1 => ?_⟩
    have s := same_upd (o := .tup [.int 1, .int 2]) n1
    have t1 := tupNew (K := K) (xs := [.int 1, .int 2]) (ds := [.int 1, .int 2]) n1 (.cons (.int _) (.cons (.int _) (.nil)))
    have hw := hw.same s
    have kk := kk.trans (Keep.of s)
    refine ⟨_, rfl, a, 80, _, rfl, hw, by omega, by decide, by decide, fun r Hr r0 r1 br hwr => ?_⟩
    have t1 := dpK br.keep hw.lst.choose_spec 20 _ _ (by decide +kernel) t1
    have hw := hwr
    have kk := kk.trans br.keep
    refine ⟨(by show 2 ≤ sizeLine; decide), fun p2 n2 => ?_⟩
    have s := same_upd (o := .tup [.int 1, .int 2]) n2
    have t1 := dpS s t1
    have t2 := tupNew (K := K) (xs := [.int 1, .int 2]) (ds := [.int 1, .int 2]) n2 (.cons (.int _) (.cons (.int _) (.nil)))
    have hw := hw.same s
    have kk := kk.trans (Keep.of s)
    refine ⟨(by show 2 ≤ sizeLine; decide), fun p3 n3 => ?_⟩
    have s := same_upd (o := .tup [.str "part", .ref p2]) n3
    have t1 := dpS s t1
    have t2 := dpS s t2
    have t3 := tupNew (K := K) (xs := [.str "part", .ref p2]) (ds := [.str "part", .tuple [.int 1, .int 2]]) n3 (.cons (.str _) (.cons t2 (.nil)))
    have hw := hw.same s
    have kk := kk.trans (Keep.of s)
    refine ⟨(by show 2 ≤ sizeLine; decide), fun p4 n4 => ?_⟩
    have s := same_upd (o := .tup [.int 1, .int 3]) n4
    have t1 := dpS s t1
    have t2 := dpS s t2
    have t3 := dpS s t3
    have t4 := tupNew (K := K) (xs := [.int 1, .int 3]) (ds := [.int 1, .int 3]) n4 (.cons (.int _) (.cons (.int _) (.nil)))
    have hw := hw.same s
    have kk := kk.trans (Keep.of s)
    refine ⟨(by show 2 ≤ sizeLine; decide), fun p5 n5 => ?_⟩
    have s := same_upd (o := .tup [.str "part", .ref p4]) n5
    have t1 := dpS s t1
    have t2 := dpS s t2
    have t3 := dpS s t3
    have t4 := dpS s t4
    have t5 := tupNew (K := K) (xs := [.str "part", .ref p4]) (ds := [.str "part", .tuple [.int 1, .int 3]]) n5 (.cons (.str _) (.cons t4 (.nil)))
    have hw := hw.same s
    have kk := kk.trans (Keep.of s)
    refine ⟨(by show 2 ≤ sizeLine; decide), fun p6 n6 => ?_⟩
    have s := same_upd (o := .tup [.str "part", .int 0]) n6
    have t1 := dpS s t1
    have t2 := dpS s t2
    have t3 := dpS s t3
    have t4 := dpS s t4
    have t5 := dpS s t5
    have t6 := tupNew (K := K) (xs := [.str "part", .int 0]) (ds := [.str "part", .int 0]) n6 (.cons (.str _) (.cons (.int _) (.nil)))
    have hw := hw.same s
    have kk := kk.trans (Keep.of s)
    refine ⟨(by show 2 ≤ sizeLine; decide), fun p7 n7 => ?_⟩
    have s := same_upd (o := .tup [.str "part", .int 1]) n7
    have t1 := dpS s t1
    have t2 := dpS s t2
    have t3 := dpS s t3
    have t4 := dpS s t4
    have t5 := dpS s t5
    have t6 := dpS s t6
    have t7 := tupNew (K := K) (xs := [.str "part", .int 1]) (ds := [.str "part", .int 1]) n7 (.cons (.str _) (.cons (.int _) (.nil)))
    have hw := hw.same s
    have kk := kk.trans (Keep.of s)
    refine ⟨(by show 10 ≤ sizeLine; decide), fun z nz => ?_⟩
    have hz := well_new hw nz
    have s := same_upd (o := .lst [.int 0, .int 10, .int 25, .ref p1, .int 100, .int r, .ref p3, .ref p5, .ref p6, .ref p7]) nz
    have t1 := dpS s t1
    have t2 := dpS s t2
    have t3 := dpS s t3
    have t4 := dpS s t4
    have t5 := dpS s t5
    have t6 := dpS s t6
    have t7 := dpS s t7
    have hw := hw.same s
    have kk := kk.trans (Keep.of s)
    have hl := lstNew (xs := [.int 0, .int 10, .int 25, .ref p1, .int 100, .int r, .ref p3, .ref p5, .ref p6, .ref p7]) nz
    refine ⟨_, rfl, _, rfl, a, 10, _, rfl, hw, by omega, by decide, by decide, fun r2 H2 r20 r21 b2 hw2 => ?_⟩
    have t1 := dpK b2.keep hw.lst.choose_spec 20 _ _ (by decide +kernel) t1
    have t2 := dpK b2.keep hw.lst.choose_spec 20 _ _ (by decide +kernel) t2
    have t3 := dpK b2.keep hw.lst.choose_spec 20 _ _ (by decide +kernel) t3
    have t4 := dpK b2.keep hw.lst.choose_spec 20 _ _ (by decide +kernel) t4
    have t5 := dpK b2.keep hw.lst.choose_spec 20 _ _ (by decide +kernel) t5
    have t6 := dpK b2.keep hw.lst.choose_spec 20 _ _ (by decide +kernel) t6
    have t7 := dpK b2.keep hw.lst.choose_spec 20 _ _ (by decide +kernel) t7
    have hl := b2.keep _ _ hz hl
    have kk := kk.trans b2.keep
    have all : DpAll K H2 [.int 0, .int 10, .int 25, .ref p1, .int 100, .int r, .ref p3, .ref p5, .ref p6, .ref p7] [.int 0, .int 10, .int 25, .tuple [.int 1, .int 2], .int 100, .int r, .tuple [.str "part", .tuple [.int 1, .int 2]], .tuple [.str "part", .tuple [.int 1, .int 3]], .tuple [.str "part", .int 0], .tuple [.str "part", .int 1]] := .cons (.int _) (.cons (.int _) (.cons (.int _) (.cons t1 (.cons (.int _) (.cons (.int _) (.cons t3 (.cons t5 (.cons t6 (.cons t7 (.nil))))))))))
    have ap : ∀ d ∈ ([.int 0, .int 10, .int 25, .tuple [.int 1, .int 2], .int 100, .int r, .tuple [.str "part", .tuple [.int 1, .int 2]], .tuple [.str "part", .tuple [.int 1, .int 3]], .tuple [.str "part", .int 0], .tuple [.str "part", .int 1]] : List PyData), fixB d = true := by
      intro d hd
      simp only [List.mem_cons, List.not_mem_nil, or_false] at hd
      rcases hd with rfl | rfl | rfl | rfl | rfl | rfl | rfl | rfl | rfl | rfl <;> first | exact fix_int r0 r1 | decide +kernel
    obtain ⟨j, rfl⟩ := Int.eq_ofNat_of_zero_le r20
    have hj : j < ([.int 0, .int 10, .int 25, .tuple [.int 1, .int 2], .int 100, .int r, .tuple [.str "part", .tuple [.int 1, .int 2]], .tuple [.str "part", .tuple [.int 1, .int 3]], .tuple [.str "part", .int 0], .tuple [.str "part", .int 1]] : List PyData).length := by show j < 10; omega
    obtain ⟨u, eu, hu⟩ := dpAt j all (List.getElem?_eq_getElem hj)
    exact ⟨z, _, _, _, rfl, rfl, SqL.of hl, atI_nat eu, k _ _ _ kk (hw2.mono (by omega)) hu (ap _ (List.getElem_mem hj))⟩
theorem scSh : FnScope ["well"] ["well"] (defScope (top 74)) := ⟨rfl, rfl, rfl, by decide +kernel, rfl, by decide +kernel, by decide +kernel⟩
theorem ok_sh {f f1 : Addr} {fd d1 : FuncData} (F : FnP K "_law_share" (top 74) f fd) (N : Nm mg) (d__law_draw : D2 P w K mg base "_law_draw" "well" "many" 1 spDraw f1 d1) : FnOk P w K mg base CX0 2 f fd ["well"] (spDat K 1 fun d => shrB d = true) := by
  refine F.ok scSh (fun vs H Q E h => ?_) (fun cdv A outer s H vs Q E hr h => ?_)
  · obtain ⟨a, n, rfl, _⟩ := h
    rfl
  · obtain ⟨a, n, rfl, hw, hn, k⟩ := h
    refine ⟨_, PSs.nox (pss_one (ps_ret (pe_tup (pa_cons pe_str (pa_cons (pe_ix ix_list (pe_lst (pa_cons pe_int (pa_cons pe_int (pa_cons pe_int (pa_cons pe_int (pa_cons (pe_tup (pa_cons pe_int (pa_cons pe_int pa_nil))) (pa_cons (pe_tup (pa_cons pe_int (pa_cons pe_int pa_nil))) (pa_cons pe_int pa_nil)))))))) (pe_call d__law_draw.G (hr.mono (by decide)) (by rfl) d__law_draw.g d__law_draw.kp d__law_draw.b .nil pass0 (pa_cons (pv 0) (pa_cons pe_int pa_nil))) (fun _ _ => rfl)) pa_nil))))), ?_⟩
    have kk : Keep a H H := Keep.of (Same.refl H)
    refine ⟨(by show 2 ≤ sizeLine; decide), fun p1 n1 => ?_⟩
    have s := same_upd (o := .tup [.int 1, .int 2]) n1
    have t1 := tupNew (K := K) (xs := [.int 1, .int 2]) (ds := [.int 1, .int 2]) n1 (.cons (.int _) (.cons (.int _) (.nil)))
    have hw := hw.same s
    have kk := kk.trans (Keep.of s)
    refine ⟨(by show 2 ≤ sizeLine; decide), fun p2 n2 => ?_⟩
    have s := same_upd (o := .tup [.int 1, .int 3]) n2
    have t1 := dpS s t1
    have t2 := tupNew (K := K) (xs := [.int 1, .int 3]) (ds := [.int 1, .int 3]) n2 (.cons (.int _) (.cons (.int _) (.nil)))
    have hw := hw.same s
    have kk := kk.trans (Keep.of s)
    refine ⟨(by show 7 ≤ sizeLine; decide), fun z nz => ?_⟩
    have hz := well_new hw nz
    have s := same_upd (o := .lst [.int 1, .int 1, .int 2, .int 0, .ref p1, .ref p2, .int 7]) nz
    have t1 := dpS s t1
    have t2 := dpS s t2
    have hw := hw.same s
    have kk := kk.trans (Keep.of s)
    have hl := lstNew (xs := [.int 1, .int 1, .int 2, .int 0, .ref p1, .ref p2, .int 7]) nz
    refine ⟨_, rfl, a, 7, _, rfl, hw, by omega, by decide, by decide, fun r2 H2 r20 r21 b2 hw2 => ?_⟩
    have t1 := dpK b2.keep hw.lst.choose_spec 20 _ _ (by decide +kernel) t1
    have t2 := dpK b2.keep hw.lst.choose_spec 20 _ _ (by decide +kernel) t2
    have hl := b2.keep _ _ hz hl
    have kk := kk.trans b2.keep
    have all : DpAll K H2 [.int 1, .int 1, .int 2, .int 0, .ref p1, .ref p2, .int 7] [.int 1, .int 1, .int 2, .int 0, .tuple [.int 1, .int 2], .tuple [.int 1, .int 3], .int 7] := .cons (.int _) (.cons (.int _) (.cons (.int _) (.cons (.int _) (.cons t1 (.cons t2 (.cons (.int _) (.nil)))))))
    have ap : ∀ d ∈ ([.int 1, .int 1, .int 2, .int 0, .tuple [.int 1, .int 2], .tuple [.int 1, .int 3], .int 7] : List PyData), shrB (.tuple [.str "share", d]) = true := by
      intro d hd
      simp only [List.mem_cons, List.not_mem_nil, or_false] at hd
      rcases hd with rfl | rfl | rfl | rfl | rfl | rfl | rfl <;> decide +kernel
    obtain ⟨j, rfl⟩ := Int.eq_ofNat_of_zero_le r20
    have hj : j < ([.int 1, .int 1, .int 2, .int 0, .tuple [.int 1, .int 2], .tuple [.int 1, .int 3], .int 7] : List PyData).length := by show j < 7; omega
    obtain ⟨u, eu, hu⟩ := dpAt j all (List.getElem?_eq_getElem hj)
    refine ⟨z, _, _, _, rfl, rfl, SqL.of hl, atI_nat eu, (by show 2 ≤ sizeLine; decide), fun q nq => ?_⟩
    have s := same_upd (o := .tup [.str "share", u]) nq
    exact k _ _ _ (kk.trans (Keep.of s)) ((hw2.mono (by omega)).same s) (.tup (SqT.of upd_same) (.cons (.str _) (.cons (dpS s hu) .nil))) (ap _ (List.getElem_mem hj))
end
end K5

set_option Elab.async false
set_option linter.all false
set_option maxRecDepth 100000
set_option maxHeartbeats 4000000
namespace K5
open PySem PySem.Spec PyProof.Rows L2
open K1 (FnP top Nm wm)
/-! ### drawn sizes -/
def plnB (d : PyData) : Bool := isPlain d && smN 2 d
def hghB (d : PyData) : Bool := (isPlain d || isShare d) && smN 2 d
def sizB (d : PyData) : Bool := isSize d && smN 3 d
def cntB (d : PyData) : Bool := mayFill d && sizB d
theorem fix_all {d : PyData} (h : fixB d = true) : isFixed d = true ∧ mayFill d = true ∧ isSize d = true ∧ smN 2 d = true := by
  obtain ⟨h1, h⟩ := ba h
  obtain ⟨h2, h⟩ := ba h
  obtain ⟨h3, h4⟩ := ba h
  exact ⟨h1, h2, h3, h4⟩
theorem shr_all {d : PyData} (h : shrB d = true) : isShare d = true ∧ isSize d = true ∧ smN 2 d = true := by
  obtain ⟨h1, h⟩ := ba h
  obtain ⟨h3, h4⟩ := ba h
  exact ⟨h1, h3, h4⟩
theorem fix_pln {d : PyData} (h : fixB d = true) : plnB d = true := by
  obtain ⟨h1, _, _, h4⟩ := fix_all h
  unfold plnB isPlain
  rw [h1, h4]
  rfl
theorem pln_hgh {d : PyData} (h : plnB d = true) : hghB d = true := by
  obtain ⟨h1, h4⟩ := ba h
  unfold hghB
  rw [h1, h4]
  rfl
theorem shr_hgh {d : PyData} (h : shrB d = true) : hghB d = true := by
  obtain ⟨h1, _, h4⟩ := shr_all h
  unfold hghB
  rw [h1, h4, Bool.or_true]
  rfl
theorem fix_siz {d : PyData} (h : fixB d = true) : sizB d = true := by
  obtain ⟨_, _, h3, h4⟩ := fix_all h
  unfold sizB
  rw [h3, smN_mono _ _ h4]
  rfl
theorem fix_cnt {d : PyData} (h : fixB d = true) : cntB d = true := by
  obtain ⟨_, h2, _, _⟩ := fix_all h
  unfold cntB
  rw [h2, fix_siz h]
  rfl
theorem shr_siz {d : PyData} (h : shrB d = true) : sizB d = true := by
  obtain ⟨_, h3, h4⟩ := shr_all h
  unfold sizB
  rw [h3, smN_mono _ _ h4]
  rfl
theorem sm3 {l h : PyData} {z : Str} (hz : smN 2 (.str z) = true) (hl : smN 2 l = true) (hh : smN 2 h = true) : smN 3 (.tuple [.str z, l, h]) = true := sm_mk (by show 3 ≤ 100; decide) fun e he => by
  simp only [List.mem_cons, List.not_mem_nil, or_false] at he
  rcases he with rfl | rfl | rfl
  · exact hz
  · exact hl
  · exact hh
theorem sm2 {n : Nat} {l : PyData} {z : Str} (hz : smN n (.str z) = true) (hl : smN n l = true) : smN (n + 1) (.tuple [.str z, l]) = true := sm_mk (by show 2 ≤ 100; decide) fun e he => by
  simp only [List.mem_cons, List.not_mem_nil, or_false] at he
  rcases he with rfl | rfl
  · exact hz
  · exact hl
theorem betw_mk {l h : PyData} (hl : isPlain l = true) (hh : (isPlain h || isShare h) = true) : isBetw (.tuple [.str "between", l, h]) = true := by
  show ((decide ((3 : Int) = 3) && isWord (.str "between") ["between"]) && (isPlain l && (isPlain h || isShare h))) = true
  rw [hl, hh]
  decide
theorem betw_siz {l h : PyData} (hl : plnB l = true) (hh : hghB h = true) : sizB (.tuple [.str "between", l, h]) = true := by
  obtain ⟨l1, l2⟩ := ba hl
  obtain ⟨h1, h2⟩ := ba hh
  unfold sizB isSize
  rw [betw_mk l1 h1, sm3 (by decide +kernel) l2 h2]
  simp
theorem betw_cnt {l h : PyData} (hl : plnB l = true) (hh : hghB h = true) (hf : (isFixed l || isFixed h) = true) : cntB (.tuple [.str "between", l, h]) = true := by
  have hb : isBetw (.tuple [.str "between", l, h]) = true := betw_mk (ba hl).1 (ba hh).1
  unfold cntB
  rw [betw_siz hl hh, Bool.and_true]
  show (isFixed (lowOf (.tuple [.str "between", l, h])) || isFixed (highOf (.tuple [.str "between", l, h]))) = true
  unfold lowOf highOf
  rw [if_pos hb, if_pos hb]
  exact hf
theorem upto_siz {l : PyData} (hl : fixB l = true) : sizB (.tuple [.str "upto", l]) = true := by
  obtain ⟨h1, _, _, h4⟩ := fix_all hl
  have hu : isUpto (.tuple [.str "upto", l]) = true := by
    show ((decide ((2 : Int) = 2) && isWord (.str "upto") ["upto"]) && isFixed l) = true
    rw [h1]
    decide
  unfold sizB isSize
  rw [hu, sm2 (n := 2) (by decide +kernel) h4]
  simp
def wordsL : List V := [.str "auto", .str "least", .str "most"]
theorem words_d {K : PySem.W.Frag} {H : Hp} {x : V} (h : x ∈ wordsL) : ∃ d, Dp K H x d ∧ plnB d = true ∧ sizB d = true := by
  simp only [wordsL, List.mem_cons, List.not_mem_nil, or_false] at h
  rcases h with rfl | rfl | rfl
  · exact ⟨_, .str _, by decide +kernel, by decide +kernel⟩
  · exact ⟨_, .str _, by decide +kernel, by decide +kernel⟩
  · exact ⟨_, .str _, by decide +kernel, by decide +kernel⟩
/-- each of them a datum that keeps Pd -/
def Each (K : PySem.W.Frag) (H : Hp) (Pd : PyData → Prop) (xs : List V) : Prop := ∀ x ∈ xs, ∃ d, Dp K H x d ∧ Pd d
theorem each_words {K : PySem.W.Frag} {H : Hp} {Pd : PyData → Prop} (hp : ∀ d, plnB d = true → Pd d) {x1 x2 : V} {d1 d2 : PyData} (h1 : Dp K H x1 d1) (h2 : Dp K H x2 d2) (p1 : Pd d1) (p2 : Pd d2) : Each K H Pd (wordsL ++ [x1, x2]) := fun x hx => by
  rcases List.mem_append.mp hx with h | h
  · obtain ⟨d, e, q, _⟩ := words_d (K := K) (H := H) h
    exact ⟨d, e, hp d q⟩
  · simp only [List.mem_cons, List.not_mem_nil, or_false] at h
    rcases h with rfl | rfl
    · exact ⟨_, h1, p1⟩
    · exact ⟨_, h2, p2⟩
section
variable {P : Program} {w : World} {K : PySem.W.Frag} {mg : Str → Option Value} {base : Heap}
theorem scLSz : FnScope ["well", "words", "way", "low"] ["well"] (defScope (top 75)) := ⟨rfl, rfl, rfl, by decide +kernel, rfl, by decide +kernel, by decide +kernel⟩
theorem ok_lsz {f f1 f2 f3 f4 : Addr} {fd d1 d2 d3 d4 : FuncData} (F : FnP K "_law_size" (top 75) f fd) (N : Nm mg) (d__law_draw : D2 P w K mg base "_law_draw" "well" "many" 1 spDraw f1 d1) (d__law_one : D2 P w K mg base "_law_one" "well" "some" 2 (spOne K) f2 d2)
    (d__law_fixed : D1 P w K mg base "_law_fixed" "well" 2 (spDat K 2 fun d => fixB d = true) f3 d3) (d__law_share : D1 P w K mg base "_law_share" "well" 2 (spDat K 1 fun d => shrB d = true) f4 d4) : FnOk P w K mg base CX0 3 f fd ["well"] (spDat K 10 fun d => sizB d = true) := by
  refine F.ok scLSz (fun vs H Q E h => ?_) (fun cdv A outer s H vs Q E hr h => ?_)
  · obtain ⟨a, n, rfl, _⟩ := h
    rfl
  · obtain ⟨a, n, rfl, hw, hn, k⟩ := h
    refine ⟨_, PSs.nox (pss_cons (ps_set (i := 1) scLSz.nd rfl (Or.inl rfl) (pe_lst (pa_cons pe_str (pa_cons pe_str (pa_cons pe_str pa_nil)))))
  (pss_cons (ps_set (i := 2) scLSz.nd rfl (Or.inl rfl) (pe_call d__law_draw.G (hr.mono (by decide)) (by rfl) d__law_draw.g d__law_draw.kp d__law_draw.b .nil pass0 (pa_cons (pv 0) (pa_cons pe_int pa_nil))))
  (pss_cons (ps_if (pt_cmpR op_lt (pv 2) pe_int (nomark _))
    (pss_one (ps_ret (pe_call d__law_fixed.G (hr.mono (by decide)) (by rfl) d__law_fixed.g d__law_fixed.kp d__law_fixed.b .nil pass0 (pa_cons (pv 0) pa_nil))))
    pss_nil)
  (pss_cons (ps_if (pt_cmpR op_eq (pv 2) pe_int (nomark _))
    (pss_one (ps_ret (pe_call d__law_share.G (hr.mono (by decide)) (by rfl) d__law_share.g d__law_share.kp d__law_share.b .nil pass0 (pa_cons (pv 0) pa_nil))))
    pss_nil)
  (pss_cons (ps_if (pt_cmpR op_lt (pv 2) pe_int (nomark _))
    (pss_one (ps_ret (pe_call d__law_one.G (hr.mono (by decide)) (by rfl) d__law_one.g d__law_one.kp d__law_one.b .nil pass0 (pa_cons (pv 0) (pa_cons (pv 1) pa_nil)))))
    pss_nil)
  (pss_cons (ps_if (pt_cmpR op_eq (pv 2) pe_int (nomark _))
    (pss_one (ps_ret (pe_tup (pa_cons pe_str (pa_cons (pe_call d__law_fixed.G (hr.mono (by decide)) (by rfl) d__law_fixed.g d__law_fixed.kp d__law_fixed.b .nil pass0 (pa_cons (pv 0) pa_nil)) pa_nil)))))
    pss_nil)
  (pss_cons (ps_set (i := 3) scLSz.nd rfl (Or.inl rfl) (pe_call d__law_one.G (hr.mono (by decide)) (by rfl) d__law_one.g d__law_one.kp d__law_one.b .nil pass0 (pa_cons (pv 0) (pa_cons (pe_op op_catS (pv 1) (pe_lst (pa_cons (pe_call d__law_fixed.G (hr.mono (by decide)) (by rfl) d__law_fixed.g d__law_fixed.kp d__law_fixed.b .nil pass0 (pa_cons (pv 0) pa_nil)) (pa_cons (pe_call d__law_fixed.G (hr.mono (by decide)) (by rfl) d__law_fixed.g d__law_fixed.kp d__law_fixed.b .nil pass0 (pa_cons (pv 0) pa_nil)) pa_nil)))) pa_nil))))
  (pss_one (ps_ret (pe_tup (pa_cons pe_str (pa_cons (pv 3) (pa_cons (pe_call d__law_one.G (hr.mono (by decide)) (by rfl) d__law_one.g d__law_one.kp d__law_one.b .nil pass0 (pa_cons (pv 0) (pa_cons (pe_op op_catS (pv 1) (pe_lst (pa_cons (pe_call d__law_fixed.G (hr.mono (by decide)) (by rfl) d__law_fixed.g d__law_fixed.kp d__law_fixed.b .nil pass0 (pa_cons (pv 0) pa_nil)) (pa_cons (pe_call d__law_share.G (hr.mono (by decide)) (by rfl) d__law_share.g d__law_share.kp d__law_share.b .nil pass0 (pa_cons (pv 0) pa_nil)) pa_nil)))) pa_nil))) pa_nil))))))))))))), ?_⟩
    refine ⟨(by show 3 ≤ sizeLine; decide), fun z nz => ?_⟩
    have hz := well_new hw nz
    have kk : Keep a H _ := Keep.of (same_upd (o := .lst wordsL) nz)
    have hl := lstNew (xs := wordsL) nz
    have hw := hw.same (same_upd (o := .lst wordsL) nz)
    refine ⟨_, rfl, a, 8, _, rfl, hw, by omega, by decide, by decide, fun r H2 r0 r1 b2 hw2 => ?_⟩
    have hl := b2.keep _ _ hz hl
    have kk := kk.trans b2.keep
    clear hw
    refine ⟨_, rfl, _, _, rfl, rfl, _, rfl, ite2 (fun c => ?_) (fun c => ?_)⟩
    · exact ⟨_, rfl, a, _, rfl, hw2, by omega, fun x d H' k' w' dp pd => k x d H' (kk.trans k') (w'.mono (by omega)) dp (fix_siz pd)⟩
    refine ⟨_, rfl, rfl, _, rfl, ite2 (fun c => ?_) (fun c => ?_)⟩
    · exact ⟨_, rfl, a, _, rfl, hw2, by omega, fun x d H' k' w' dp pd => k x d H' (kk.trans k') (w'.mono (by omega)) dp (shr_siz pd)⟩
    refine ⟨_, rfl, _, _, rfl, rfl, _, rfl, ite2 (fun c => ?_) (fun c => ?_)⟩
    · refine ⟨_, rfl, _, rfl, a, z, _, wordsL, rfl, hw2, by omega, Ne.symm hz, hl, by decide, by decide, fun x H' hx b hw' => ?_⟩
      obtain ⟨d, e, _, p⟩ := words_d (K := K) (H := H') hx
      exact k x d H' (kk.trans b.keep) (hw'.mono (by omega)) e p
    refine ⟨_, rfl, rfl, _, rfl, ite2 (fun c => ?_) (fun c => ?_)⟩
    · refine ⟨_, rfl, a, _, rfl, hw2, by omega, fun x d H' k' w' dp pd => ⟨(by show 2 ≤ sizeLine; decide), fun q nq => ?_⟩⟩
      have s := same_upd (o := .tup [.str "upto", x]) nq
      exact k _ _ _ ((kk.trans k').trans (Keep.of s)) ((w'.mono (by omega)).same s) (tupNew nq (.cons (.str _) (.cons (dpS s dp) .nil))) (upto_siz pd)
    refine ⟨_, rfl, _, rfl, _, rfl, a, _, rfl, hw2, by omega, fun x1 d1 H3 k3 w3 e1 p1 => ?_⟩
    refine ⟨_, rfl, a, _, rfl, w3, by omega, fun x2 d2 H4 k4 w4 e2 p2 => ?_⟩
    have e1 := dpK k4 w3.lst.choose_spec 2 _ _ (fix_all p1).2.2.2 e1
    have hl := k4 _ _ hz (k3 _ _ hz hl)
    have kk := (kk.trans k3).trans k4
    refine ⟨(by show 2 ≤ sizeLine; decide), fun l nl => ⟨z, l, wordsL, [x1, x2], rfl, rfl, SqL.of (same_upd nl _ _ hl), SqL.of upd_same, (by show 5 ≤ sizeLine; decide), fun m nm => ?_⟩⟩
    have s1 := same_upd (o := .lst [x1, x2]) nl
    have s2 := same_upd (o := .lst (wordsL ++ [x1, x2])) nm
    have hl := s2 _ _ (s1 _ _ hl)
    have w5 := (w4.same s1).same s2
    have em := each_words (Pd := fun d => plnB d = true) (fun d h => h) (dpS s2 (dpS s1 e1)) (dpS s2 (dpS s1 e2)) (fix_pln p1) (fix_pln p2)
    have kk := (kk.trans (Keep.of s1)).trans (Keep.of s2)
    refine ⟨a, m, _, wordsL ++ [x1, x2], rfl, w5, by omega, Ne.symm (well_new (w4.same s1) nm), upd_same, by show 0 < 5; decide, by show 5 < 1000000; decide, fun x H6 hx b6 w6 => ?_⟩
    obtain ⟨d, e, p⟩ := em x hx
    have e := dpK b6.keep w5.lst.choose_spec 2 _ _ (ba p).2 e
    have hl := b6.keep _ _ hz hl
    have kk := kk.trans b6.keep
    clear hw2 w3 w4 w5 em e1 e2 s1 s2 k3 k4
    refine ⟨_, rfl, _, rfl, _, rfl, _, rfl, a, _, rfl, w6, by omega, fun y1 f1 H3 k3 w3 g1 q1 => ?_⟩
    refine ⟨_, rfl, a, _, rfl, w3, by omega, fun y2 f2 H4 k4 w4 g2 q2 => ?_⟩
    have e := dpK k4 w3.lst.choose_spec 2 _ _ (ba p).2 (dpK k3 w6.lst.choose_spec 2 _ _ (ba p).2 e)
    have g1 := dpK k4 w3.lst.choose_spec 2 _ _ (fix_all q1).2.2.2 g1
    have hl := k4 _ _ hz (k3 _ _ hz hl)
    have kk := (kk.trans k3).trans k4
    refine ⟨(by show 2 ≤ sizeLine; decide), fun l2 nl2 => ⟨z, l2, wordsL, [y1, y2], rfl, rfl, SqL.of (same_upd nl2 _ _ hl), SqL.of upd_same, (by show 5 ≤ sizeLine; decide), fun m2 nm2 => ?_⟩⟩
    have s1 := same_upd (o := .lst [y1, y2]) nl2
    have s2 := same_upd (o := .lst (wordsL ++ [y1, y2])) nm2
    have w5 := (w4.same s1).same s2
    have e := dpS s2 (dpS s1 e)
    have em := each_words (Pd := fun d => hghB d = true) (fun d h => pln_hgh h) (dpS s2 (dpS s1 g1)) (dpS s2 (dpS s1 g2)) (pln_hgh (fix_pln q1)) (shr_hgh q2)
    have kk := (kk.trans (Keep.of s1)).trans (Keep.of s2)
    refine ⟨a, m2, _, wordsL ++ [y1, y2], rfl, w5, by omega, Ne.symm (well_new (w4.same s1) nm2), upd_same, by show 0 < 5; decide, by show 5 < 1000000; decide, fun y H6 hy b6 w6 => ?_⟩
    obtain ⟨g, e', p'⟩ := em y hy
    have e' := dpK b6.keep w5.lst.choose_spec 2 _ _ (ba p').2 e'
    have e := dpK b6.keep w5.lst.choose_spec 2 _ _ (ba p).2 e
    have kk := kk.trans b6.keep
    refine ⟨(by show 3 ≤ sizeLine; decide), fun q nq => ?_⟩
    have s := same_upd (o := .tup [.str "between", x, y]) nq
    exact k _ _ _ (kk.trans (Keep.of s)) ((w6.mono (by omega)).same s) (tupNew nq (.cons (.str _) (.cons (dpS s e) (.cons (dpS s e') .nil)))) (betw_siz p p')
end
end K5

set_option Elab.async false
set_option linter.all false
set_option maxRecDepth 100000
set_option maxHeartbeats 4000000
namespace K5
open PySem PySem.Spec PyProof.Rows L2
open K1 (FnP top Nm wm)
/-! ### lists of drawn data -/
def AllSm (ds : List PyData) : Prop := ∀ d ∈ ds, smN 20 d = true
def Bag (K : PySem.W.Frag) (H : Hp) (D : Addr) (ds : List PyData) : Prop := ∃ xs, H D = some (.lst xs) ∧ DpAll K H xs ds
theorem Bag.same {K : PySem.W.Frag} {H H' : Hp} {D : Addr} {ds : List PyData} (h : Bag K H D ds) (s : Same H H') : Bag K H' D ds := by
  obtain ⟨xs, h1, h2⟩ := h
  exact ⟨xs, s _ _ h1, dpSA s h2⟩
theorem Bag.keep {K : PySem.W.Frag} {H H' : Hp} {a D : Addr} {ds : List PyData} {ws : List V} (h : Bag K H D ds) (s : Keep a H H') (ha : H a = some (.lst ws)) (hD : D ≠ a) (hs : AllSm ds) : Bag K H' D ds := by
  obtain ⟨xs, h1, h2⟩ := h
  exact ⟨xs, s _ _ hD h1, dpKall (fun d v => dpK s ha 20 d v) ds xs hs h2⟩
theorem dpU {K : PySem.W.Frag} {H : Hp} {D : Addr} {ws : List V} {o : HO} (hD : H D = some (.lst ws)) {n : Nat} {d : PyData} {v : V} (z : smN n d = true) (h : Dp K H v d) : Dp K (upd H D o) v d := dpK (a := D) (Keep.upd (Keep.of (Same.refl H))) hD n d v z h
theorem Bag.push {K : PySem.W.Frag} {H : Hp} {D : Addr} {ds : List PyData} {xs : List V} {x : V} {d : PyData} (h1 : H D = some (.lst xs)) (h2 : DpAll K H xs ds) (hs : AllSm ds) (hd : Dp K H x d) (z : smN 20 d = true) : Bag K (upd H D (.lst (xs ++ [x]))) D (ds ++ [d]) :=
  ⟨_, upd_same, dpSnoc (dpKall (fun d v => dpK (a := D) (Keep.upd (Keep.of (Same.refl H))) h1 20 d v) ds xs hs h2) (.cons (dpU h1 z hd) .nil)⟩
theorem allSm_snoc {ds : List PyData} {d : PyData} (h : AllSm ds) (z : smN 20 d = true) : AllSm (ds ++ [d]) := fun e he => by
  rcases List.mem_append.mp he with h' | h'
  · exact h e h'
  · rw [List.mem_singleton] at h'
    rw [h']
    exact z
/-- drawn so far by a comprehension, in the list at D -/
def PvB (K : PySem.W.Frag) (a D : Addr) (H0 : Hp) (n c : Int) (Pd : PyData → Prop) (i : Nat) (H : Hp) : Prop := Keep a H0 H ∧ Well H a (n + c * (i : Int)) ∧ ∃ ds : List PyData, ds.length = i ∧ Bag K H D ds ∧ ∀ d ∈ ds, Pd d
theorem PvB.zero {K : PySem.W.Frag} {a D : Addr} {H : Hp} {n c : Int} {Pd : PyData → Prop} (w : Well H a n) (nD : H D = none) : PvB K a D H n c Pd 0 (upd H D (.lst [])) := by
  have s := same_upd (o := .lst []) nD
  refine ⟨Keep.of s, ?_, [], rfl, ⟨[], upd_same, .nil⟩, fun d h => nomatch h⟩
  rw [show n + c * ((0 : Nat) : Int) = n by rw [show ((0 : Nat) : Int) = 0 from rfl, Int.mul_zero, Int.add_zero]]
  exact w.same s
theorem PvB.next {K : PySem.W.Frag} {a D : Addr} {H0 H H' : Hp} {n c : Int} {Pd : PyData → Prop} {i : Nat} {x : V} {d : PyData} {m : Int} (hs : ∀ d, Pd d → smN 20 d = true) (nDa : D ≠ a) (nD0 : H0 D = none) (h : PvB K a D H0 n c Pd i H) (hi : i < 1000) (kp : Keep a H H') (w' : Well H' a m) (hm : m ≤ n + c * (i : Int) + c)
    (hd : Dp K H' x d) (pd : Pd d) : ∃ acc, H' D = some (.lst acc) ∧ acc.length < sizeLine ∧ PvB K a D H0 n c Pd (i + 1) (upd H' D (.lst (acc ++ [x]))) := by
  obtain ⟨k0, w, ds, hl, hb, hp⟩ := h
  have ss : AllSm ds := fun e he => hs e (hp e he)
  obtain ⟨xs, b1, b2⟩ := hb.keep kp w.lst.choose_spec nDa ss
  have lx : xs.length = i := by rw [dpLen b2, hl]
  refine ⟨xs, b1, by rw [lx]; exact Nat.lt_trans hi (by decide), fun b o nb e => ?_, (w'.mono ?_).updNe nDa, ds ++ [d], by rw [List.length_append, hl]; rfl, Bag.push b1 b2 ss hd (hs d pd), fun e he => ?_⟩
  · rw [upd_ne (ne_of_none e nD0)]
    exact kp _ _ nb (k0 _ _ nb e)
  · rw [show ((i + 1 : Nat) : Int) = (i : Int) + 1 by omega, Int.mul_add, Int.mul_one, ← Int.add_assoc]
    exact hm
  · rcases List.mem_append.mp he with h' | h'
    · exact hp e h'
    · rw [List.mem_singleton] at h'
      rw [h']
      exact pd
/-! ### names, sizes that may be filled -/
def nmsB (d : PyData) : Bool := areNames d && smN 2 d
def namesL : List V := [.str "a", .str "b", .str "main", .str "side-start", .str "side-end", .str "x9"]
def nameD (d : PyData) : Bool := isName d && smN 1 d
theorem names_d {K : PySem.W.Frag} {H : Hp} {x : V} (h : x ∈ namesL) : ∃ d, Dp K H x d ∧ nameD d = true := by
  simp only [namesL, List.mem_cons, List.not_mem_nil, or_false] at h
  rcases h with rfl | rfl | rfl | rfl | rfl | rfl <;> exact ⟨_, .str _, by decide +kernel⟩
theorem nms_mk {ds : List PyData} (h : ∀ d ∈ ds, nameD d = true) (l : ds.length ≤ 100) : nmsB (.tuple ds) = true := by
  have h1 : areNames (.tuple ds) = true := List.all_eq_true.mpr fun e he => (ba (h e he)).1
  unfold nmsB
  rw [h1, sm_mk l fun e he => (ba (h e he)).2]
  rfl
section
variable {P : Program} {w : World} {K : PySem.W.Frag} {mg : Str → Option Value} {base : Heap}
theorem scCt : FnScope ["well", "words", "way"] ["well"] (defScope (top 76)) := ⟨rfl, rfl, rfl, by decide +kernel, rfl, by decide +kernel, by decide +kernel⟩
theorem ok_ct {f f1 f2 f3 f4 : Addr} {fd d1 d2 d3 d4 : FuncData} (F : FnP K "_law_counted" (top 76) f fd) (N : Nm mg) (d__law_draw : D2 P w K mg base "_law_draw" "well" "many" 1 spDraw f1 d1) (d__law_one : D2 P w K mg base "_law_one" "well" "some" 2 (spOne K) f2 d2)
    (d__law_fixed : D1 P w K mg base "_law_fixed" "well" 2 (spDat K 2 fun d => fixB d = true) f3 d3) (d__law_share : D1 P w K mg base "_law_share" "well" 2 (spDat K 1 fun d => shrB d = true) f4 d4) : FnOk P w K mg base CX0 3 f fd ["well"] (spDat K 10 fun d => cntB d = true) := by
  refine F.ok scCt (fun vs H Q E h => ?_) (fun cdv A outer s H vs Q E hr h => ?_)
  · obtain ⟨a, n, rfl, _⟩ := h
    rfl
  · obtain ⟨a, n, rfl, hw, hn, k⟩ := h
    refine ⟨_, PSs.nox (pss_cons (ps_set (i := 1) scCt.nd rfl (Or.inl rfl) (pe_lst (pa_cons pe_str (pa_cons pe_str (pa_cons pe_str pa_nil)))))
  (pss_cons (ps_set (i := 2) scCt.nd rfl (Or.inl rfl) (pe_call d__law_draw.G (hr.mono (by decide)) (by rfl) d__law_draw.g d__law_draw.kp d__law_draw.b .nil pass0 (pa_cons (pv 0) (pa_cons pe_int pa_nil))))
  (pss_cons (ps_if (pt_cmpR op_eq (pv 2) pe_int (nomark _))
    (pss_one (ps_ret (pe_call d__law_fixed.G (hr.mono (by decide)) (by rfl) d__law_fixed.g d__law_fixed.kp d__law_fixed.b .nil pass0 (pa_cons (pv 0) pa_nil))))
    pss_nil)
  (pss_cons (ps_if (pt_cmpR op_eq (pv 2) pe_int (nomark _))
    (pss_one (ps_ret (pe_tup (pa_cons pe_str (pa_cons (pe_call d__law_fixed.G (hr.mono (by decide)) (by rfl) d__law_fixed.g d__law_fixed.kp d__law_fixed.b .nil pass0 (pa_cons (pv 0) pa_nil)) (pa_cons (pe_call d__law_one.G (hr.mono (by decide)) (by rfl) d__law_one.g d__law_one.kp d__law_one.b .nil pass0 (pa_cons (pv 0) (pa_cons (pe_op op_catS (pv 1) (pe_lst (pa_cons (pe_call d__law_fixed.G (hr.mono (by decide)) (by rfl) d__law_fixed.g d__law_fixed.kp d__law_fixed.b .nil pass0 (pa_cons (pv 0) pa_nil)) (pa_cons (pe_call d__law_share.G (hr.mono (by decide)) (by rfl) d__law_share.g d__law_share.kp d__law_share.b .nil pass0 (pa_cons (pv 0) pa_nil)) pa_nil)))) pa_nil))) pa_nil))))))
    pss_nil)
  (pss_one (ps_ret (pe_tup (pa_cons pe_str (pa_cons (pe_call d__law_one.G (hr.mono (by decide)) (by rfl) d__law_one.g d__law_one.kp d__law_one.b .nil pass0 (pa_cons (pv 0) (pa_cons (pv 1) pa_nil))) (pa_cons (pe_call d__law_fixed.G (hr.mono (by decide)) (by rfl) d__law_fixed.g d__law_fixed.kp d__law_fixed.b .nil pass0 (pa_cons (pv 0) pa_nil)) pa_nil)))))))))), ?_⟩
    refine ⟨(by show 3 ≤ sizeLine; decide), fun z nz => ?_⟩
    have hz := well_new hw nz
    have kk : Keep a H _ := Keep.of (same_upd (o := .lst wordsL) nz)
    have hl := lstNew (xs := wordsL) nz
    have hw := hw.same (same_upd (o := .lst wordsL) nz)
    refine ⟨_, rfl, a, 3, _, rfl, hw, by omega, by decide, by decide, fun r H2 r0 r1 b2 hw2 => ?_⟩
    have hl := b2.keep _ _ hz hl
    have kk := kk.trans b2.keep
    clear hw
    refine ⟨_, rfl, rfl, _, rfl, ite2 (fun c => ?_) (fun c => ?_)⟩
    · exact ⟨_, rfl, a, _, rfl, hw2, by omega, fun x d H' k' w' dp pd => k x d H' (kk.trans k') (w'.mono (by omega)) dp (fix_cnt pd)⟩
    refine ⟨_, rfl, rfl, _, rfl, ite2 (fun c => ?_) (fun c => ?_)⟩
    · refine ⟨_, rfl, a, _, rfl, hw2, by omega, fun x d H6 k6 w6 e p => ?_⟩
      have hl := k6 _ _ hz hl
      have kk := kk.trans k6
      clear hw2
      refine ⟨_, rfl, _, rfl, _, rfl, a, _, rfl, w6, by omega, fun y1 f1 H3 k3 w3 g1 q1 => ?_⟩
      refine ⟨_, rfl, a, _, rfl, w3, by omega, fun y2 f2 H4 k4 w4 g2 q2 => ?_⟩
      have p2 := (fix_all p).2.2.2
      have e := dpK k4 w3.lst.choose_spec 2 _ _ p2 (dpK k3 w6.lst.choose_spec 2 _ _ p2 e)
      have g1 := dpK k4 w3.lst.choose_spec 2 _ _ (fix_all q1).2.2.2 g1
      have hl := k4 _ _ hz (k3 _ _ hz hl)
      have kk := (kk.trans k3).trans k4
      refine ⟨(by show 2 ≤ sizeLine; decide), fun l2 nl2 => ⟨z, l2, wordsL, [y1, y2], rfl, rfl, SqL.of (same_upd nl2 _ _ hl), SqL.of upd_same, (by show 5 ≤ sizeLine; decide), fun m2 nm2 => ?_⟩⟩
      have s1 := same_upd (o := .lst [y1, y2]) nl2
      have s2 := same_upd (o := .lst (wordsL ++ [y1, y2])) nm2
      have w5 := (w4.same s1).same s2
      have e := dpS s2 (dpS s1 e)
      have em := each_words (Pd := fun d => hghB d = true) (fun d h => pln_hgh h) (dpS s2 (dpS s1 g1)) (dpS s2 (dpS s1 g2)) (pln_hgh (fix_pln q1)) (shr_hgh q2)
      have kk := (kk.trans (Keep.of s1)).trans (Keep.of s2)
      refine ⟨a, m2, _, wordsL ++ [y1, y2], rfl, w5, by omega, Ne.symm (well_new (w4.same s1) nm2), upd_same, by show 0 < 5; decide, by show 5 < 1000000; decide, fun y H6 hy b6 w6 => ?_⟩
      obtain ⟨g, e', p'⟩ := em y hy
      have e' := dpK b6.keep w5.lst.choose_spec 2 _ _ (ba p').2 e'
      have e := dpK b6.keep w5.lst.choose_spec 2 _ _ p2 e
      have kk := kk.trans b6.keep
      refine ⟨(by show 3 ≤ sizeLine; decide), fun q nq => ?_⟩
      have s := same_upd (o := .tup [.str "between", x, y]) nq
      exact k _ _ _ (kk.trans (Keep.of s)) ((w6.mono (by omega)).same s) (tupNew nq (.cons (.str _) (.cons (dpS s e) (.cons (dpS s e') .nil)))) (betw_cnt (fix_pln p) p' (by rw [(fix_all p).1, Bool.true_or]))
    · refine ⟨_, rfl, _, rfl, a, z, _, wordsL, rfl, hw2, by omega, Ne.symm hz, hl, by decide, by decide, fun x H3 hx b3 w3 => ?_⟩
      obtain ⟨d, e, p, _⟩ := words_d (K := K) (H := H3) hx
      refine ⟨_, rfl, a, _, rfl, w3, by omega, fun y g H4 k4 w4 e' p' => ?_⟩
      have e := dpK k4 w3.lst.choose_spec 2 _ _ (ba p).2 e
      have kk := (kk.trans b3.keep).trans k4
      refine ⟨(by show 3 ≤ sizeLine; decide), fun q nq => ?_⟩
      have s := same_upd (o := .tup [.str "between", x, y]) nq
      exact k _ _ _ (kk.trans (Keep.of s)) ((w4.mono (by omega)).same s) (tupNew nq (.cons (.str _) (.cons (dpS s e) (.cons (dpS s e') .nil)))) (betw_cnt p (pln_hgh (fix_pln p')) (by rw [(fix_all p').1, Bool.or_true]))
theorem scLNm : FnScope ["well", "some", "turn"] ["well"] (defScope (top 77)) := ⟨rfl, rfl, rfl, by decide +kernel, rfl, by decide +kernel, by decide +kernel⟩
theorem ok_lnm {f f1 f2 : Addr} {fd d1 d2 : FuncData} (F : FnP K "_law_names" (top 77) f fd) (N : Nm mg) (d__law_draw : D2 P w K mg base "_law_draw" "well" "many" 1 spDraw f1 d1) (d__law_one : D2 P w K mg base "_law_one" "well" "some" 2 (spOne K) f2 d2) : FnOk P w K mg base CX0 3 f fd ["well"] (spDat K 3 fun d => nmsB d = true) := by
  refine F.ok scLNm (fun vs H Q E h => ?_) (fun cdv A outer s H vs Q E hr h => ?_)
  · obtain ⟨a, n, rfl, _⟩ := h
    rfl
  · obtain ⟨a, n, rfl, hw, hn, k⟩ := h
    refine ⟨_, PSs.nox (pss_cons (ps_set (i := 1) scLNm.nd rfl (Or.inr rfl) (pe_lst (pa_cons pe_str (pa_cons pe_str (pa_cons pe_str (pa_cons pe_str (pa_cons pe_str (pa_cons pe_str pa_nil))))))))
  (pss_one (ps_ret (pe_callTy call_tuple_of (by rfl) N.ttup (by decide +kernel) (pa_cons (pe_lc (own := [("turn", 2)]) (g := gName 2) (tt := tYes) rfl scLNm.nd (pi_range1 rfl N.rng (pa_cons (pe_call d__law_draw.G (hr.mono (by decide)) (by rfl) d__law_draw.g d__law_draw.kp d__law_draw.b .nil pass0 (pa_cons (pv 0) (pa_cons pe_int pa_nil))) pa_nil)) (blkOk_by (own := [("turn", 2)]) (N := ["well", "some", "turn"]) (sc := defScope (top 77)) (by decide +kernel)) (fun _ _ _ _ _ => (pg_name (i := 2) scLNm.nd rfl (Or.inl rfl))) (fun _ _ _ _ _ => pts_nil) (fun _ _ _ _ _ => (pe_call d__law_one.G (hr.mono (by decide)) (by rfl) d__law_one.g d__law_one.kp d__law_one.b .nil pass0 (pa_cons (pv 0) (pa_cons (pv 1) pa_nil))))) pa_nil))))), ?_⟩
    refine ⟨(by show 6 ≤ sizeLine; decide), fun z nz => ?_⟩
    have hz := well_new hw nz
    have kk : Keep a H _ := Keep.of (same_upd (o := .lst namesL) nz)
    have hl := lstNew (xs := namesL) nz
    have hw := hw.same (same_upd (o := .lst namesL) nz)
    refine ⟨_, rfl, a, 3, _, rfl, hw, by omega, by decide, by decide, fun r H2 r0 r1 b2 hw2 => ⟨r, rfl, by omega, by omega, fun D nD => ?_⟩⟩
    have hl := b2.keep _ _ hz hl
    have kk := kk.trans b2.keep
    have nDa := well_new hw2 nD
    have nDz : z ≠ D := ne_of_none hl nD
    refine lc_range (lo := 0) (n := r.toNat) (fun i G => PvB K a D H2 (n + 1) 1 (fun d => nameD d = true) i G ∧ G z = some (.lst namesL)) ⟨PvB.zero hw2 nD, by rw [upd_ne nDz]; exact hl⟩ ?_ ?_
    · rintro i H3 hi ⟨pv, hl3⟩
      obtain ⟨_, w3, _⟩ := id pv
      refine ⟨rfl, iteT (B := PvB K a D H2 (n + 1) 1 (fun d => nameD d = true) (i + 1) H3 ∧ H3 z = some (.lst namesL)) ?_⟩
      refine ⟨_, rfl, _, rfl, a, z, _, namesL, rfl, w3, by omega, Ne.symm hz, hl3, by decide, by decide, fun x H4 hx b4 w4 => ?_⟩
      obtain ⟨d, e, p⟩ := names_d (K := K) (H := H4) hx
      obtain ⟨acc, q1, q2, q3⟩ := pv.next (fun d pd => smN_le (ba pd).2 (by decide)) nDa nD (by omega) b4.keep w4 (by omega) e p
      exact ⟨acc, q1, q2, q3, by rw [upd_ne nDz]; exact b4.keep _ _ hz hl3⟩
    rintro H3 ⟨⟨k3, w3, ds, hd, ⟨xs, hD, hx⟩, hp⟩, _⟩
    refine ⟨D, xs, rfl, .inl ⟨SqL.of hD, fun l nl => ?_⟩⟩
    have s := same_upd (o := .tup xs) nl
    exact k _ _ _ ((kk.trans k3).trans (Keep.of s)) ((w3.mono (by omega)).same s) (.tup (SqT.of upd_same) (dpSA s hx)) (nms_mk hp (by omega))
end
end K5

set_option Elab.async false
set_option linter.all false
set_option maxRecDepth 100000
set_option maxHeartbeats 4000000
namespace K5
open PySem PySem.Spec PyProof.Rows L2
open K1 (FnP top Nm wm)
/-! ### entries drawn -/
def entB (wf : Bool) (e : PyData) : Bool := (isSize e || isNamesE e) && ((!wf || (!isSize e || mayFill e)) && smN 4 e)
theorem ent_names {wf : Bool} {d : PyData} (h : nmsB d = true) : entB wf (.tuple [.str "names", d]) = true ∧ isSize (.tuple [.str "names", d]) = false := by
  obtain ⟨h1, h2⟩ := ba h
  have hm : isMark (.tuple [.str "names", d]) "names" 2 = true := by
    show (decide ((2 : Int) = 2) && isWord (.str "names") ["names"]) = true
    decide
  have hs : isSize (.tuple [.str "names", d]) = false := mark_size hm (by decide) (by decide) (by decide) (by decide)
  have hn : isNamesE (.tuple [.str "names", d]) = true := by
    unfold isNamesE
    rw [hm]
    exact h1
  refine ⟨?_, hs⟩
  unfold entB
  rw [hs, hn, smN_mono _ _ (sm2 (n := 2) (by decide +kernel) h2)]
  cases wf <;> rfl
theorem ent_size {d : PyData} (h : sizB d = true) : entB false d = true ∧ isSize d = true := by
  obtain ⟨h1, h2⟩ := ba h
  refine ⟨?_, h1⟩
  unfold entB
  rw [h1, smN_mono _ _ h2]
  rfl
theorem ent_cnt {d : PyData} (h : cntB d = true) : entB true d = true ∧ isSize d = true := by
  obtain ⟨h0, h⟩ := ba h
  obtain ⟨h1, h2⟩ := ba h
  refine ⟨?_, h1⟩
  unfold entB
  rw [h0, h1, smN_mono _ _ h2]
  rfl
structure PlP (m : Int) (wf : Bool) (ds : List PyData) : Prop where
  e : ∀ d ∈ ds, entB wf d = true
  l : 1 ≤ (ds.filter isSize).length
  u : ((ds.filter isSize).length : Int) ≤ m
  n : ds.length ≤ 6
theorem PlP.flat {m : Int} {wf : Bool} {ds : List PyData} (h : PlP m wf ds) : ∀ d ∈ ds, (isSize d || isNamesE d) = true ∧ smN 4 d = true := fun d hd => by
  obtain ⟨h1, h2⟩ := ba (h.e d hd)
  exact ⟨h1, (ba h2).2⟩
theorem PlP.may {m : Int} {ds : List PyData} (h : PlP m true ds) : ∀ d ∈ ds, isSize d = true → mayFill d = true := fun d hd hs => by
  obtain ⟨_, h2⟩ := ba (h.e d hd)
  have h3 := (ba h2).1
  rw [hs] at h3
  exact h3
theorem PlP.inner {m : Int} {wf : Bool} {ds : List PyData} (h : PlP m wf ds) : areInner (.tuple ds) = true := by
  have h1 : (ds.all fun d => isSize d || isNamesE d) = true := List.all_eq_true.mpr fun e he => (h.flat e he).1
  have h2 : ds.any isSize = true := by
    have := h.l
    rw [List.any_eq_true]
    cases hf : ds.filter isSize with
    | nil =>
      rw [hf] at this
      exact absurd this (by decide)
    | cons x xs =>
      have hm : x ∈ ds.filter isSize := by rw [hf]; exact List.mem_cons_self ..
      exact ⟨x, (List.mem_filter.mp hm).1, (List.mem_filter.mp hm).2⟩
  unfold areInner
  simp only [h1, h2, Bool.and_self]
theorem PlP.sm {m : Int} {wf : Bool} {ds : List PyData} (h : PlP m wf ds) : smN 5 (.tuple ds) = true := sm_mk (by have := h.n; omega) fun e he => (h.flat e he).2
section
variable {P : Program} {w : World} {K : PySem.W.Frag} {mg : Str → Option Value} {base : Heap}
def spPl (K : PySem.W.Frag) : Sp := fun vs H Q _ => ∃ (a : Addr) (n m : Int) (wf : Bool), vs = [.ref a, .int m, .bl wf] ∧ Well H a n ∧ 0 < m ∧ m ≤ 3 ∧ n + 50 ≤ 1000000 ∧ ∀ x ds H', Keep a H H' → Well H' a (n + 50) → Dp K H' x (.tuple ds) → PlP m wf ds → Q x H'
theorem scPl : FnScope ["well", "many", "with_fixed", "found", "turn"] ["well", "many", "with_fixed"] (defScope (top 78)) := ⟨rfl, rfl, rfl, by decide +kernel, rfl, by decide +kernel, by decide +kernel⟩
theorem ok_pl {f f1 f2 f3 f4 : Addr} {fd d1 d2 d3 d4 : FuncData} (F : FnP K "_law_plain" (top 78) f fd) (N : Nm mg) (d__law_draw : D2 P w K mg base "_law_draw" "well" "many" 1 spDraw f1 d1) (d__law_names : D1 P w K mg base "_law_names" "well" 3 (spDat K 3 fun d => nmsB d = true) f2 d2)
    (d__law_counted : D1 P w K mg base "_law_counted" "well" 3 (spDat K 10 fun d => cntB d = true) f3 d3) (d__law_size : D1 P w K mg base "_law_size" "well" 3 (spDat K 10 fun d => sizB d = true) f4 d4) : FnOk P w K mg base CX0 4 f fd ["well", "many", "with_fixed"] (spPl K) := by
  refine F.ok scPl (fun vs H Q E h => ?_) (fun cdv A outer s H vs Q E hr h => ?_)
  · obtain ⟨a, n, m, wf, rfl, _⟩ := h
    rfl
  · obtain ⟨a, n, m, wf, rfl, hw, m0, m1, hn, k⟩ := h
    refine ⟨_, PSs.nox (pss_cons (ps_set (i := 3) scPl.nd rfl (Or.inl rfl) (pe_lst pa_nil))
  (pss_cons (ps_for PassesOwn.never rfl (pi_range1 rfl N.rng (pa_cons (pe_op op_add pe_int (pe_call d__law_draw.G (hr.mono (by decide)) (by rfl) d__law_draw.g d__law_draw.kp d__law_draw.b .nil pass0 (pa_cons (pv 0) (pa_cons (pv 1) pa_nil)))) pa_nil))
    (pg_name (i := 4) scPl.nd rfl (Or.inl rfl))
    (pss_cons (ps_if (pt_cmpR op_eq (pe_call d__law_draw.G (hr.mono (by decide)) (by rfl) d__law_draw.g d__law_draw.kp d__law_draw.b .nil pass0 (pa_cons (pv 0) (pa_cons pe_int pa_nil))) pe_int (nomark _))
    (pss_one (ps_expr (pe_bm PySem.F.plainAttrs_list PySem.F.slot_list_append PySem.F.type_list_append mt_append (pv 3) (pa_cons (pe_tup (pa_cons pe_str (pa_cons (pe_call d__law_names.G (hr.mono (by decide)) (by rfl) d__law_names.g d__law_names.kp d__law_names.b .nil pass0 (pa_cons (pv 0) pa_nil)) pa_nil))) pa_nil))))
    pss_nil)
  (pss_one (ps_expr (pe_bm PySem.F.plainAttrs_list PySem.F.slot_list_append PySem.F.type_list_append mt_append (pv 3) (pa_cons (pe_ifExp (pt_val (pv 2)) (pe_call d__law_counted.G (hr.mono (by decide)) (by rfl) d__law_counted.g d__law_counted.kp d__law_counted.b .nil pass0 (pa_cons (pv 0) pa_nil)) (pe_call d__law_size.G (hr.mono (by decide)) (by rfl) d__law_size.g d__law_size.kp d__law_size.b .nil pass0 (pa_cons (pv 0) pa_nil))) pa_nil))))))
  (pss_one (ps_ret (pe_callTy call_tuple_of (by rfl) N.ttup (by decide +kernel) (pa_cons (pv 3) pa_nil)))))), ?_⟩
    refine ⟨(by show 0 ≤ sizeLine; decide), fun D nD => ?_⟩
    have nDa := well_new hw nD
    have sD := same_upd (o := .lst []) nD
    refine ⟨_, rfl, _, rfl, a, m, n, rfl, hw.same sD, by omega, m0, by omega, fun r H2 r0 r1 b2 hw2 => ⟨_, _, rfl, rfl, 1 + r, rfl, by omega, by omega, ?_⟩⟩
    refine for_range (n := (1 + r).toNat) (fun i σ H' => Keep a H H' ∧ Well H' a (n + 1 + 14 * (i : Int)) ∧ (∃ ds, Bag K H' D ds ∧ (∀ d ∈ ds, entB wf d = true) ∧ (ds.filter isSize).length = i ∧ ds.length ≤ 2 * i) ∧ ∃ v, σ = [some (.ref a), some (.int m), some (.bl wf), some (.ref D), v])
      ⟨(Keep.of sD).trans b2.keep, hw2.mono (by omega), ⟨[], ⟨[], b2.keep _ _ nDa upd_same, .nil⟩, (fun d h => nomatch h), rfl, Nat.zero_le _⟩, _, rfl⟩ ?_ ?_
    · rintro i σ H3 hi ⟨k3, w3, ⟨ds, hb, he, hc, hl⟩, v, rfl⟩
      have i3 : i < 3 := by omega
      have fin : ∀ (ds : List PyData) (H4 : Hp) (x : V) (d : PyData) (m' : Int), Bag K H4 D ds → (∀ d ∈ ds, entB wf d = true) → (ds.filter isSize).length = i → ds.length ≤ 2 * i + 1 → Keep a H H4 → Well H4 a m' → m' ≤ n + 1 + 14 * (i : Int) + 14 → Dp K H4 x d → entB wf d = true → isSize d = true →
          ∃ xs, H4 D = some (.lst xs) ∧ xs.length < sizeLine ∧ Keep a H (upd H4 D (.lst (xs ++ [x]))) ∧ Well (upd H4 D (.lst (xs ++ [x]))) a (n + 1 + 14 * ((i + 1 : Nat) : Int)) ∧ (∃ ds, Bag K (upd H4 D (.lst (xs ++ [x]))) D ds ∧ (∀ d ∈ ds, entB wf d = true) ∧ (ds.filter isSize).length = i + 1 ∧ ds.length ≤ 2 * (i + 1)) := by
        rintro ds H4 x d m' ⟨xs, b1, b2⟩ he hc hl k4 w4 hm e p ps
        have ss : AllSm ds := fun e h => smN_le (ba (ba (he e h)).2).2 (by decide)
        have lx := dpLen b2
        refine ⟨xs, b1, by rw [lx]; exact Nat.lt_of_lt_of_le (m := 1000) (by omega) (by decide), fun b o nb eb => ?_, (w4.mono (by omega)).updNe nDa, ds ++ [d], Bag.push b1 b2 ss e (smN_le (ba (ba p).2).2 (by decide)), fun e h => ?_, ?_, ?_⟩
        · rw [upd_ne (ne_of_none eb nD)]
          exact k4 _ _ nb eb
        · rcases List.mem_append.mp h with h' | h'
          · exact he e h'
          · rw [List.mem_singleton] at h'
            rw [h']
            exact p
        · rw [List.filter_append, List.length_append, hc, List.filter_cons_of_pos ps]
          rfl
        · rw [List.length_append, List.length_singleton]
          omega
      have ss : AllSm ds := fun e h => smN_le (ba (ba (he e h)).2).2 (by decide)
      refine ⟨_, rfl, a, 3, _, rfl, w3, by omega, by decide, by decide, fun q H4 q0 q1 b4 w4 => ⟨rfl, _, rfl, ite2 (fun c => ?_) (fun c => ?_)⟩⟩
      · have hb4 := hb.keep b4.keep w3.lst.choose_spec nDa ss
        obtain ⟨xs1, hD1, _⟩ := id hb4
        refine ⟨_, rfl, .inl ⟨rfl, _, SqL.of hD1⟩, _, rfl, a, _, rfl, w4, by omega, fun x d H5 k5 w5 e p => ⟨(by show 2 ≤ sizeLine; decide), fun g ng => ?_⟩⟩
        have sg := same_upd (o := .tup [.str "names", x]) ng
        have tg := tupNew (K := K) (xs := [.str "names", x]) (ds := [.str "names", d]) ng (.cons (.str _) (.cons (dpS sg e) .nil))
        obtain ⟨en, es⟩ := ent_names (wf := wf) p
        have hb5 := (hb4.keep k5 w4.lst.choose_spec nDa ss).same sg
        obtain ⟨xs2, hD2, hx2⟩ := id hb5
        have lx2 := dpLen hx2
        refine ⟨D, xs2, _, rfl, rfl, hD2, by rw [lx2]; exact Nat.lt_of_lt_of_le (m := 1000) (by omega) (by decide), ?_⟩
        have hb6 := Bag.push hD2 hx2 ss tg (smN_le (ba (ba en).2).2 (by decide))
        have w6 := (w5.same sg).updNe (o := .lst (xs2 ++ [.ref g])) nDa
        have k6 : Keep a H _ := ((k3.trans b4.keep).trans k5).trans (Keep.of sg)
        have k7 : Keep a H (upd (upd H5 g (.tup [.str "names", x])) D (.lst (xs2 ++ [.ref g]))) := fun b o nb eb => by
          rw [upd_ne (ne_of_none eb nD)]
          exact k6 _ _ nb eb
        have he6 : ∀ e ∈ ds ++ [PyData.tuple [.str "names", d]], entB wf e = true := fun e h => by
          rcases List.mem_append.mp h with h' | h'
          · exact he e h'
          · rw [List.mem_singleton] at h'
            rw [h']
            exact en
        have hc6 : ((ds ++ [PyData.tuple [.str "names", d]]).filter isSize).length = i := by
          rw [List.filter_append, List.length_append, hc, List.filter_cons_of_neg (by rw [es]; decide)]
          rfl
        have hl6 : (ds ++ [PyData.tuple [.str "names", d]]).length ≤ 2 * i + 1 := by
          rw [List.length_append, List.length_singleton]
          omega
        clear hb4 hb5 tg sg
        obtain ⟨xs0, hD0, _⟩ := id hb6
        refine ⟨_, rfl, .inl ⟨rfl, _, SqL.of hD0⟩, ?_⟩
        cases wf with
        | true =>
          refine ⟨_, rfl, true, rfl, iteT ⟨_, rfl, a, _, rfl, w6, by omega, fun y d6 H6 k6 w7 e p => ?_⟩⟩
          have ss : AllSm (ds ++ [PyData.tuple [.str "names", d]]) := fun e h => smN_le (ba (ba (he6 e h)).2).2 (by decide)
          obtain ⟨p1, p2⟩ := ent_cnt p
          obtain ⟨xs, q1, q2, q3, q4, q5⟩ := fin (ds ++ [PyData.tuple [.str "names", d]]) H6 y d6 _ (Bag.keep hb6 k6 (w6).lst.choose_spec nDa ss) he6 hc6 hl6 ((k7).trans k6) w7 (by omega) e p1 p2
          exact ⟨D, xs, _, rfl, rfl, q1, q2, q3, q4, q5, _, rfl⟩
        | false =>
          refine ⟨_, rfl, false, rfl, iteF ⟨_, rfl, a, _, rfl, w6, by omega, fun y d6 H6 k6 w7 e p => ?_⟩⟩
          have ss : AllSm (ds ++ [PyData.tuple [.str "names", d]]) := fun e h => smN_le (ba (ba (he6 e h)).2).2 (by decide)
          obtain ⟨p1, p2⟩ := ent_size p
          obtain ⟨xs, q1, q2, q3, q4, q5⟩ := fin (ds ++ [PyData.tuple [.str "names", d]]) H6 y d6 _ (Bag.keep hb6 k6 (w6).lst.choose_spec nDa ss) he6 hc6 hl6 ((k7).trans k6) w7 (by omega) e p1 p2
          exact ⟨D, xs, _, rfl, rfl, q1, q2, q3, q4, q5, _, rfl⟩
      · have hb4 := hb.keep b4.keep w3.lst.choose_spec nDa ss
        have k4 : Keep a H H4 := k3.trans b4.keep
        have hl4 : ds.length ≤ 2 * i + 1 := by omega
        obtain ⟨xs0, hD0, _⟩ := id hb4
        refine ⟨_, rfl, .inl ⟨rfl, _, SqL.of hD0⟩, ?_⟩
        cases wf with
        | true =>
          refine ⟨_, rfl, true, rfl, iteT ⟨_, rfl, a, _, rfl, w4, by omega, fun y d6 H6 k6 w6 e p => ?_⟩⟩
          have ss : AllSm ds := fun e h => smN_le (ba (ba (he e h)).2).2 (by decide)
          obtain ⟨p1, p2⟩ := ent_cnt p
          obtain ⟨xs, q1, q2, q3, q4, q5⟩ := fin ds H6 y d6 _ (Bag.keep hb4 k6 (w4).lst.choose_spec nDa ss) he hc hl4 ((k4).trans k6) w6 (by omega) e p1 p2
          exact ⟨D, xs, _, rfl, rfl, q1, q2, q3, q4, q5, _, rfl⟩
        | false =>
          refine ⟨_, rfl, false, rfl, iteF ⟨_, rfl, a, _, rfl, w4, by omega, fun y d6 H6 k6 w6 e p => ?_⟩⟩
          have ss : AllSm ds := fun e h => smN_le (ba (ba (he e h)).2).2 (by decide)
          obtain ⟨p1, p2⟩ := ent_size p
          obtain ⟨xs, q1, q2, q3, q4, q5⟩ := fin ds H6 y d6 _ (Bag.keep hb4 k6 (w4).lst.choose_spec nDa ss) he hc hl4 ((k4).trans k6) w6 (by omega) e p1 p2
          exact ⟨D, xs, _, rfl, rfl, q1, q2, q3, q4, q5, _, rfl⟩
    rintro σ H3 ⟨k3, w3, ⟨ds, ⟨xs, hD, hx⟩, he, hc, hl⟩, v, rfl⟩
    refine ⟨_, rfl, D, xs, rfl, .inl ⟨SqL.of hD, fun l nl => ?_⟩⟩
    have s := same_upd (o := .tup xs) nl
    exact k _ ds _ (k3.trans (Keep.of s)) ((w3.mono (by omega)).same s) (.tup (SqT.of upd_same) (dpSA s hx)) ⟨he, by omega, by omega, by omega⟩
end
end K5

set_option Elab.async false
set_option linter.all false
set_option maxRecDepth 100000
set_option maxHeartbeats 4000000
namespace K5
open PySem PySem.Spec PyProof.Rows L2
open K1 (FnP top Nm wm)
/-! ### templates drawn -/
structure TI (wf : Bool) (b : Nat) (ds : List PyData) : Prop where
  e : ∀ d ∈ ds, isEntry d = true ∧ isFill d = false ∧ smN 7 d = true
  z : (szs ds).length ≤ b
  m : wf = true → ∀ d ∈ szs ds, mayFill d = true
  n : ds.length ≤ 7
theorem TI.sm {wf : Bool} {b : Nat} {ds : List PyData} (h : TI wf b ds) : AllSm ds := fun d hd => smN_le (h.e d hd).2.2 (by decide)
theorem szs_app (l r : List PyData) : szs (l ++ r) = szs l ++ szs r := List.flatMap_append
theorem szOne_flat {e : PyData} (h : (isSize e || isNamesE e) = true) : szOne e = if isSize e = true then [e] else [] := by
  unfold szOne
  rw [flat_rep h, flat_fill h]
  rfl
theorem szs_flat : ∀ ds : List PyData, (∀ d ∈ ds, (isSize d || isNamesE d) = true) → szs ds = ds.filter isSize
  | [], _ => rfl
  | d :: ds, h => by
    have ih := szs_flat ds fun e he => h e (List.mem_cons_of_mem _ he)
    show szOne d ++ szs ds = _
    rw [szOne_flat (h d (List.mem_cons_self ..)), ih]
    by_cases hs : isSize d = true
    · rw [if_pos hs, List.filter_cons_of_pos hs]
      rfl
    · rw [if_neg hs, List.filter_cons_of_neg hs]
      rfl
theorem TI.nil {wf : Bool} : TI wf 3 [] := ⟨fun d h => (nomatch h), Nat.zero_le _, fun _ d h => (nomatch h), Nat.zero_le _⟩
theorem TI.plain {wf : Bool} {ds : List PyData} (h : PlP 3 wf ds) : TI wf 3 ds := by
  have hz := szs_flat ds fun d hd => (h.flat d hd).1
  refine ⟨fun d hd => ?_, ?_, fun e d hd => ?_, by have := h.n; omega⟩
  · obtain ⟨h1, h2⟩ := h.flat d hd
    refine ⟨?_, flat_fill h1, smN_le h2 (by decide)⟩
    unfold isEntry
    rcases Bool.or_eq_true_iff.mp h1 with q | q
    · rw [q, Bool.true_or]
    · rw [q, Bool.true_or, Bool.or_true]
  · rw [hz]
    have := h.u
    omega
  · subst e
    rw [hz] at hd
    obtain ⟨q1, q2⟩ := List.mem_filter.mp hd
    exact h.may d q1 q2
theorem TI.le {wf : Bool} {b c : Nat} {ds : List PyData} (h : TI wf b ds) (l : b ≤ c) : TI wf c ds := ⟨h.e, Nat.le_trans h.z l, h.m, h.n⟩
theorem rep_all {wf : Bool} {r : Int} {es : List PyData} (h : PlP 2 wf es) (r0 : 1 ≤ r) (r1 : r ≤ 3) : isEntry (.tuple [.str "repeat", .int r, .tuple es]) = true ∧ isFill (.tuple [.str "repeat", .int r, .tuple es]) = false ∧ smN 7 (.tuple [.str "repeat", .int r, .tuple es]) = true ∧
    (szOne (.tuple [.str "repeat", .int r, .tuple es])).length ≤ 6 ∧ (wf = true → ∀ d ∈ szOne (.tuple [.str "repeat", .int r, .tuple es]), mayFill d = true) := by
  have hr : isRepeat (.tuple [.str "repeat", .int r, .tuple es]) = true := by
    show ((decide ((3 : Int) = 3) && isWord (.str "repeat") ["repeat"]) && (true && ((decide (1 ≤ r) && decide (r ≤ 20)) && areInner (.tuple es)))) = true
    rw [h.inner, decide_eq_true r0, decide_eq_true (by omega : r ≤ 20)]
    decide
  have hf : isFill (.tuple [.str "repeat", .int r, .tuple es]) = false := by
    show (((decide ((3 : Int) = 2) && isWord (.str "repeat") ["fill"]) || (decide ((3 : Int) = 2) && isWord (.str "repeat") ["fit"])) && areInner (.int r)) = false
    rfl
  have hz : szOne (.tuple [.str "repeat", .int r, .tuple es]) = (List.replicate r.toNat (es.filter isSize)).flatten := by
    unfold szOne
    rw [if_pos hr]
    rfl
  refine ⟨?_, hf, ?_, ?_, fun e d hd => ?_⟩
  · unfold isEntry
    rw [hr, Bool.true_or, Bool.or_true, Bool.or_true]
  · refine smN_le (m := 6) (sm_mk (by show 3 ≤ 100; decide) fun e he => ?_) (by decide)
    simp only [List.mem_cons, List.not_mem_nil, or_false] at he
    rcases he with rfl | rfl | rfl
    · decide +kernel
    · show decide (r.natAbs < 2 ^ 98) = true
      exact decide_eq_true (by omega)
    · exact h.sm
  · rw [hz, flat_len]
    have h2 : (es.filter isSize).length ≤ 2 := by
      have := h.u
      omega
    have h3 : r.toNat ≤ 3 := by omega
    exact Nat.le_trans (Nat.mul_le_mul h3 h2) (by decide)
  · subst e
    rw [hz] at hd
    obtain ⟨l, hl, hdl⟩ := List.mem_flatten.mp hd
    rw [List.eq_of_mem_replicate hl] at hdl
    obtain ⟨q1, q2⟩ := List.mem_filter.mp hdl
    exact h.may d q1 q2
theorem TI.rep {wf : Bool} {ds : List PyData} {r : Int} {es : List PyData} (t : TI wf 3 ds) (hn : ds.length ≤ 6) (h : PlP 2 wf es) (r0 : 1 ≤ r) (r1 : r ≤ 3) : TI wf 9 (ds ++ [.tuple [.str "repeat", .int r, .tuple es]]) := by
  obtain ⟨a1, a2, a3, a4, a5⟩ := rep_all h r0 r1
  have hz : szs (ds ++ [.tuple [.str "repeat", .int r, .tuple es]]) = szs ds ++ szOne (.tuple [.str "repeat", .int r, .tuple es]) := by
    rw [szs_app]
    congr 1
    exact List.append_nil _
  refine ⟨fun d hd => ?_, ?_, fun e d hd => ?_, by rw [List.length_append, List.length_singleton]; omega⟩
  · rcases List.mem_append.mp hd with q | q
    · exact t.e d q
    · rw [List.mem_singleton] at q
      subst q
      exact ⟨a1, a2, a3⟩
  · rw [hz, List.length_append]
    have := t.z
    omega
  · rw [hz] at hd
    rcases List.mem_append.mp hd with q | q
    · exact t.m e d q
    · exact a5 e d q
theorem fill_all {z : Str} {es : List PyData} (hz : z = "fill" ∨ z = "fit") (h : PlP 2 true es) : isEntry (.tuple [.str z, .tuple es]) = true ∧ isFill (.tuple [.str z, .tuple es]) = true ∧ smN 7 (.tuple [.str z, .tuple es]) = true ∧
    (szOne (.tuple [.str z, .tuple es])).length ≤ 2 ∧ ∀ d ∈ szOne (.tuple [.str z, .tuple es]), mayFill d = true := by
  have hr : isRepeat (.tuple [.str z, .tuple es]) = false := by
    unfold isRepeat
    rw [show isMark (.tuple [.str z, .tuple es]) "repeat" 3 = false by
      show (decide ((2 : Int) = 3) && isWord (.str z) ["repeat"]) = false
      rfl]
    rfl
  have hf : isFill (.tuple [.str z, .tuple es]) = true := by
    show (((decide ((2 : Int) = 2) && isWord (.str z) ["fill"]) || (decide ((2 : Int) = 2) && isWord (.str z) ["fit"])) && areInner (.tuple es)) = true
    rw [h.inner]
    rcases hz with rfl | rfl <;> decide
  have hzz : szOne (.tuple [.str z, .tuple es]) = es.filter isSize := by
    unfold szOne
    rw [hr, if_pos hf]
    rfl
  refine ⟨?_, hf, ?_, ?_, fun d hd => ?_⟩
  · unfold isEntry
    rw [hf, Bool.or_true, Bool.or_true, Bool.or_true]
  · refine smN_le (m := 6) (sm_mk (by show 2 ≤ 100; decide) fun e he => ?_) (by decide)
    simp only [List.mem_cons, List.not_mem_nil, or_false] at he
    rcases he with rfl | rfl
    · rcases hz with rfl | rfl <;> decide +kernel
    · exact h.sm
  · rw [hzz]
    have := h.u
    omega
  · rw [hzz] at hd
    obtain ⟨q1, q2⟩ := List.mem_filter.mp hd
    exact h.may d q1 q2
def TpP (d : PyData) : Prop := areEnt d = true ∧ smN 9 d = true
theorem tp_plain {wf : Bool} {ds : List PyData} (t : TI wf 9 ds) : TpP (.tuple ds) := by
  have h1 : ds.all isEntry = true := List.all_eq_true.mpr fun e he => (t.e e he).1
  have h2 : ds.filter isFill = [] := List.filter_eq_nil_iff.mpr fun e he => by rw [(t.e e he).2.1]; decide
  have hz := t.z
  refine ⟨?_, smN_le (m := 8) (sm_mk (by have := t.n; omega) fun e he => (t.e e he).2.2) (by decide)⟩
  show (ds.all isEntry && (!(decide (40 < (szs ds).length) || decide (1 < (ds.filter isFill).length)) && (decide ((ds.filter isFill).length = 0) || (szs ds).all mayFill))) = true
  rw [h1, h2, decide_eq_false (by omega : ¬ 40 < (szs ds).length)]
  rfl
theorem tp_fill {l r : List PyData} {z : Str} {es : List PyData} (t : TI true 9 (l ++ r)) (hz : z = "fill" ∨ z = "fit") (h : PlP 2 true es) : TpP (.tuple (l ++ [.tuple [.str z, .tuple es]] ++ r)) := by
  obtain ⟨a1, a2, a3, a4, a5⟩ := fill_all hz h
  generalize PyData.tuple [.str z, .tuple es] = F at a1 a2 a3 a4 a5
  have mem : ∀ e ∈ l ++ [F] ++ r, e ∈ l ++ r ∨ e = F := fun e he => by
    rcases List.mem_append.mp he with q | q
    · rcases List.mem_append.mp q with q | q
      · exact .inl (List.mem_append.mpr (.inl q))
      · exact .inr (List.mem_singleton.mp q)
    · exact .inl (List.mem_append.mpr (.inr q))
  have h1 : (l ++ [F] ++ r).all isEntry = true := List.all_eq_true.mpr fun e he => by
    rcases mem e he with q | q
    · exact (t.e e q).1
    · rw [q]; exact a1
  have nf : ∀ k : List PyData, (∀ e ∈ k, e ∈ l ++ r) → k.filter isFill = [] := fun k hk => List.filter_eq_nil_iff.mpr fun e he => by rw [(t.e e (hk e he)).2.1]; decide
  have h2 : (l ++ [F] ++ r).filter isFill = [F] := by
    rw [List.filter_append, List.filter_append, nf l fun e he => List.mem_append.mpr (.inl he), nf r fun e he => List.mem_append.mpr (.inr he), List.filter_cons_of_pos a2]
    rfl
  have hz1 : szs (l ++ [F] ++ r) = szs l ++ szOne F ++ szs r := by
    rw [szs_app, szs_app]
    congr 2
    exact List.append_nil _
  have hz2 := t.z
  rw [szs_app, List.length_append] at hz2
  have h3 : (szs (l ++ [F] ++ r)).length ≤ 40 := by
    rw [hz1, List.length_append, List.length_append]
    omega
  have h4 : (szs (l ++ [F] ++ r)).all mayFill = true := List.all_eq_true.mpr fun e he => by
    rw [hz1] at he
    rcases List.mem_append.mp he with q | q
    · rcases List.mem_append.mp q with q | q
      · exact t.m rfl e (by rw [szs_app]; exact List.mem_append.mpr (.inl q))
      · exact a5 e q
    · exact t.m rfl e (by rw [szs_app]; exact List.mem_append.mpr (.inr q))
  refine ⟨?_, smN_le (m := 8) (sm_mk ?_ fun e he => ?_) (by decide)⟩
  · show ((l ++ [F] ++ r).all isEntry && (!(decide (40 < (szs (l ++ [F] ++ r)).length) || decide (1 < ((l ++ [F] ++ r).filter isFill).length)) && (decide (((l ++ [F] ++ r).filter isFill).length = 0) || (szs (l ++ [F] ++ r)).all mayFill))) = true
    rw [h1, h2, h4, decide_eq_false (by omega : ¬ 40 < (szs (l ++ [F] ++ r)).length)]
    rfl
  · have := t.n
    rw [List.length_append] at this
    rw [List.length_append, List.length_append, List.length_singleton]
    omega
  · rcases mem e he with q | q
    · exact (t.e e q).2.2
    · rw [q]; exact a3
theorem dpTake {K : PySem.W.Frag} {H : Hp} : ∀ {xs : List V} {ds : List PyData} (i : Nat), DpAll K H xs ds → DpAll K H (xs.take i) (ds.take i)
  | _, _, 0, _ => by rw [List.take_zero, List.take_zero]; exact .nil
  | _, _, _ + 1, .nil => by rw [List.take_nil, List.take_nil]; exact .nil
  | _, _, i + 1, .cons h1 h2 => .cons h1 (dpTake i h2)
theorem dpDrop {K : PySem.W.Frag} {H : Hp} : ∀ {xs : List V} {ds : List PyData} (i : Nat), DpAll K H xs ds → DpAll K H (xs.drop i) (ds.drop i)
  | _, _, 0, h => h
  | _, _, _ + 1, .nil => by rw [List.drop_nil, List.drop_nil]; exact .nil
  | _, _, i + 1, .cons _ h2 => dpDrop i h2
section
variable {P : Program} {w : World} {K : PySem.W.Frag} {mg : Str → Option Value} {base : Heap}
def spTp (K : PySem.W.Frag) : Sp := fun vs H Q _ => ∃ (a : Addr) (n : Int) (wf : Bool), vs = [.ref a, .bl wf] ∧ Well H a n ∧ n + 200 ≤ 1000000 ∧ ∀ x d H', Keep a H H' → Well H' a (n + 200) → Dp K H' x d → TpP d → Q x H'
theorem scTm : FnScope ["well", "with_fill", "found"] ["well", "with_fill"] (defScope (top 79)) := ⟨rfl, rfl, rfl, by decide +kernel, rfl, by decide +kernel, by decide +kernel⟩
theorem ok_tm {f f1 f2 f3 : Addr} {fd d1 d2 d3 : FuncData} (F : FnP K "_law_template" (top 79) f fd) (N : Nm mg) (d__law_draw : D2 P w K mg base "_law_draw" "well" "many" 1 spDraw f1 d1) (d__law_one : D2 P w K mg base "_law_one" "well" "some" 2 (spOne K) f2 d2)
    (d__law_plain : D3 P w K mg base "_law_plain" "well" "many" "with_fixed" 4 (spPl K) f3 d3) : FnOk P w K mg base CX0 5 f fd ["well", "with_fill"] (spTp K) := by
  refine F.ok scTm (fun vs H Q E h => ?_) (fun cdv A outer s H vs Q E hr h => ?_)
  · obtain ⟨a, n, wf, rfl, _⟩ := h
    rfl
  · obtain ⟨a, n, wf, rfl, hw, hn, k⟩ := h
    refine ⟨_, PSs.nox (pss_cons (ps_set (i := 2) scTm.nd rfl (Or.inl rfl) (pe_ifExp (pt_cmpR op_gt (pe_call d__law_draw.G (hr.mono (by decide)) (by rfl) d__law_draw.g d__law_draw.kp d__law_draw.b .nil pass0 (pa_cons (pv 0) (pa_cons pe_int pa_nil))) pe_int (nomark _)) (pe_callTy call_list_of (by rfl) N.tlst (by decide +kernel) (pa_cons (pe_call d__law_plain.G (hr.mono (by decide)) (by rfl) d__law_plain.g d__law_plain.kp d__law_plain.b .nil pass0 (pa_cons (pv 0) (pa_cons pe_int (pa_cons (pv 1) pa_nil)))) pa_nil)) (pe_lst pa_nil)))
  (pss_cons (ps_if (pt_cmpR op_eq (pe_call d__law_draw.G (hr.mono (by decide)) (by rfl) d__law_draw.g d__law_draw.kp d__law_draw.b .nil pass0 (pa_cons (pv 0) (pa_cons pe_int pa_nil))) pe_int (nomark _))
    (pss_one (ps_expr (pe_bm PySem.F.plainAttrs_list PySem.F.slot_list_append PySem.F.type_list_append mt_append (pv 2) (pa_cons (pe_tup (pa_cons pe_str (pa_cons (pe_op op_add pe_int (pe_call d__law_draw.G (hr.mono (by decide)) (by rfl) d__law_draw.g d__law_draw.kp d__law_draw.b .nil pass0 (pa_cons (pv 0) (pa_cons pe_int pa_nil)))) (pa_cons (pe_call d__law_plain.G (hr.mono (by decide)) (by rfl) d__law_plain.g d__law_plain.kp d__law_plain.b .nil pass0 (pa_cons (pv 0) (pa_cons pe_int (pa_cons (pv 1) pa_nil)))) pa_nil)))) pa_nil))))
    pss_nil)
  (pss_cons (ps_if (pt_val (pv 1))
    (pss_one (ps_expr (pe_bm PySem.F.plainAttrs_list PySem.F.slot_list_insert PySem.F.type_list_insert mt_insert (pv 2) (pa_cons (pe_call d__law_draw.G (hr.mono (by decide)) (by rfl) d__law_draw.g d__law_draw.kp d__law_draw.b .nil pass0 (pa_cons (pv 0) (pa_cons (pe_op op_add (pe_callB call_len_seq (by rfl) N.len PySem.boot_len (pa_cons (pv 2) pa_nil)) pe_int) pa_nil))) (pa_cons (pe_tup (pa_cons (pe_call d__law_one.G (hr.mono (by decide)) (by rfl) d__law_one.g d__law_one.kp d__law_one.b .nil pass0 (pa_cons (pv 0) (pa_cons (pe_lst (pa_cons pe_str (pa_cons pe_str pa_nil))) pa_nil))) (pa_cons (pe_call d__law_plain.G (hr.mono (by decide)) (by rfl) d__law_plain.g d__law_plain.kp d__law_plain.b .nil pass0 (pa_cons (pv 0) (pa_cons pe_int (pa_cons pe_bl pa_nil)))) pa_nil))) pa_nil)))))
    pss_nil)
  (pss_one (ps_ret (pe_callTy call_tuple_of (by rfl) N.ttup (by decide +kernel) (pa_cons (pv 2) pa_nil))))))), ?_⟩
    have newK : ∀ {G : Hp} {D : Addr}, Keep a H G → G D = none → D ≠ a → H D = none := fun {G D} kp nD nDa => by
      cases e : H D with
      | none => rfl
      | some o =>
        rw [kp D o nDa e] at nD
        exact nomatch nD
    have updK : ∀ {G : Hp} {D : Addr} {o : HO}, Keep a H G → H D = none → Keep a H (upd G D o) := fun {G D o} kp nD b x nb e => by
      rw [upd_ne (ne_of_none e nD)]
      exact kp b x nb e
    refine ⟨_, rfl, a, 4, _, rfl, hw, by omega, by decide, by decide, fun r H1 r0 r1 b1 w1 => ⟨_, _, rfl, rfl, _, rfl, ite2 (fun c => ?pa) (fun c => ?pb)⟩⟩
    case' pa =>
      refine ⟨_, rfl, _, rfl, a, _, 3, wf, rfl, w1, by decide, by decide, by omega, fun x ds0 H2 k2 w2 e p => ?_⟩
      cases e with | @tup p0 xs _ ht hx => ?_
      refine ⟨_, _, rfl, .inr ht, fun D nD => ?_⟩
      have sD := same_upd (o := .lst xs) nD
      have nDa := well_new w2 nD
      have hb : Bag K (upd H2 D (.lst xs)) D ds0 := ⟨xs, upd_same, dpSA sD hx⟩
      have ti : TI wf 3 ds0 := TI.plain p
      have l6 : ds0.length ≤ 6 := p.n
      have w2 := (w2.same sD).mono (show n + 1 + 50 ≤ n + 51 by omega)
      have kk := (b1.keep.trans k2).trans (Keep.of sD)
      have nD0 := newK (b1.keep.trans k2) nD nDa
      clear ht hx k2 p sD nD w1 b1
      generalize upd H2 D (.lst xs) = G at hb w2 kk ⊢
    case' pb =>
      refine ⟨(by show 0 ≤ sizeLine; decide), fun D nD => ?_⟩
      have sD := same_upd (o := .lst []) nD
      have nDa := well_new w1 nD
      have hb : Bag K (upd H1 D (.lst [])) D [] := ⟨[], upd_same, .nil⟩
      have ti : TI wf 3 [] := TI.nil
      have l6 : ([] : List PyData).length ≤ 6 := by decide
      have w2 := (w1.same sD).mono (show n + 1 ≤ n + 51 by omega)
      have kk := b1.keep.trans (Keep.of sD)
      have nD0 := newK b1.keep nD nDa
      clear sD nD w1 b1
      generalize ([] : List PyData) = ds0 at hb ti l6
      generalize upd H1 D (.lst []) = G at hb w2 kk ⊢
    all_goals
      refine ⟨_, rfl, a, 3, _, rfl, w2, by omega, by decide, by decide, fun q H3 q0 q1 b3 w3 => ⟨rfl, _, rfl, ite2 (fun c2 => ?_) (fun c2 => ?_)⟩⟩
      focus
        have hb := hb.keep b3.keep w2.lst.choose_spec nDa ti.sm
        obtain ⟨xs1, hD1, _⟩ := id hb
        refine ⟨_, rfl, .inl ⟨rfl, _, SqL.of hD1⟩, _, rfl, a, 3, _, rfl, w3, by omega, by decide, by decide, fun u H4 u0 u1 b4 w4 => ⟨_, _, rfl, rfl, ?_⟩⟩
        refine ⟨_, rfl, _, rfl, a, _, 2, wf, rfl, w4, by decide, by decide, by omega, fun x es H5 k5 w5 e p => ⟨(by show 3 ≤ sizeLine; decide), fun g ng => ?_⟩⟩
        have sg := same_upd (o := .tup [.str "repeat", .int (1 + u), x]) ng
        have tg := tupNew (K := K) (xs := [.str "repeat", .int (1 + u), x]) (ds := [.str "repeat", .int (1 + u), .tuple es]) ng (.cons (.str _) (.cons (.int _) (.cons (dpS sg e) .nil)))
        have hb := ((hb.keep b4.keep w3.lst.choose_spec nDa ti.sm).keep k5 w4.lst.choose_spec nDa ti.sm).same sg
        obtain ⟨xs2, hD2, hx2⟩ := id hb
        have lx2 := dpLen hx2
        have tj := ti.rep l6 p (r := 1 + u) (by omega) (by omega)
        refine ⟨D, xs2, _, rfl, rfl, hD2, by rw [lx2]; exact Nat.lt_of_lt_of_le (m := 1000) (by omega) (by decide), ?_⟩
        have hb := Bag.push hD2 hx2 ti.sm tg (smN_le (rep_all p (r := 1 + u) (by omega) (by omega)).2.2.1 (by decide))
        have w3 := ((w5.same sg).updNe (o := .lst (xs2 ++ [.ref g])) nDa).mono (show n + 51 + 1 + 1 + 50 ≤ n + 103 by omega)
        have kk := updK (o := .lst (xs2 ++ [.ref g])) ((((kk.trans b3.keep).trans b4.keep).trans k5).trans (Keep.of sg)) nD0
        clear ti hx2 hD1 hD2 tg e
        generalize ds0 ++ [PyData.tuple [.str "repeat", .int (1 + u), .tuple es]] = ds1 at hb tj
        generalize upd (upd H5 g (.tup [.str "repeat", .int (1 + u), x])) D (.lst (xs2 ++ [.ref g])) = G3 at hb w3 kk ⊢
      rotate_left
      focus
        have hb := hb.keep b3.keep w2.lst.choose_spec nDa ti.sm
        have tj := ti.le (show 3 ≤ 9 by decide)
        have kk := kk.trans b3.keep
        have w3 := w3.mono (show n + 51 + 1 ≤ n + 103 by omega)
        clear ti l6
        generalize ds0 = ds1 at hb tj
        generalize H3 = G3 at hb w3 kk ⊢
      all_goals
        refine ⟨_, rfl, wf, rfl, ?_⟩
        cases wf with
        | false =>
          refine iteF ?_
          obtain ⟨xs, hD, hx⟩ := hb
          refine ⟨_, rfl, D, xs, rfl, .inl ⟨SqL.of hD, fun l nl => ?_⟩⟩
          have sl := same_upd (o := .tup xs) nl
          exact k _ _ _ (kk.trans (Keep.of sl)) ((w3.mono (by omega)).same sl) (.tup (SqT.of upd_same) (dpSA sl hx)) (tp_plain tj)
        | true =>
          refine iteT ?_
          have l7 := tj.n
          obtain ⟨xs, hD, hx⟩ := id hb
          have lx := dpLen hx
          refine ⟨_, rfl, .inl ⟨rfl, _, SqL.of hD⟩, _, rfl, _, rfl, D, _, rfl, .inl (SqL.of hD), _, _, rfl, rfl, a, _, _, rfl, w3, by omega, by omega, by omega, fun ix H4 i0 i1 b4 w4 => ?_⟩
          have hb := hb.keep b4.keep w3.lst.choose_spec nDa tj.sm
          refine ⟨_, rfl, (by show 2 ≤ sizeLine; decide), fun f nf => ?_⟩
          have sf := same_upd (o := .lst [.str "fill", .str "fit"]) nf
          have hf := well_new w4 nf
          refine ⟨a, f, _, [.str "fill", .str "fit"], rfl, w4.same sf, by omega, Ne.symm hf, upd_same, by decide, by decide, fun z H5 hz b5 w5 => ?_⟩
          have hzz : ∃ zs : Str, z = .str zs ∧ (zs = "fill" ∨ zs = "fit") := by
            simp only [List.mem_cons, List.not_mem_nil, or_false] at hz
            rcases hz with rfl | rfl
            · exact ⟨_, rfl, .inl rfl⟩
            · exact ⟨_, rfl, .inr rfl⟩
          obtain ⟨zs, rfl, hzs⟩ := hzz
          have hb := (hb.same sf).keep b5.keep (w4.same sf).lst.choose_spec nDa tj.sm
          refine ⟨_, rfl, a, _, 2, true, rfl, w5, by decide, by decide, by omega, fun x es H6 k6 w6 e p => ⟨(by show 2 ≤ sizeLine; decide), fun g ng => ?_⟩⟩
          have sg := same_upd (o := .tup [.str zs, x]) ng
          have tg := tupNew (K := K) (xs := [.str zs, x]) (ds := [.str zs, .tuple es]) ng (.cons (.str _) (.cons (dpS sg e) .nil))
          have hb := (hb.keep k6 w5.lst.choose_spec nDa tj.sm).same sg
          obtain ⟨xs2, hD2, hx2⟩ := hb
          have lx2 := dpLen hx2
          refine ⟨D, xs2, ix, _, rfl, rfl, hD2, by rw [lx2]; exact Nat.lt_of_le_of_lt l7 (by decide), i0, by omega, ?_⟩
          have zF := (fill_all hzs p).2.2.1
          have kf := updK (o := .lst (xs2.take ix.toNat ++ [.ref g] ++ xs2.drop ix.toNat)) (((((kk.trans b4.keep).trans (Keep.of sf)).trans b5.keep).trans k6).trans (Keep.of sg)) nD0
          have wf := ((w6.same sg).updNe (o := .lst (xs2.take ix.toNat ++ [.ref g] ++ xs2.drop ix.toNat)) nDa).mono (show n + 103 + 1 + 1 + 50 ≤ n + 200 by omega)
          have hall := dpKall (fun d v => dpK (a := D) (Keep.upd (o := .lst (xs2.take ix.toNat ++ [.ref g] ++ xs2.drop ix.toNat)) (Keep.of (Same.refl _))) hD2 20 d v) ds1 xs2 tj.sm hx2
          have hg := dpU (o := .lst (xs2.take ix.toNat ++ [.ref g] ++ xs2.drop ix.toNat)) hD2 zF tg
          refine ⟨_, rfl, D, _, rfl, .inl ⟨SqL.of upd_same, fun l nl => ?_⟩⟩
          have sl := same_upd (o := .tup (xs2.take ix.toNat ++ [.ref g] ++ xs2.drop ix.toNat)) nl
          refine k _ (.tuple (ds1.take ix.toNat ++ [.tuple [.str zs, .tuple es]] ++ ds1.drop ix.toNat)) _ (kf.trans (Keep.of sl)) (wf.same sl) (.tup (SqT.of upd_same) (dpSA sl (dpSnoc (dpSnoc (dpTake _ hall) (.cons hg .nil)) (dpDrop _ hall)))) (tp_fill ?_ hzs p)
          rw [List.take_append_drop]
          exact tj
end
end K5

set_option Elab.async false
set_option linter.all false
set_option maxRecDepth 100000
set_option maxHeartbeats 4000000
namespace K5
open PySem PySem.Spec PyProof.Rows L2
open K1 (FnP top Nm wm)
/-! ### fields drawn -/
def bitOf (left top at_ spot : Int) : Bool := decide (top ≤ at_) && decide (left ≤ spot)
def rowOf (wide : Nat) (left top : Int) (i : Nat) : List Bool := (List.range wide).map fun (j : Nat) => bitOf left top (i : Int) (j : Int)
def rowsOf (wide tall : Nat) (left top : Int) : List (List Bool) := (List.range tall).map fun (i : Nat) => rowOf wide left top i
def flB (n : Nat) (rows : List (List Bool)) : Bool := nameB "main" && (decide (rows.length ≤ 20) && (rows.all (fun bs => decide (bs.length = n)) && ((decide (allCs rows rows.length = []) || rectB (allCs rows rows.length)) && smN 3 (fldD "main" rows))))
theorem flB_ok {n : Nat} {rows : List (List Bool)} (n1 : 1 ≤ n) (n20 : n ≤ 20) (h : flB n rows = true) : okFld "main" rows ∧ smN 3 (fldD "main" rows) = true := by
  obtain ⟨h1, h⟩ := ba h
  obtain ⟨h2, h⟩ := ba h
  obtain ⟨h3, h⟩ := ba h
  obtain ⟨h4, h5⟩ := ba h
  have h3 : ∀ bs ∈ rows, bs.length = n := fun bs hb => of_decide_eq_true (List.all_eq_true.mp h3 bs hb)
  refine ⟨⟨h1, ⟨by decide, of_decide_eq_true h2, fun bs hb => by rw [h3 bs hb]; exact n20⟩, ⟨n, n1, h3⟩, ?_⟩, h5⟩
  rcases Bool.or_eq_true_iff.mp h4 with q | q
  · exact .inl (of_decide_eq_true q)
  · exact .inr q
theorem rows_all {wide tall left top : Int} (h1 : 0 ≤ wide) (h2 : wide < 4) (h3 : 0 ≤ tall) (h4 : tall < 4) (h5 : 0 ≤ left) (h6 : left < 1 + wide) (h7 : 0 ≤ top) (h8 : top < tall + 1) : flB (1 + wide).toNat (rowsOf (1 + wide).toNat tall.toNat left top) = true := by
  obtain ⟨w, rfl⟩ := Int.eq_ofNat_of_zero_le h1
  obtain ⟨t, rfl⟩ := Int.eq_ofNat_of_zero_le h3
  obtain ⟨l, rfl⟩ := Int.eq_ofNat_of_zero_le h5
  obtain ⟨p, rfl⟩ := Int.eq_ofNat_of_zero_le h7
  have all : ∀ (w t l : Fin 4) (p : Fin 5), flB (1 + (w.val : Int)).toNat (rowsOf (1 + (w.val : Int)).toNat ((t.val : Int)).toNat (l.val : Int) (p.val : Int)) = true := by decide +kernel
  exact all ⟨w, by omega⟩ ⟨t, by omega⟩ ⟨l, by omega⟩ ⟨p, by omega⟩
theorem dpStrs {K : PySem.W.Frag} {H : Hp} : ∀ l : List Str, DpAll K H (l.map V.str) (l.map PyData.str)
  | [] => .nil
  | z :: l => .cons (.str z) (dpStrs l)
theorem row_sm {bs : List Bool} (h : bs.length ≤ 100) : smN 20 (rowD "main" bs) = true := sm_mk (n := 19) (by rw [List.length_map]; exact h) fun e he => by
  obtain ⟨b, _, rfl⟩ := List.mem_map.mp he
  cases b <;> decide +kernel
def cellsOf (left top : Int) (i k : Nat) : List Str := (List.range k).map fun (j : Nat) => cellZ "main" (bitOf left top (i : Int) (j : Int))
theorem cells_row {wide : Nat} {left top : Int} {i : Nat} : rowD "main" (rowOf wide left top i) = .tuple ((cellsOf left top i wide).map PyData.str) := by
  unfold rowD rowOf cellsOf
  rw [List.map_map, List.map_map]
  rfl
section
variable {P : Program} {w : World} {K : PySem.W.Frag} {mg : Str → Option Value} {base : Heap}
def spFl (K : PySem.W.Frag) : Sp := fun vs H Q _ => ∃ (a : Addr) (n : Int), vs = [.ref a] ∧ Well H a n ∧ n + 4 ≤ 1000000 ∧ ∀ x rows H', Keep a H H' → Well H' a (n + 4) → Dp K H' x (fldD "main" rows) → okFld "main" rows → smN 3 (fldD "main" rows) = true → Q x H'
theorem scFl : FnScope ["well", "wide", "tall", "left", "top", "rows_so", "at", "spot"] ["well"] (defScope (top 80)) := ⟨rfl, rfl, rfl, by decide +kernel, rfl, by decide +kernel, by decide +kernel⟩
theorem ok_fl {f f1 : Addr} {fd d1 : FuncData} (F : FnP K "_law_fields" (top 80) f fd) (N : Nm mg) (d__law_draw : D2 P w K mg base "_law_draw" "well" "many" 1 spDraw f1 d1) : FnOk P w K mg base CX0 2 f fd ["well"] (spFl K) := by
  refine F.ok scFl (fun vs H Q E h => ?_) (fun cdv A outer s H vs Q E hr h => ?_)
  · obtain ⟨a, n, rfl, _⟩ := h
    rfl
  · obtain ⟨a, n, rfl, hw, hn, k⟩ := h
    refine ⟨_, PSs.nox (pss_cons (ps_par (i := 1) (j := 2) rfl scFl.nd rfl rfl (by decide) (by rfl) (by rfl) (pa_cons (pe_op op_add pe_int (pe_call d__law_draw.G (hr.mono (by decide)) (by rfl) d__law_draw.g d__law_draw.kp d__law_draw.b .nil pass0 (pa_cons (pv 0) (pa_cons pe_int pa_nil)))) (pa_cons (pe_call d__law_draw.G (hr.mono (by decide)) (by rfl) d__law_draw.g d__law_draw.kp d__law_draw.b .nil pass0 (pa_cons (pv 0) (pa_cons pe_int pa_nil))) pa_nil)) (by rfl))
  (pss_cons (ps_asg (pe_tup (pa_cons (pe_call d__law_draw.G (hr.mono (by decide)) (by rfl) d__law_draw.g d__law_draw.kp d__law_draw.b .nil pass0 (pa_cons (pv 0) (pa_cons (pv 1) pa_nil))) (pa_cons (pe_call d__law_draw.G (hr.mono (by decide)) (by rfl) d__law_draw.g d__law_draw.kp d__law_draw.b .nil pass0 (pa_cons (pv 0) (pa_cons (pe_op op_add (pv 2) pe_int) pa_nil))) pa_nil))) (pg_tup rfl (pgs_cons (pg_name (i := 3) scFl.nd rfl (Or.inr rfl)) (pgs_cons (pg_name (i := 4) scFl.nd rfl (Or.inr rfl)) pgs_nil))))
  (pss_cons (ps_set (i := 5) scFl.nd rfl (Or.inl rfl) (pe_lst pa_nil))
  (pss_cons (ps_for PassesOwn.never rfl (pi_range1 rfl N.rng (pa_cons (pv 2) pa_nil))
    (pg_name (i := 6) scFl.nd rfl (Or.inr rfl))
    (pss_one (ps_expr (pe_bm PySem.F.plainAttrs_list PySem.F.slot_list_append PySem.F.type_list_append mt_append (pv 5) (pa_cons (pe_callTy call_tuple_of (by rfl) N.ttup (by decide +kernel) (pa_cons (pe_lc (own := [("spot", 7)]) (g := gName 7) (tt := tYes) rfl scFl.nd (pi_range1 rfl N.rng (pa_cons (pv 1) pa_nil)) (blkOk_by (own := [("spot", 7)]) (N := ["well", "wide", "tall", "left", "top", "rows_so", "at", "spot"]) (sc := defScope (top 80)) (by decide +kernel)) (fun _ _ _ _ _ => (pg_name (i := 7) scFl.nd rfl (Or.inl rfl))) (fun _ _ _ _ _ => pts_nil) (fun _ _ _ _ _ => (pe_ifExp (PW.pt (pw_and (pt_cmpR op_ge (pv 6) (pv 4) (nomark _)) (pw_and1 (pt_cmpR op_ge (pv 7) (pv 3) (nomark _))))) pe_str pe_str))) pa_nil)) pa_nil)))))
  (pss_one (ps_ret (pe_callTy call_tuple_of (by rfl) N.ttup (by decide +kernel) (pa_cons (pv 5) pa_nil)))))))), ?_⟩
    refine ⟨_, rfl, a, 4, n, rfl, hw, by omega, by decide, by decide, fun r1 H1 r10 r11 b1 w1 => ⟨_, _, rfl, rfl, ?_⟩⟩
    refine ⟨_, rfl, a, 4, _, rfl, w1, by omega, by decide, by decide, fun r2 H2 r20 r21 b2 w2 => ⟨_, _, rfl, ?_⟩⟩
    refine ⟨_, rfl, _, rfl, a, _, _, rfl, w2, by omega, by omega, by omega, fun r3 H3 r30 r31 b3 w3 => ?_⟩
    refine ⟨_, rfl, _, rfl, _, _, rfl, rfl, a, _, _, rfl, w3, by omega, by omega, by omega, fun r4 H4 r40 r41 b4 w4 => ?_⟩
    refine ⟨(by show 2 ≤ sizeLine; decide), fun t nt => ⟨t, _, rfl, SqT.of upd_same, rfl, _, _, rfl, _, _, rfl, rfl, ?_⟩⟩
    have st := same_upd (o := .tup [.int r3, .int r4]) nt
    have k4 : Keep a H _ := (((b1.keep.trans b2.keep).trans b3.keep).trans b4.keep).trans (Keep.of st)
    have w5 := (w4.same st).mono (show n + 1 + 1 + 1 + 1 ≤ n + 4 by omega)
    clear w1 w2 w3 w4 b1 b2 b3 b4 hw
    generalize upd H4 t (.tup [.int r3, .int r4]) = G at k4 w5 ⊢
    have newK : ∀ {G : Hp} {D : Addr}, Keep a H G → G D = none → D ≠ a → H D = none := fun {G D} kp nD nDa => by
      cases e : H D with
      | none => rfl
      | some o =>
        rw [kp D o nDa e] at nD
        exact nomatch nD
    have hW : ((1 + r1).toNat : Int) = 1 + r1 := by omega
    refine ⟨(by show 0 ≤ sizeLine; decide), fun D nD => ?_⟩
    have nDa := well_new w5 nD
    have nD0 := newK k4 nD nDa
    have sD := same_upd (o := .lst []) nD
    refine ⟨_, rfl, r2, rfl, by omega, by omega, for_range (n := r2.toNat) (fun i σ H' => Keep a H H' ∧ Well H' a (n + 4) ∧ Bag K H' D ((List.range i).map fun (i : Nat) => rowD "main" (rowOf (1 + r1).toNat r3 r4 i)) ∧ ∃ v6 v7, σ = [some (.ref a), some (.int (1 + r1)), some (.int r2), some (.int r3), some (.int r4), some (.ref D), v6, v7])
      ⟨k4.trans (Keep.of sD), w5.same sD, ⟨[], upd_same, .nil⟩, _, _, rfl⟩ ?_ ?_⟩
    · rintro i σ H5 hi ⟨k5, w5, hb, v6, v7, rfl⟩
      obtain ⟨xs, hD, hx⟩ := hb
      have lx : xs.length = i := by rw [dpLen hx, List.length_map, List.length_range]
      refine ⟨_, rfl, .inl ⟨rfl, _, SqL.of hD⟩, ?_⟩
      refine ⟨_, rfl, 1 + r1, rfl, by omega, by omega, fun L nL => ?_⟩
      have nLD : D ≠ L := ne_of_none hD nL
      refine lc_range (lo := 0) (n := (1 + r1).toNat) (fun j H' => Same H5 H' ∧ H' L = some (.lst ((cellsOf r3 r4 i j).map V.str))) ⟨same_upd nL, upd_same⟩ ?_ ?_
      · rintro j H6 hj ⟨s6, hL⟩
        have push : ∀ z : Str, z = cellZ "main" (bitOf r3 r4 (i : Int) (j : Int)) → ∃ acc, H6 L = some (.lst acc) ∧ acc.length < sizeLine ∧ Same H5 (upd H6 L (.lst (acc ++ [.str z]))) ∧ upd H6 L (.lst (acc ++ [.str z])) L = some (.lst ((cellsOf r3 r4 i (j + 1)).map V.str)) := fun z hz => by
          refine ⟨_, hL, ?_, same_upd' nL s6, ?_⟩
          · unfold cellsOf
            rw [List.length_map, List.length_map, List.length_range]
            exact Nat.lt_of_lt_of_le (m := 1000) (by omega) (by decide)
          · unfold cellsOf
            rw [upd_same, List.range_succ, List.map_append, List.map_append, hz]
            rfl
        refine ⟨rfl, iteT (B := Same H5 H6 ∧ H6 L = some (.lst ((cellsOf r3 r4 i (j + 1)).map V.str))) ?_⟩
        refine ⟨_, rfl, _, rfl, _, _, rfl, rfl, _, rfl, ite2 (fun c1 => ?_) (fun c1 => ?_)⟩
        · have c1 : r4 ≤ 0 + (i : Int) := of_decide_eq_true c1
          refine ⟨_, rfl, _, rfl, _, _, rfl, rfl, _, rfl, ite2 (fun c2 => ?_) (fun c2 => ?_)⟩
          · have c2 : r3 ≤ 0 + (j : Int) := of_decide_eq_true c2
            exact push _ (by unfold bitOf; rw [decide_eq_true (by omega : r4 ≤ (i : Int)), decide_eq_true (by omega : r3 ≤ (j : Int))]; rfl)
          · have c2 : ¬ r3 ≤ 0 + (j : Int) := fun z => c2 (decide_eq_true z)
            exact push _ (by unfold bitOf; rw [decide_eq_false (by omega : ¬ r3 ≤ (j : Int)), Bool.and_false]; rfl)
        · have c1 : ¬ r4 ≤ 0 + (i : Int) := fun z => c1 (decide_eq_true z)
          exact push _ (by unfold bitOf; rw [decide_eq_false (by omega : ¬ r4 ≤ (i : Int)), Bool.false_and]; rfl)
      rintro H6 ⟨s6, hL⟩
      refine ⟨L, _, rfl, .inl ⟨SqL.of hL, fun q nq => ?_⟩⟩
      have sq := same_upd (o := .tup ((cellsOf r3 r4 i (1 + r1).toNat).map V.str)) nq
      have s7 := s6.trans sq
      have tq := tupNew (K := K) (ds := (cellsOf r3 r4 i (1 + r1).toNat).map PyData.str) nq (dpStrs _)
      rw [← cells_row] at tq
      have ss : AllSm ((List.range i).map fun (i : Nat) => rowD "main" (rowOf (1 + r1).toNat r3 r4 i)) := fun d hd => by
        obtain ⟨x, _, rfl⟩ := List.mem_map.mp hd
        exact row_sm (by unfold rowOf; rw [List.length_map, List.length_range]; omega)
      refine ⟨D, xs, _, rfl, rfl, s7 _ _ hD, by rw [lx]; exact Nat.lt_of_lt_of_le (m := 1000) (by omega) (by decide), ?_⟩
      have hp := Bag.push (s7 _ _ hD) (dpSA s7 hx) ss tq (row_sm (by unfold rowOf; rw [List.length_map, List.length_range]; omega))
      refine ⟨fun b x nb e => ?_, ((w5.same s7).updNe nDa), ?_, _, _, rfl⟩
      · rw [upd_ne (ne_of_none e nD0)]
        exact s7 _ _ (k5 b x nb e)
      · rw [List.range_succ, List.map_append]
        exact hp
    · rintro σ H5 ⟨k5, w5, ⟨xs, hD, hx⟩, v6, v7, rfl⟩
      refine ⟨_, rfl, D, xs, rfl, .inl ⟨SqL.of hD, fun q nq => ?_⟩⟩
      have sq := same_upd (o := .tup xs) nq
      obtain ⟨o1, o2⟩ := flB_ok (by omega) (by omega) (rows_all (wide := r1) (tall := r2) (left := r3) (top := r4) r10 r11 r20 r21 r30 r31 r40 r41)
      refine k _ (rowsOf (1 + r1).toNat r2.toNat r3 r4) _ (k5.trans (Keep.of sq)) (w5.same sq) ?_ o1 o2
      have e : fldD "main" (rowsOf (1 + r1).toNat r2.toNat r3 r4) = .tuple ((List.range r2.toNat).map fun (i : Nat) => rowD "main" (rowOf (1 + r1).toNat r3 r4 i)) := by
        unfold fldD rowsOf
        rw [List.map_map]
        rfl
      rw [e]
      exact .tup (SqT.of upd_same) (dpSA sq hx)
end
end K5

set_option Elab.async false
set_option linter.all false
set_option maxRecDepth 100000
set_option maxHeartbeats 8000000
namespace K5
open PySem PySem.Spec PyProof.Rows L2
open K1 (FnP top Nm wm)
/-! ### values drawn -/
def TpQ (d : PyData) : Prop := (isInh d || areEnt d) = true ∧ smN 9 d = true
theorem TpP.q {d : PyData} (h : TpP d) : TpQ d := ⟨by rw [h.1, Bool.or_true], h.2⟩
theorem inh_q {ds : List PyData} (h : ∀ d ∈ ds, nmsB d = true) (l : ds.length ≤ 4) : TpQ (.tuple [.str "inherited", .tuple ds]) := by
  have h1 : ds.all areNames = true := List.all_eq_true.mpr fun e he => (ba (h e he)).1
  have hi : isInh (.tuple [.str "inherited", .tuple ds]) = true := by
    show ((decide ((2 : Int) = 2) && isWord (.str "inherited") ["inherited"]) && (isTy (.tuple ds) "tuple" && (decide (ds.length ≤ 40) && ds.all areNames))) = true
    rw [h1, decide_eq_true (by omega : ds.length ≤ 40), show isTy (.tuple ds) "tuple" = true by simp only [isTy, tyN]; decide]
    decide
  refine ⟨by rw [hi, Bool.true_or], smN_le (m := 4) (sm2 (n := 3) (by decide +kernel) (sm_mk (by omega) fun e he => (ba (h e he)).2)) (by decide)⟩
def moreB (ds : List PyData) : Prop := okMore ds ∧ smN 4 (.tuple ds) = true
theorem more_mk {ds : List PyData} (h : ∀ d ∈ ds, sizB d = true) (l1 : 1 ≤ ds.length) (l2 : ds.length ≤ 8) : moreB ds :=
  ⟨⟨l1, l2, fun e he => ⟨sm_okB (ba (h e he)).2, (ba (h e he)).1⟩⟩, sm_mk (by omega) fun e he => (ba (h e he)).2⟩
theorem word_in {L ws : List Str} (h : (L.all fun s => isWord (.str s) ws && smN 1 (.str s)) = true) {x : V} (hx : x ∈ L.map V.str) : ∃ s, x = .str s ∧ isWord (.str s) ws = true ∧ smN 1 (.str s) = true := by
  obtain ⟨s, hs, rfl⟩ := List.mem_map.mp hx
  obtain ⟨h1, h2⟩ := ba (List.all_eq_true.mp h s hs)
  exact ⟨s, rfl, h1, h2⟩
theorem allSm_two {ds : List PyData} {s t : Str} (h : AllSm ds) (h1 : smN 1 (.str s) = true) (h2 : smN 1 (.str t) = true) : AllSm (ds ++ [.str s, .str t]) := fun d hd => by
  rcases List.mem_append.mp hd with hd | hd
  · exact h d hd
  · simp only [List.mem_cons, List.not_mem_nil, or_false] at hd
    rcases hd with rfl | rfl
    · exact smN_le h1 (by decide)
    · exact smN_le h2 (by decide)
def lanesS : List Str := ["start", "end", "center", "stretch", "between", "around", "evenly"]
section
variable {P : Program} {w : World} {K : PySem.W.Frag} {mg : Str → Option Value} {base : Heap}
def spVl (K : PySem.W.Frag) : Sp := fun vs H Q _ => ∃ (a : Addr) (n : Int), vs = [.ref a] ∧ Well H a n ∧ n + 1000 ≤ 1000000 ∧ ∀ p xs g H', Keep a H H' → Well H' a (n + 1000) → H p = none → p ≠ a → H' p = some (.lst xs) → DpAll K H' xs g.ds → OkGr g → AllSm g.ds → Q (.ref p) H'
theorem scVl : FnScope ["well", "lanes", "some", "turn", "k"] ["well"] (defScope (top 81)) := ⟨rfl, rfl, rfl, by decide +kernel, rfl, by decide +kernel, by decide +kernel⟩
theorem ok_vl {f f1 f2 f3 f4 f5 f6 f7 : Addr} {fd d1 d2 d3 d4 d5 d6 d7 : FuncData} (F : FnP K "_law_values" (top 81) f fd) (N : Nm mg) (d__law_draw : D2 P w K mg base "_law_draw" "well" "many" 1 spDraw f1 d1) (d__law_one : D2 P w K mg base "_law_one" "well" "some" 2 (spOne K) f2 d2)
    (d__law_template : D2 P w K mg base "_law_template" "well" "with_fill" 5 (spTp K) f3 d3) (d__law_fields : D1 P w K mg base "_law_fields" "well" 2 (spFl K) f4 d4) (d__law_names : D1 P w K mg base "_law_names" "well" 3 (spDat K 3 fun d => nmsB d = true) f5 d5)
    (d__law_size : D1 P w K mg base "_law_size" "well" 3 (spDat K 10 fun d => sizB d = true) f6 d6) (d__law_fixed : D1 P w K mg base "_law_fixed" "well" 2 (spDat K 2 fun d => fixB d = true) f7 d7) : FnOk P w K mg base CX0 6 f fd ["well"] (spVl K) := by
  refine F.ok scVl (fun vs H Q E h => ?_) (fun cdv A outer s H vs Q E hr h => ?_)
  · obtain ⟨a, n, rfl, _⟩ := h
    rfl
  · obtain ⟨a, n, rfl, hw, hn, k⟩ := h
    refine ⟨_, PSs.nox (pss_cons (ps_set (i := 1) scVl.nd rfl (Or.inl rfl) (pe_lst (pa_cons pe_str (pa_cons pe_str (pa_cons pe_str (pa_cons pe_str (pa_cons pe_str (pa_cons pe_str (pa_cons pe_str pa_nil)))))))))
  (pss_cons (ps_set (i := 2) scVl.nd rfl (Or.inl rfl) (pe_lst (pa_cons (pe_call d__law_template.G (hr.mono (by decide)) (by rfl) d__law_template.g d__law_template.kp d__law_template.b .nil pass0 (pa_cons (pv 0) (pa_cons (pe_cmpR op_eq (pe_call d__law_draw.G (hr.mono (by decide)) (by rfl) d__law_draw.g d__law_draw.kp d__law_draw.b .nil pass0 (pa_cons (pv 0) (pa_cons pe_int pa_nil))) pe_int (nomark _)) pa_nil))) (pa_cons (pe_call d__law_template.G (hr.mono (by decide)) (by rfl) d__law_template.g d__law_template.kp d__law_template.b .nil pass0 (pa_cons (pv 0) (pa_cons (pe_cmpR op_eq (pe_call d__law_draw.G (hr.mono (by decide)) (by rfl) d__law_draw.g d__law_draw.kp d__law_draw.b .nil pass0 (pa_cons (pv 0) (pa_cons pe_int pa_nil))) pe_int (nomark _)) pa_nil))) pa_nil))))
  (pss_cons (ps_expr (pe_bm PySem.F.plainAttrs_list PySem.F.slot_list_append PySem.F.type_list_append mt_append (pv 2) (pa_cons (pe_call d__law_fields.G (hr.mono (by decide)) (by rfl) d__law_fields.g d__law_fields.kp d__law_fields.b .nil pass0 (pa_cons (pv 0) pa_nil)) pa_nil)))
  (pss_cons (ps_if (pt_cmpR op_eq (pe_call d__law_draw.G (hr.mono (by decide)) (by rfl) d__law_draw.g d__law_draw.kp d__law_draw.b .nil pass0 (pa_cons (pv 0) (pa_cons pe_int pa_nil))) pe_int (nomark _))
    (pss_one (ps_asg (pe_tup (pa_cons pe_str (pa_cons (pe_callTy call_tuple_of (by rfl) N.ttup (by decide +kernel) (pa_cons (pe_lc (own := [("turn", 3)]) (g := gName 3) (tt := tYes) rfl scVl.nd (pi_range1 rfl N.rng (pa_cons (pe_call d__law_draw.G (hr.mono (by decide)) (by rfl) d__law_draw.g d__law_draw.kp d__law_draw.b .nil pass0 (pa_cons (pv 0) (pa_cons pe_int pa_nil))) pa_nil)) (blkOk_by (own := [("turn", 3)]) (N := ["well", "lanes", "some", "turn", "k"]) (sc := defScope (top 81)) (by decide +kernel)) (fun _ _ _ _ _ => (pg_name (i := 3) scVl.nd rfl (Or.inl rfl))) (fun _ _ _ _ _ => pts_nil) (fun _ _ _ _ _ => (pe_call d__law_names.G (hr.mono (by decide)) (by rfl) d__law_names.g d__law_names.kp d__law_names.b .nil pass0 (pa_cons (pv 0) pa_nil)))) pa_nil)) pa_nil))) (pg_sub (pv 2) (pe_call d__law_draw.G (hr.mono (by decide)) (by rfl) d__law_draw.g d__law_draw.kp d__law_draw.b .nil pass0 (pa_cons (pv 0) (pa_cons pe_int pa_nil))) set_list)))
    pss_nil)
  (pss_cons (ps_for PassesOwn.never rfl (pi_range1 rfl N.rng (pa_cons pe_int pa_nil))
    (pg_name (i := 3) scVl.nd rfl (Or.inl rfl))
    (pss_one (ps_expr (pe_bm PySem.F.plainAttrs_list PySem.F.slot_list_append PySem.F.type_list_append mt_append (pv 2) (pa_cons (pe_callTy call_tuple_of (by rfl) N.ttup (by decide +kernel) (pa_cons (pe_lc (own := [("k", 4)]) (g := gName 4) (tt := tYes) rfl scVl.nd (pi_range1 rfl N.rng (pa_cons (pe_op op_add pe_int (pe_call d__law_draw.G (hr.mono (by decide)) (by rfl) d__law_draw.g d__law_draw.kp d__law_draw.b .nil pass0 (pa_cons (pv 0) (pa_cons pe_int pa_nil)))) pa_nil)) (blkOk_by (own := [("k", 4)]) (N := ["well", "lanes", "some", "turn", "k"]) (sc := defScope (top 81)) (by decide +kernel)) (fun _ _ _ _ _ => (pg_name (i := 4) scVl.nd rfl (Or.inl rfl))) (fun _ _ _ _ _ => pts_nil) (fun _ _ _ _ _ => (pe_call d__law_size.G (hr.mono (by decide)) (by rfl) d__law_size.g d__law_size.kp d__law_size.b .nil pass0 (pa_cons (pv 0) pa_nil)))) pa_nil)) pa_nil)))))
  (pss_cons (ps_set (i := 2) scVl.nd rfl (Or.inl rfl) (pe_op op_catS (pv 2) (pe_lst (pa_cons (pe_call d__law_one.G (hr.mono (by decide)) (by rfl) d__law_one.g d__law_one.kp d__law_one.b .nil pass0 (pa_cons (pv 0) (pa_cons (pe_lst (pa_cons pe_str (pa_cons pe_str pa_nil))) pa_nil))) (pa_cons (pe_cmpR op_eq (pe_call d__law_draw.G (hr.mono (by decide)) (by rfl) d__law_draw.g d__law_draw.kp d__law_draw.b .nil pass0 (pa_cons (pv 0) (pa_cons pe_int pa_nil))) pe_int (nomark _)) (pa_cons (pe_call d__law_fixed.G (hr.mono (by decide)) (by rfl) d__law_fixed.g d__law_fixed.kp d__law_fixed.b .nil pass0 (pa_cons (pv 0) pa_nil)) (pa_cons (pe_call d__law_fixed.G (hr.mono (by decide)) (by rfl) d__law_fixed.g d__law_fixed.kp d__law_fixed.b .nil pass0 (pa_cons (pv 0) pa_nil)) pa_nil)))))))
  (pss_cons (ps_set (i := 2) scVl.nd rfl (Or.inl rfl) (pe_op op_catS (pv 2) (pe_lst (pa_cons (pe_call d__law_one.G (hr.mono (by decide)) (by rfl) d__law_one.g d__law_one.kp d__law_one.b .nil pass0 (pa_cons (pv 0) (pa_cons (pv 1) pa_nil))) (pa_cons (pe_call d__law_one.G (hr.mono (by decide)) (by rfl) d__law_one.g d__law_one.kp d__law_one.b .nil pass0 (pa_cons (pv 0) (pa_cons (pv 1) pa_nil))) pa_nil)))))
  (pss_one (ps_ret (pe_op op_catS (pv 2) (pe_lst (pa_cons (pe_call d__law_one.G (hr.mono (by decide)) (by rfl) d__law_one.g d__law_one.kp d__law_one.b .nil pass0 (pa_cons (pv 0) (pa_cons (pe_lst (pa_cons pe_str (pa_cons pe_str (pa_cons pe_str (pa_cons pe_str pa_nil))))) pa_nil))) (pa_cons (pe_call d__law_one.G (hr.mono (by decide)) (by rfl) d__law_one.g d__law_one.kp d__law_one.b .nil pass0 (pa_cons (pv 0) (pa_cons (pe_op op_catS (pe_slice sl_list (pv 1) po_none (po_some pe_int)) (pe_lst (pa_cons pe_str pa_nil))) pa_nil))) pa_nil))))))))))))), ?_⟩
    have newK : ∀ {G : Hp} {D : Addr}, Keep a H G → G D = none → D ≠ a → H D = none := fun {G D} kp nD nDa => by
      cases e : H D with
      | none => rfl
      | some o =>
        rw [kp D o nDa e] at nD
        exact nomatch nD
    have updK : ∀ {G : Hp} {D : Addr} {o : HO}, Keep a H G → H D = none → Keep a H (upd G D o) := fun {G D o} kp nD b x nb e => by
      rw [upd_ne (ne_of_none e nD)]
      exact kp b x nb e
    refine ⟨(by show 7 ≤ sizeLine; decide), fun z nz => ?_⟩
    have hz := well_new hw nz
    have kk : Keep a H _ := Keep.of (same_upd (o := .lst (lanesS.map V.str)) nz)
    have hl := lstNew (xs := lanesS.map V.str) nz
    have hw := hw.same (same_upd (o := .lst (lanesS.map V.str)) nz)
    refine ⟨_, rfl, _, rfl, a, 2, _, rfl, hw, by omega, by decide, by decide, fun r1 H1 r10 r11 b1 w1 => ⟨rfl, a, _, _, rfl, w1, by omega, fun x1 c H2 k2 w2 e1 t1 => ?_⟩⟩
    refine ⟨_, rfl, _, rfl, a, 3, _, rfl, w2, by omega, by decide, by decide, fun r3 H3 r30 r31 b3 w3 => ⟨rfl, a, _, _, rfl, w3, by omega, fun x2 rr H4 k4 w4 e2 t2 => ?_⟩⟩
    have e1 := dpK k4 w3.lst.choose_spec 9 _ _ t1.2 (dpK b3.keep w2.lst.choose_spec 9 _ _ t1.2 e1)
    have hl := k4 _ _ hz (b3.keep _ _ hz (k2 _ _ hz (b1.keep _ _ hz hl)))
    have kk := (((kk.trans b1.keep).trans k2).trans b3.keep).trans k4
    refine ⟨(by show 2 ≤ sizeLine; decide), fun D nD => ?_⟩
    have nDa := well_new w4 nD
    have nD0 := newK kk nD nDa
    have nzD := ne_of_none hl nD
    have sD := same_upd (o := .lst [x1, x2]) nD
    have hb : Bag K _ D [c, rr] := ⟨[x1, x2], lstNew nD, .cons (dpS sD e1) (.cons (dpS sD e2) .nil)⟩
    have w5 := w4.same sD
    have hl := sD _ _ hl
    have kk := kk.trans (Keep.of sD)
    have t1 := t1.q
    have t2 := t2.q
    have c2 : AllSm [c, rr] := fun d hd => by
      simp only [List.mem_cons, List.not_mem_nil, or_false] at hd
      rcases hd with rfl | rfl
      · exact smN_le t1.2 (by decide)
      · exact smN_le t2.2 (by decide)
    obtain ⟨xs0, hD0, _⟩ := id hb
    refine ⟨_, rfl, .inl ⟨rfl, _, SqL.of hD0⟩, _, rfl, a, _, rfl, w5, by omega, fun x3 rows H5 k5 w6 e3 o3 s3 => ?_⟩
    have hb := hb.keep k5 w5.lst.choose_spec nDa c2
    obtain ⟨xs1, hD1, hx1⟩ := hb
    refine ⟨D, xs1, _, rfl, rfl, hD1, by rw [dpLen hx1]; show 2 < sizeLine; decide, ?_⟩
    have hb := Bag.push hD1 hx1 c2 e3 (smN_le s3 (by decide))
    have w6 := (w6.updNe (o := .lst (xs1 ++ [x3])) nDa).mono (show n + 1 + 200 + 1 + 200 + 4 ≤ n + 410 by omega)
    have kk := updK (o := .lst (xs1 ++ [x3])) (kk.trans k5) nD0
    have hl : upd H5 D (.lst (xs1 ++ [x3])) z = some (.lst (lanesS.map V.str)) := by rw [upd_ne nzD]; exact k5 _ _ hz hl
    have hb : Bag K (upd H5 D (.lst (xs1 ++ [x3]))) D [c, rr, fldD "main" rows] := hb
    clear e1 e2 e3 hD0 hD1 hx1 hw w1 w2 w3 w4 w5 k2 k4 k5 b1 b3 sD c2 nD
    generalize upd H5 D (.lst (xs1 ++ [x3])) = G at hb w6 kk hl ⊢
    refine ⟨_, rfl, a, 5, _, rfl, w6, by omega, by decide, by decide, fun r5 H6 r50 r51 b6 w7 => ⟨rfl, _, rfl, ite2 (fun c0 => ?_) (fun c0 => ?_)⟩⟩
    have c3 : AllSm [c, rr, fldD "main" rows] := fun d hd => by
      simp only [List.mem_cons, List.not_mem_nil, or_false] at hd
      rcases hd with rfl | rfl | rfl
      · exact smN_le t1.2 (by decide)
      · exact smN_le t2.2 (by decide)
      · exact smN_le s3 (by decide)
    focus
      have hb := hb.keep b6.keep w6.lst.choose_spec nDa c3
      have hl := b6.keep _ _ hz hl
      have kk := kk.trans b6.keep
      refine ⟨_, rfl, a, 4, _, rfl, w7, by omega, by decide, by decide, fun r6 H7 r60 r61 b7 w8 => ⟨r6, rfl, by omega, by omega, fun L nL => ?_⟩⟩
      have hb := hb.keep b7.keep w7.lst.choose_spec nDa c3
      have hl := b7.keep _ _ hz hl
      have kk := kk.trans b7.keep
      have nLa := well_new w8 nL
      refine lc_range (lo := 0) (n := r6.toNat) (PvB K a L H7 (n + 410 + 1 + 1) 3 (fun d => nmsB d = true)) (PvB.zero w8 nL) ?_ ?_
      · rintro i H8 hi pv
        obtain ⟨_, w9, _⟩ := id pv
        refine ⟨rfl, iteT (B := PvB K a L H7 (n + 410 + 1 + 1) 3 (fun d => nmsB d = true) (i + 1) H8) ?_⟩
        exact ⟨_, rfl, a, _, rfl, w9, by omega, fun x d H9 k9 w9' e p => pv.next (fun d pd => smN_le (ba pd).2 (by decide)) nLa nL (by omega) k9 w9' (by omega) e p⟩
      rintro H8 ⟨k8, w9, ds, hd, ⟨xs, hL, hx⟩, hp⟩
      have hb := hb.keep k8 w8.lst.choose_spec nDa c3
      have hl := k8 _ _ hz hl
      have kk := kk.trans k8
      refine ⟨L, xs, rfl, .inl ⟨SqL.of hL, fun t nt => ⟨(by show 2 ≤ sizeLine; decide), fun g ng => ?_⟩⟩⟩
      have st := same_upd (o := .tup xs) nt
      have sg := same_upd (o := .tup [.str "inherited", .ref t]) ng
      have tt := tupNew nt (dpSA st hx)
      have tg := tupNew (K := K) (xs := [.str "inherited", .ref t]) (ds := [.str "inherited", .tuple ds]) ng (.cons (.str _) (.cons (dpS sg tt) .nil))
      have hq := inh_q hp (by omega)
      have hb := (hb.same st).same sg
      have w9 := ((w9.same st).same sg).mono (show n + 410 + 1 + 1 + 3 * (r6.toNat : Int) ≤ n + 422 by omega)
      have hl := sg _ _ (st _ _ hl)
      have kk := (kk.trans (Keep.of st)).trans (Keep.of sg)
      refine ⟨_, rfl, _, rfl, a, 2, _, rfl, w9, by omega, by decide, by decide, fun ix H9 i0 i1 b9 w10 => ?_⟩
      have tg := dpK b9.keep w9.lst.choose_spec 9 _ _ hq.2 tg
      have hb := hb.keep b9.keep w9.lst.choose_spec nDa c3
      obtain ⟨ys, hD2, hx2⟩ := hb
      have l3 := dpLen hx2
      obtain ⟨c', r', hb, t1, t2⟩ : ∃ c' r', Bag K (upd H9 D (.lst (ys.set ix.toNat (.ref g)))) D [c', r', fldD "main" rows] ∧ TpQ c' ∧ TpQ r' := by
        have hall := dpKall (fun d v => dpK (a := D) (Keep.upd (o := .lst (ys.set ix.toNat (.ref g))) (Keep.of (Same.refl _))) hD2 20 d v) _ ys c3 hx2
        have hg := dpU (o := .lst (ys.set ix.toNat (.ref g))) hD2 hq.2 tg
        cases hall with
        | cons q1 q2 =>
          cases q2 with
          | cons q2 q3 =>
            have : ix = 0 ∨ ix = 1 := by omega
            rcases this with rfl | rfl
            · exact ⟨_, rr, ⟨_, upd_same, .cons hg (.cons q2 q3)⟩, hq, t2⟩
            · exact ⟨c, _, ⟨_, upd_same, .cons q1 (.cons hg q3)⟩, t1, hq⟩
      refine ⟨D, ys, ix, ix.toNat, rfl, rfl, hD2, ?_, ?_⟩
      · have : ix = 0 ∨ ix = 1 := by omega
        rw [l3]
        rcases this with rfl | rfl <;> rfl
      have w7 := (w10.updNe (o := .lst (ys.set ix.toNat (.ref g))) nDa).mono (show n + 422 + 1 ≤ n + 430 by omega)
      have kk := updK (o := .lst (ys.set ix.toNat (.ref g))) (kk.trans b9.keep) nD0
      have hl : upd H9 D (.lst (ys.set ix.toNat (.ref g))) z = some (.lst (lanesS.map V.str)) := by rw [upd_ne nzD]; exact b9.keep _ _ hz hl
      clear tg hx2 hD2 tt hx hL c3
      generalize c' = c at hb t1
      generalize r' = rr at hb t2
      generalize upd H9 D (.lst (ys.set ix.toNat (.ref g))) = G2 at hb w7 kk hl ⊢
    rotate_left
    focus
      have c3 : AllSm [c, rr, fldD "main" rows] := fun d hd => by
        simp only [List.mem_cons, List.not_mem_nil, or_false] at hd
        rcases hd with rfl | rfl | rfl
        · exact smN_le t1.2 (by decide)
        · exact smN_le t2.2 (by decide)
        · exact smN_le s3 (by decide)
      have hb := hb.keep b6.keep w6.lst.choose_spec nDa c3
      have hl := b6.keep _ _ hz hl
      have kk := kk.trans b6.keep
      have w7 := w7.mono (show n + 410 + 1 ≤ n + 430 by omega)
      clear c3
      generalize H6 = G2 at hb w7 kk hl ⊢
    all_goals
      have hc : ∀ (ms : List (List PyData)), (∀ m ∈ ms, moreB m) → AllSm ([c, rr, fldD "main" rows] ++ ms.map PyData.tuple) := fun ms hm d hd => by
        rcases List.mem_append.mp hd with hd | hd
        · simp only [List.mem_cons, List.not_mem_nil, or_false] at hd
          rcases hd with rfl | rfl | rfl
          · exact smN_le t1.2 (by decide)
          · exact smN_le t2.2 (by decide)
          · exact smN_le s3 (by decide)
        · obtain ⟨m, hm', rfl⟩ := List.mem_map.mp hd
          exact smN_le (hm m hm').2 (by decide)
      refine ⟨2, rfl, by decide, by decide, for_range (n := 2) (fun i σ H' => Keep a H H' ∧ Well H' a (n + 430 + 81 * (i : Int)) ∧ H' z = some (.lst (lanesS.map V.str)) ∧ (∃ ms : List (List PyData), ms.length = i ∧ (∀ m ∈ ms, moreB m) ∧ Bag K H' D ([c, rr, fldD "main" rows] ++ ms.map PyData.tuple)) ∧ ∃ v3 v4, σ = [some (.ref a), some (.ref z), some (.ref D), v3, v4])
        ⟨kk, w7.mono (by omega), hl, ⟨[], rfl, (fun m h => nomatch h), hb⟩, _, _, rfl⟩ ?_ ?_⟩
      · rintro i σ H5 hi ⟨k5, w5, hl5, ⟨ms, lm, hm, hb5⟩, v3, v4, rfl⟩
        have hcm := hc ms hm
        obtain ⟨xs5, hD5, hx5⟩ := id hb5
        refine ⟨_, rfl, .inl ⟨rfl, _, SqL.of hD5⟩, _, rfl, a, 8, _, rfl, w5, by omega, by decide, by decide, fun r H8 r0 r1 b8 w8 => ⟨_, _, rfl, rfl, 1 + r, rfl, by omega, by omega, fun L nL => ?_⟩⟩
        have nLa := well_new w8 nL
        have hb8 := hb5.keep b8.keep w5.lst.choose_spec nDa hcm
        refine lc_range (lo := 0) (n := (1 + r).toNat) (PvB K a L H8 (n + 430 + 81 * (i : Int) + 1) 10 (fun d => sizB d = true)) (PvB.zero w8 nL) ?_ ?_
        · rintro j H9 hj pv
          obtain ⟨_, w9, _⟩ := id pv
          refine ⟨rfl, iteT (B := PvB K a L H8 (n + 430 + 81 * (i : Int) + 1) 10 (fun d => sizB d = true) (j + 1) H9) ?_⟩
          exact ⟨_, rfl, a, _, rfl, w9, by omega, fun x d H9' k9 w9' e p => pv.next (fun d pd => smN_le (ba pd).2 (by decide)) nLa nL (by omega) k9 w9' (by omega) e p⟩
        rintro H9 ⟨k9, w9, ds, hd, ⟨ys, hL, hy⟩, hp⟩
        have hb9 := hb8.keep k9 w8.lst.choose_spec nDa hcm
        refine ⟨L, ys, rfl, .inl ⟨SqL.of hL, fun t nt => ?_⟩⟩
        have st := same_upd (o := .tup ys) nt
        have tt := tupNew nt (dpSA st hy)
        have pm := more_mk hp (by omega) (by omega)
        obtain ⟨xs9, hD9, hx9⟩ := hb9.same st
        have lx9 := dpLen hx9
        rw [List.length_append, List.length_map, lm] at lx9
        refine ⟨D, xs9, _, rfl, rfl, hD9, by rw [lx9]; exact Nat.lt_of_lt_of_le (m := 1000) (by show 3 + i < 1000; omega) (by decide), ?_⟩
        have hb10 := Bag.push hD9 hx9 hcm tt (smN_le pm.2 (by decide))
        refine ⟨updK (((k5.trans b8.keep).trans k9).trans (Keep.of st)) nD0, ((w9.same st).updNe nDa).mono (by omega), ?_, ⟨ms ++ [ds], by rw [List.length_append, lm]; rfl, fun m h => ?_, ?_⟩, _, _, rfl⟩
        · rw [upd_ne nzD]
          exact st _ _ (k9 _ _ hz (b8.keep _ _ hz hl5))
        · rcases List.mem_append.mp h with h' | h'
          · exact hm m h'
          · rw [List.mem_singleton] at h'
            rw [h']
            exact pm
        · rw [List.map_append, ← List.append_assoc]
          exact hb10
      · rintro σ H5 ⟨k5, w5, hl5, ⟨ms, lm, hm, hb5⟩, v3, v4, rfl⟩
        obtain ⟨m1, m2, rfl⟩ : ∃ m1 m2, ms = [m1, m2] := by
          match ms, lm with
          | [m1, m2], _ => exact ⟨m1, m2, rfl⟩
        have p1 := hm m1 (by simp)
        have p2 := hm m2 (by simp)
        have hcm := hc [m1, m2] hm
        have hb5 : Bag K H5 D [c, rr, fldD "main" rows, .tuple m1, .tuple m2] := hb5
        have hcm : AllSm [c, rr, fldD "main" rows, .tuple m1, .tuple m2] := hcm
        have w5 := w5.mono (show n + 430 + 81 * ((2 : Nat) : Int) ≤ n + 600 by omega)
        clear hb w7 hl kk hm hc lm
        -- the flow, dense, the gaps
        obtain ⟨xs, hD, hx⟩ := hb5
        refine ⟨_, rfl, _, rfl, (by show 2 ≤ sizeLine; decide), fun f nf => ?_⟩
        have sf := same_upd (o := .lst (flows.map V.str)) nf
        have hf := well_new w5 nf
        refine ⟨a, f, _, flows.map V.str, rfl, w5.same sf, by omega, Ne.symm hf, upd_same, by decide, by decide, fun x5 H6 hx5 b6 w6 => ?_⟩
        obtain ⟨fl, rfl, fl1, fl2⟩ := word_in (L := flows) (ws := flows) (by decide +kernel) hx5
        have hb : Bag K H6 D _ := Bag.keep ((show Bag K H5 D _ from ⟨xs, hD, hx⟩).same sf) b6.keep (w5.same sf).lst.choose_spec nDa hcm
        have hl := b6.keep _ _ hz (sf _ _ hl5)
        have kk := (k5.trans (Keep.of sf)).trans b6.keep
        refine ⟨_, rfl, a, 2, _, rfl, w6, by omega, by decide, by decide, fun r7 H7 r70 r71 b7 w7 => ⟨rfl, ?_⟩⟩
        have hb := hb.keep b7.keep w6.lst.choose_spec nDa hcm
        have hl := b7.keep _ _ hz hl
        have kk := kk.trans b7.keep
        refine ⟨_, rfl, a, _, rfl, w7, by omega, fun x7 d7 H8 k8 w8 e7 p7 => ?_⟩
        have hb := hb.keep k8 w7.lst.choose_spec nDa hcm
        have hl := k8 _ _ hz hl
        have kk := kk.trans k8
        have z7 := (fix_all p7).2.2.2
        refine ⟨_, rfl, a, _, rfl, w8, by omega, fun x8 d8 H9 k9 w9 e8 p8 => ?_⟩
        have hb := hb.keep k9 w8.lst.choose_spec nDa hcm
        have hl := k9 _ _ hz hl
        have kk := kk.trans k9
        have z8 := (fix_all p8).2.2.2
        have e7 := dpK k9 w8.lst.choose_spec 2 _ _ z7 e7
        obtain ⟨ys, hD9, hy⟩ := hb
        have ly := dpLen hy
        refine ⟨(by show 4 ≤ sizeLine; decide), fun l nl => ⟨D, l, ys, _, rfl, rfl, SqL.of (same_upd nl _ _ hD9), SqL.of upd_same, (by rw [ly]; show 9 ≤ sizeLine; decide), fun m nm => ?_⟩⟩
        have s1 := same_upd (o := .lst [.str fl, .bl (decide (V.int r7 = V.int 0)), x7, x8]) nl
        have s2 := same_upd (o := .lst (ys ++ [.str fl, .bl (decide (V.int r7 = V.int 0)), x7, x8])) nm
        have w10 := ((w9.same s1).same s2).mono (show n + 600 + 1 + 1 + 2 + 2 ≤ n + 610 by omega)
        have hl := s2 _ _ (s1 _ _ hl)
        have kk := (kk.trans (Keep.of s1)).trans (Keep.of s2)
        have nma := well_new (w9.same s1) nm
        have hbm : Bag K (upd (upd H9 l (.lst [.str fl, .bl (decide (V.int r7 = V.int 0)), x7, x8])) m (.lst (ys ++ [.str fl, .bl (decide (V.int r7 = V.int 0)), x7, x8]))) m ([c, rr, fldD "main" rows, .tuple m1, .tuple m2] ++ [.str fl, .bool (decide (V.int r7 = V.int 0)), d7, d8]) :=
          ⟨_, upd_same, dpSnoc (dpSA s2 (dpSA s1 hy)) (.cons (.str _) (.cons (.bl _) (.cons (dpS s2 (dpS s1 e7)) (.cons (dpS s2 (dpS s1 e8)) .nil))))⟩
        have hcm2 : AllSm ([c, rr, fldD "main" rows, .tuple m1, .tuple m2] ++ [.str fl, .bool (decide (V.int r7 = V.int 0)), d7, d8]) := fun d hd => by
          rcases List.mem_append.mp hd with hd | hd
          · exact hcm d hd
          · simp only [List.mem_cons, List.not_mem_nil, or_false] at hd
            rcases hd with rfl | rfl | rfl | rfl
            · exact smN_le fl2 (by decide)
            · rfl
            · exact smN_le z7 (by decide)
            · exact smN_le z8 (by decide)
        clear hb5 hD hx hy hD9 e7 e8 w5 w6 w7 w8 w9 k8 k9 b6 b7 k5 sf s1 s2 hl5 nf
        generalize upd (upd H9 l (.lst [.str fl, .bl (decide (V.int r7 = V.int 0)), x7, x8])) m (.lst (ys ++ [.str fl, .bl (decide (V.int r7 = V.int 0)), x7, x8])) = G3 at hbm w10 kk hl ⊢
        -- justify, align
        refine ⟨_, rfl, _, rfl, _, rfl, a, z, _, lanesS.map V.str, rfl, w10, by omega, Ne.symm hz, hl, by decide, by decide, fun x9 H6 hx9 b6 w6 => ?_⟩
        obtain ⟨j, rfl, j1, j2⟩ := word_in (L := lanesS) (ws := lanesWays) (by decide +kernel) hx9
        have hbm := hbm.keep b6.keep w10.lst.choose_spec nma hcm2
        have hl := b6.keep _ _ hz hl
        have kk := kk.trans b6.keep
        refine ⟨_, rfl, _, rfl, a, z, _, lanesS.map V.str, rfl, w6, by omega, Ne.symm hz, hl, by decide, by decide, fun x10 H7 hx10 b7 w7 => ?_⟩
        obtain ⟨al, rfl, al1, al2⟩ := word_in (L := lanesS) (ws := lanesWays) (by decide +kernel) hx10
        have hbm := hbm.keep b7.keep w6.lst.choose_spec nma hcm2
        have hl := b7.keep _ _ hz hl
        have kk := kk.trans b7.keep
        obtain ⟨ys2, hM, hy2⟩ := hbm
        have ly2 := dpLen hy2
        refine ⟨(by show 2 ≤ sizeLine; decide), fun l2 nl2 => ⟨m, l2, ys2, _, rfl, rfl, SqL.of (same_upd nl2 _ _ hM), SqL.of upd_same, (by rw [ly2]; show 11 ≤ sizeLine; decide), fun m' nm' => ?_⟩⟩
        have s1 := same_upd (o := .lst [.str j, .str al]) nl2
        have s2 := same_upd (o := .lst (ys2 ++ [.str j, .str al])) nm'
        have w11 := ((w7.same s1).same s2).mono (show n + 610 + 1 + 1 ≤ n + 620 by omega)
        have hl := s2 _ _ (s1 _ _ hl)
        have kk := (kk.trans (Keep.of s1)).trans (Keep.of s2)
        have nma' := well_new (w7.same s1) nm'
        have hbm : Bag K (upd (upd H7 l2 (.lst [.str j, .str al])) m' (.lst (ys2 ++ [.str j, .str al]))) m' (([c, rr, fldD "main" rows, .tuple m1, .tuple m2] ++ [.str fl, .bool (decide (V.int r7 = V.int 0)), d7, d8]) ++ [.str j, .str al]) :=
          ⟨_, upd_same, dpSnoc (dpSA s2 (dpSA s1 hy2)) (.cons (.str _) (.cons (.str _) .nil))⟩
        have hcm3 : AllSm (([c, rr, fldD "main" rows, .tuple m1, .tuple m2] ++ [.str fl, .bool (decide (V.int r7 = V.int 0)), d7, d8]) ++ [.str j, .str al]) := allSm_two hcm2 j2 al2
        clear hy2 hM w6 w7 w10 b6 b7 s1 s2
        generalize upd (upd H7 l2 (.lst [.str j, .str al])) m' (.lst (ys2 ++ [.str j, .str al])) = G4 at hbm w11 kk hl ⊢
        -- items' ways
        refine ⟨_, rfl, _, rfl, (by show 4 ≤ sizeLine; decide), fun f nf => ?_⟩
        have sf := same_upd (o := .lst (waysAcross.map V.str)) nf
        have hf := well_new w11 nf
        refine ⟨a, f, _, waysAcross.map V.str, rfl, w11.same sf, by omega, Ne.symm hf, upd_same, by decide, by decide, fun x11 H6 hx11 b6 w6 => ?_⟩
        obtain ⟨ij, rfl, ij1, ij2⟩ := word_in (L := waysAcross) (ws := waysAcross) (by decide +kernel) hx11
        have hbm := (hbm.same sf).keep b6.keep (w11.same sf).lst.choose_spec nma' hcm3
        have hl := b6.keep _ _ hz (sf _ _ hl)
        have kk := (kk.trans (Keep.of sf)).trans b6.keep
        have cut : cutV (lanesS.map V.str) none (some 4) = waysAcross.map V.str := by
          unfold cutV
          rw [HT.sIx_none, show HT.sIx (lanesS.map V.str).length (lanesS.map V.str).length (some 4) = min 4 (lanesS.map V.str).length from HT.sIx_nat _ _ 4]
          rfl
        refine ⟨_, rfl, _, rfl, 4, rfl, z, _, rfl, SqL.of hl, fun q nq => ?_⟩
        rw [cut] at *
        have sq := same_upd (o := .lst (waysAcross.map V.str)) nq
        refine ⟨(by show 1 ≤ sizeLine; decide), fun l nl => ⟨q, l, _, _, rfl, rfl, SqL.of (same_upd nl _ _ upd_same), SqL.of upd_same, (by show 5 ≤ sizeLine; decide), fun o no => ?_⟩⟩
        have s1 := same_upd (o := .lst [.str "baseline"]) nl
        have s2 := same_upd (o := .lst (waysAcross.map V.str ++ [.str "baseline"])) no
        have w7 := ((w6.same sq).same s1).same s2
        have ho := well_new ((w6.same sq).same s1) no
        have hbm := ((hbm.same sq).same s1).same s2
        have kk := ((kk.trans (Keep.of sq)).trans (Keep.of s1)).trans (Keep.of s2)
        refine ⟨a, o, _, (waysAcross ++ [("baseline" : Str)]).map V.str, rfl, w7, by omega, Ne.symm ho, upd_same, by decide, by decide, fun x12 H8 hx12 b8 w8 => ?_⟩
        obtain ⟨ia, rfl, ia1, ia2⟩ := word_in (L := waysAcross ++ [("baseline" : Str)]) (ws := waysDown) (by decide +kernel) hx12
        have hbm := hbm.keep b8.keep w7.lst.choose_spec nma' hcm3
        have kk := kk.trans b8.keep
        obtain ⟨ys3, hM, hy3⟩ := hbm
        have ly3 := dpLen hy3
        refine ⟨(by show 2 ≤ sizeLine; decide), fun l3 nl3 => ⟨m', l3, ys3, _, rfl, rfl, SqL.of (same_upd nl3 _ _ hM), SqL.of upd_same, (by rw [ly3]; show 13 ≤ sizeLine; decide), fun p np => ?_⟩⟩
        have s3 := same_upd (o := .lst [.str ij, .str ia]) nl3
        have s4 := same_upd (o := .lst (ys3 ++ [.str ij, .str ia])) np
        have kk := (kk.trans (Keep.of s3))
        have hcm4 := allSm_two hcm3 ij2 ia2
        refine k p (ys3 ++ [.str ij, .str ia]) ⟨c, rr, "main", rows, m1, m2, fl, decide (V.int r7 = V.int 0), d7, d8, j, al, ij, ia⟩ _ (kk.trans (Keep.of s4)) (((w8.same s3).same s4).mono (by omega)) (newK kk np (well_new (w8.same s3) np)) (well_new (w8.same s3) np) upd_same (dpSnoc (dpSA s4 (dpSA s3 hy3)) (.cons (.str _) (.cons (.str _) .nil))) ?_ hcm4
        exact ⟨⟨sm_okInh t1.2, sm_okEnt t1.2⟩, t1.1, ⟨sm_okInh t2.2, sm_okEnt t2.2⟩, t2.1, o3, p1.1, p2.1, fl1, sm_okS z7, (fix_all p7).1, sm_okS z8, (fix_all p8).1, j1, al1, ij1, ia1⟩
end
end K5

set_option Elab.async false
set_option linter.all false
set_option maxRecDepth 100000
set_option maxHeartbeats 8000000
namespace K5
open PySem PySem.Spec PyProof.Rows L2
open K1 (FnP top Nm wm)
/-! ### grids made of values, their parts -/
structure DG (P : Program) (w : World) (K : PySem.W.Frag) (mg : Str → Option Value) (base : Heap) (C f : Addr) (fd : FuncData) : Prop where
  M : Mk K C f
  G : FnOk P w K mg base CX0 15 f fd ("self" :: fnames) (spGI K C)
  gC : mg "Grid" = some (.ref C)
def gVs (vs zs : List V) : List V := vs ++ zs.reverse
theorem same_new {H H2 : Hp} {x dx C : Addr} (nx : H x = none) (ndx : H dx = none) (ne : dx ≠ x) (k : Keep x (upd (upd H dx (.own x)) x (.ins C dx [])) H2) : Same H H2 := fun b o e => by
  have h1 : b ≠ x := ne_of_none e nx
  have h2 : b ≠ dx := ne_of_none e ndx
  exact k b o h1 (by rw [upd_ne h1, upd_ne h2]; exact e)
theorem same_mk {H : Hp} {x dx C : Addr} (nx : H x = none) (ndx : H dx = none) : Same H (upd (upd H dx (.own x)) x (.ins C dx [])) := fun b o e => by
  rw [upd_ne (ne_of_none e nx), upd_ne (ne_of_none e ndx)]
  exact e
section
variable {P : Program} {w : World} {K : PySem.W.Frag} {mg : Str → Option Value} {base : Heap} {C fI fE : Addr}
/-- made(values): a new grid of these -/
def spMd (K : PySem.W.Frag) (C : Addr) : Sp := fun vs H Q _ => ∃ (p : Addr) (xs : List V) (g : Gr), vs = [.ref p] ∧ H p = some (.lst xs) ∧ DpAll K H xs g.ds ∧ OkGr g ∧ AllSm g.ds ∧ ∀ x H', H x = none → Same H H' → GridAt K C H' x xs g.ds → Q (.ref x) H'
theorem gr_sh {g : Gr} (h : AllSm g.ds) : ∀ d ∈ g.ds, SeqAt.shaped d = true := fun d hd => sm_sh (h d hd) (by decide)
theorem grid_new {H H' : Hp} {x dx : Addr} {xs : List V} {g : Gr} (nx : H x = none) (ndx : H dx = none) (ne : dx ≠ x) (hx : DpAll K H xs g.ds) (hs : AllSm g.ds) (k : Keep x (upd (upd H dx (.own x)) x (.ins C dx [])) H') (e : H' x = some (.ins C dx (fnames.zip xs))) : Same H H' ∧ GridAt K C H' x xs g.ds := by
  have s := same_new nx ndx ne k
  exact ⟨s, ⟨dx, e⟩, dpSA s hx, rfl, gr_sh hs⟩
theorem scMd : FnScope ["v"] ["v"] (defScope (top 82)) := ⟨rfl, rfl, rfl, by decide +kernel, rfl, by decide +kernel, by decide +kernel⟩
theorem ok_md {f fG : Addr} {fd dG : FuncData} {gg : List Value → List Value → List Value} (F : FnP K "_law_made" (top 82) f fd) (d_Grid : DG P w K mg base C fG dG) (kb : KBn K dG ("self" :: fnames) 1 fnames.reverse gg gVs) : FnOk P w K mg base CX0 17 f fd ["v"] (spMd K C) := by
  refine F.ok scMd (fun vs H Q E h => ?_) (fun cdv A outer s H vs Q E hr h => ?_)
  · obtain ⟨p, xs, g, rfl, _⟩ := h
    rfl
  · obtain ⟨p, xs, g, rfl, hp, hx, ok, sm, k⟩ := h
    refine ⟨_, PSs.nox (pss_one (ps_ret (pe_makeK0 d_Grid.M d_Grid.G (hr.mono (by decide)) (by rfl) d_Grid.gC kb pass0 (pk_cons (pe_ix ix_list (pv 0) pe_int (fun _ _ => rfl)) (pk_cons (pe_ix ix_list (pv 0) pe_int (fun _ _ => rfl)) (pk_cons (pe_ix ix_list (pv 0) pe_int (fun _ _ => rfl)) (pk_cons (pe_ix ix_list (pv 0) pe_int (fun _ _ => rfl)) (pk_cons (pe_ix ix_list (pv 0) pe_int (fun _ _ => rfl)) (pk_cons (pe_ix ix_list (pv 0) pe_int (fun _ _ => rfl)) (pk_cons (pe_ix ix_list (pv 0) pe_int (fun _ _ => rfl)) (pk_cons (pe_ix ix_list (pv 0) pe_int (fun _ _ => rfl)) (pk_cons (pe_ix ix_list (pv 0) pe_int (fun _ _ => rfl)) (pk_cons (pe_ix ix_list (pv 0) pe_int (fun _ _ => rfl)) (pk_cons (pe_ix ix_list (pv 0) pe_int (fun _ _ => rfl)) (pk_cons (pe_ix ix_list (pv 0) pe_int (fun _ _ => rfl)) (pk_cons (pe_ix ix_list (pv 0) pe_int (fun _ _ => rfl)) pk_nil)))))))))))))))), ?_⟩
    have hxx := hx
    have gd : g.ds = [g.c, g.r, fldD g.z g.rows, .tuple g.mc, .tuple g.mr, .str g.fl, .bool g.de, g.cg, g.rg, .str g.j, .str g.al, .str g.ij, .str g.ia] := rfl
    rw [gd] at hx
    cases hx with
    | @cons v0 xs _ _ h0 hx =>
      cases hx with
      | @cons v1 xs _ _ h1 hx =>
        cases hx with
        | @cons v2 xs _ _ h2 hx =>
          cases hx with
          | @cons v3 xs _ _ h3 hx =>
            cases hx with
            | @cons v4 xs _ _ h4 hx =>
              cases hx with
              | @cons v5 xs _ _ h5 hx =>
                cases hx with
                | @cons v6 xs _ _ h6 hx =>
                  cases hx with
                  | @cons v7 xs _ _ h7 hx =>
                    cases hx with
                    | @cons v8 xs _ _ h8 hx =>
                      cases hx with
                      | @cons v9 xs _ _ h9 hx =>
                        cases hx with
                        | @cons v10 xs _ _ h10 hx =>
                          cases hx with
                          | @cons v11 xs _ _ h11 hx =>
                            cases hx with
                            | @cons v12 xs _ _ h12 hx =>
                              cases hx
                              refine ⟨_, rfl, p, _, _, _, rfl, rfl, SqL.of hp, atI_nat (j := 12) rfl, ?_⟩
                              refine ⟨_, rfl, p, _, _, _, rfl, rfl, SqL.of hp, atI_nat (j := 11) rfl, ?_⟩
                              refine ⟨_, rfl, p, _, _, _, rfl, rfl, SqL.of hp, atI_nat (j := 10) rfl, ?_⟩
                              refine ⟨_, rfl, p, _, _, _, rfl, rfl, SqL.of hp, atI_nat (j := 9) rfl, ?_⟩
                              refine ⟨_, rfl, p, _, _, _, rfl, rfl, SqL.of hp, atI_nat (j := 8) rfl, ?_⟩
                              refine ⟨_, rfl, p, _, _, _, rfl, rfl, SqL.of hp, atI_nat (j := 7) rfl, ?_⟩
                              refine ⟨_, rfl, p, _, _, _, rfl, rfl, SqL.of hp, atI_nat (j := 6) rfl, ?_⟩
                              refine ⟨_, rfl, p, _, _, _, rfl, rfl, SqL.of hp, atI_nat (j := 5) rfl, ?_⟩
                              refine ⟨_, rfl, p, _, _, _, rfl, rfl, SqL.of hp, atI_nat (j := 4) rfl, ?_⟩
                              refine ⟨_, rfl, p, _, _, _, rfl, rfl, SqL.of hp, atI_nat (j := 3) rfl, ?_⟩
                              refine ⟨_, rfl, p, _, _, _, rfl, rfl, SqL.of hp, atI_nat (j := 2) rfl, ?_⟩
                              refine ⟨_, rfl, p, _, _, _, rfl, rfl, SqL.of hp, atI_nat (j := 1) rfl, ?_⟩
                              refine ⟨_, rfl, p, _, _, _, rfl, rfl, SqL.of hp, atI_nat (j := 0) rfl, ?_⟩
                              refine ⟨rfl, rfl, fun x dx nx ndx ne => ?_⟩
                              refine ⟨x, dx, [v0, v1, v2, v3, v4, v5, v6, v7, v8, v9, v10, v11, v12], g, rfl, upd_same, dpSA (same_mk nx ndx) hxx, ok, fun H2 kp e => ⟨rfl, ?_⟩⟩
                              obtain ⟨s, ga⟩ := grid_new nx ndx ne hxx sm kp e
                              exact k x H2 nx s ga
/-- parts(grid) -/
def spPt (K : PySem.W.Frag) (C : Addr) : Sp := fun vs H Q _ => ∃ (x : Addr) (xs : List V) (ds : List PyData), vs = [.ref x] ∧ GridAt K C H x xs ds ∧ ∀ p H', Same H H' → H p = none → H' p = some (.lst xs) → Q (.ref p) H'
theorem scPt : FnScope ["grid", "found"] ["grid"] (defScope (top 83)) := ⟨rfl, rfl, rfl, by decide +kernel, rfl, by decide +kernel, by decide +kernel⟩
theorem ok_pt {f : Addr} {fd : FuncData} (F : FnP K "_law_parts" (top 83) f fd) (T : TG K mg "Grid" C fI fE) : FnOk P w K mg base CX0 1 f fd ["grid"] (spPt K C) := by
  refine F.ok scPt (fun vs H Q E h => ?_) (fun cdv A outer s H vs Q E hr h => ?_)
  · obtain ⟨x, xs, ds, rfl, _⟩ := h
    rfl
  · obtain ⟨x, xs, ds, rfl, ⟨⟨dx, h1⟩, hx, l13, hs⟩, k⟩ := h
    refine ⟨_, PSs.nox (pss_cons (ps_set (i := 1) scPt.nd rfl (Or.inl rfl) (pe_lst (pa_cons (pe_fld (pv 0) rfl) (pa_cons (pe_fld (pv 0) rfl) (pa_cons (pe_fld (pv 0) rfl) (pa_cons (pe_fld (pv 0) rfl) (pa_cons (pe_fld (pv 0) rfl) (pa_cons (pe_fld (pv 0) rfl) (pa_cons (pe_fld (pv 0) rfl) pa_nil)))))))))
  (pss_cons (ps_set (i := 1) scPt.nd rfl (Or.inl rfl) (pe_op op_catS (pv 1) (pe_lst (pa_cons (pe_fld (pv 0) rfl) (pa_cons (pe_fld (pv 0) rfl) (pa_cons (pe_fld (pv 0) rfl) (pa_cons (pe_fld (pv 0) rfl) pa_nil)))))))
  (pss_one (ps_ret (pe_op op_catS (pv 1) (pe_lst (pa_cons (pe_fld (pv 0) rfl) (pa_cons (pe_fld (pv 0) rfl) pa_nil)))))))), ?_⟩
    cases hx with
    | nil => exact absurd l13 (by simp)
    | @cons v0 xs d0 ds p0 hx =>
      cases hx with
      | nil => exact absurd l13 (by simp)
      | @cons v1 xs d1 ds p1 hx =>
        cases hx with
        | nil => exact absurd l13 (by simp)
        | @cons v2 xs d2 ds p2 hx =>
          cases hx with
          | nil => exact absurd l13 (by simp)
          | @cons v3 xs d3 ds p3 hx =>
            cases hx with
            | nil => exact absurd l13 (by simp)
            | @cons v4 xs d4 ds p4 hx =>
              cases hx with
              | nil => exact absurd l13 (by simp)
              | @cons v5 xs d5 ds p5 hx =>
                cases hx with
                | nil => exact absurd l13 (by simp)
                | @cons v6 xs d6 ds p6 hx =>
                  cases hx with
                  | nil => exact absurd l13 (by simp)
                  | @cons v7 xs d7 ds p7 hx =>
                    cases hx with
                    | nil => exact absurd l13 (by simp)
                    | @cons v8 xs d8 ds p8 hx =>
                      cases hx with
                      | nil => exact absurd l13 (by simp)
                      | @cons v9 xs d9 ds p9 hx =>
                        cases hx with
                        | nil => exact absurd l13 (by simp)
                        | @cons v10 xs d10 ds p10 hx =>
                          cases hx with
                          | nil => exact absurd l13 (by simp)
                          | @cons v11 xs d11 ds p11 hx =>
                            cases hx with
                            | nil => exact absurd l13 (by simp)
                            | @cons v12 xs d12 ds p12 hx =>
                              cases hx with
                              | cons _ _ => exact absurd l13 (by simp only [List.length_cons]; omega)
                              | nil =>
                                have hh := h1
                                refine ⟨_, rfl, x, C, dx, _, _, rfl, hh, T.cl, T.na "columns" (by decide), rfl, _, rfl, x, C, dx, _, _, rfl, hh, T.cl, T.na "rows" (by decide), rfl, _, rfl, x, C, dx, _, _, rfl, hh, T.cl, T.na "fields" (by decide), rfl, _, rfl, x, C, dx, _, _, rfl, hh, T.cl, T.na "more_columns" (by decide), rfl, _, rfl, x, C, dx, _, _, rfl, hh, T.cl, T.na "more_rows" (by decide), rfl, _, rfl, x, C, dx, _, _, rfl, hh, T.cl, T.na "flow" (by decide), rfl, _, rfl, x, C, dx, _, _, rfl, hh, T.cl, T.na "dense" (by decide), rfl, (by show 7 ≤ sizeLine; decide), fun l nl => ?_⟩
                                have s1 := same_upd (o := .lst [v0, v1, v2, v3, v4, v5, v6]) nl
                                have hh := s1 _ _ h1
                                refine ⟨_, rfl, _, rfl, x, C, dx, _, _, rfl, hh, T.cl, T.na "column_gap" (by decide), rfl, _, rfl, x, C, dx, _, _, rfl, hh, T.cl, T.na "row_gap" (by decide), rfl, _, rfl, x, C, dx, _, _, rfl, hh, T.cl, T.na "justify" (by decide), rfl, _, rfl, x, C, dx, _, _, rfl, hh, T.cl, T.na "align" (by decide), rfl, (by show 4 ≤ sizeLine; decide), fun l2 nl2 => ⟨l, l2, [v0, v1, v2, v3, v4, v5, v6], [v7, v8, v9, v10], rfl, rfl, SqL.of (same_upd nl2 _ _ upd_same), SqL.of upd_same, (by show 11 ≤ sizeLine; decide), fun m nm => ?_⟩⟩
                                have s2 := same_upd (o := .lst [v7, v8, v9, v10]) nl2
                                have s3 := same_upd (o := .lst ([v0, v1, v2, v3, v4, v5, v6] ++ [v7, v8, v9, v10])) nm
                                have s13 := (s1.trans s2).trans s3
                                have hh := s13 _ _ h1
                                refine ⟨_, rfl, _, rfl, x, C, dx, _, _, rfl, hh, T.cl, T.na "items_justify" (by decide), rfl, _, rfl, x, C, dx, _, _, rfl, hh, T.cl, T.na "items_align" (by decide), rfl, (by show 2 ≤ sizeLine; decide), fun l3 nl3 => ⟨m, l3, _, [v11, v12], rfl, rfl, SqL.of (same_upd nl3 _ _ upd_same), SqL.of upd_same, (by show 13 ≤ sizeLine; decide), fun q nq => ?_⟩⟩
                                have s4 := same_upd (o := .lst [v11, v12]) nl3
                                have s5 := same_upd (o := .lst (([v0, v1, v2, v3, v4, v5, v6] ++ [v7, v8, v9, v10]) ++ [v11, v12])) nq
                                have s14 := s13.trans s4
                                exact k q _ (s14.trans s5) (none_of s14 nq) upd_same
end
end K5

set_option Elab.async false
set_option linter.all false
set_option maxRecDepth 100000
set_option maxHeartbeats 8000000
namespace K5
open PySem PySem.Spec PyProof.Rows L2
open K1 (FnP top Nm wm)
/-! ### the law's right -/
structure DE (P : Program) (w : World) (K : PySem.W.Frag) (mg : Str → Option Value) (base : Heap) (sp : Sp) (f : Addr) (fd : FuncData) : Prop where
  G : FnOk P w K mg base CX0 1 f fd ["self", "other"] sp
  b : Binds K fd ["self", "other"] []
def grD : Gr := ⟨.tuple [], .tuple [], "main", [], [.str "auto"], [.str "auto"], "row", false, .int 0, .int 0, "stretch", "stretch", "stretch", "stretch"⟩
theorem grD_ok : OkGr grD where
  c1 := ⟨sm_okInh (n := 1) (d := .tuple []) (by decide +kernel), sm_okEnt (n := 1) (d := .tuple []) (by decide +kernel)⟩
  c2 := by decide +kernel
  r1 := ⟨sm_okInh (n := 1) (d := .tuple []) (by decide +kernel), sm_okEnt (n := 1) (d := .tuple []) (by decide +kernel)⟩
  r2 := by decide +kernel
  f := (flB_ok (n := 1) (rows := []) (by decide) (by decide) (by decide +kernel)).1
  mc := (more_mk (ds := [.str "auto"]) (fun d hd => by rw [List.mem_singleton] at hd; subst hd; decide +kernel) (by decide) (by decide)).1
  mr := (more_mk (ds := [.str "auto"]) (fun d hd => by rw [List.mem_singleton] at hd; subst hd; decide +kernel) (by decide) (by decide)).1
  fl := by decide +kernel
  cg1 := sm_okS (n := 1) (d := .int 0) (by decide +kernel)
  cg2 := by decide +kernel
  rg1 := sm_okS (n := 1) (d := .int 0) (by decide +kernel)
  rg2 := by decide +kernel
  j := by decide +kernel
  al := by decide +kernel
  ij := by decide +kernel
  ia := by decide +kernel
theorem grD_sm : AllSm grD.ds := by
  have h : grD.ds.all (smN 20) = true := by decide +kernel
  exact fun d hd => List.all_eq_true.mp h d hd
/-- one of them is another's -/
def mix (g h : Gr) : Nat → Gr
  | 0 => { g with c := h.c }
  | 1 => { g with r := h.r }
  | 2 => { g with z := h.z, rows := h.rows }
  | 3 => { g with mc := h.mc }
  | 4 => { g with mr := h.mr }
  | 5 => { g with fl := h.fl }
  | 6 => { g with de := h.de }
  | 7 => { g with cg := h.cg }
  | 8 => { g with rg := h.rg }
  | 9 => { g with j := h.j }
  | 10 => { g with al := h.al }
  | 11 => { g with ij := h.ij }
  | _ => { g with ia := h.ia }
theorem mix_ok {g h : Gr} (a : OkGr g) (b : OkGr h) : ∀ i, OkGr (mix g h i)
  | 0 => { a with c1 := b.c1, c2 := b.c2 }
  | 1 => { a with r1 := b.r1, r2 := b.r2 }
  | 2 => { a with f := b.f }
  | 3 => { a with mc := b.mc }
  | 4 => { a with mr := b.mr }
  | 5 => { a with fl := b.fl }
  | 6 => { a with }
  | 7 => { a with cg1 := b.cg1, cg2 := b.cg2 }
  | 8 => { a with rg1 := b.rg1, rg2 := b.rg2 }
  | 9 => { a with j := b.j }
  | 10 => { a with al := b.al }
  | 11 => { a with ij := b.ij }
  | _ + 12 => { a with ia := b.ia }
theorem mix_ds {g h : Gr} : ∀ i d, i < 13 → h.ds[i]? = some d → (mix g h i).ds = g.ds.set i d
  | 0, _, _, e => by cases e; rfl
  | 1, _, _, e => by cases e; rfl
  | 2, _, _, e => by cases e; rfl
  | 3, _, _, e => by cases e; rfl
  | 4, _, _, e => by cases e; rfl
  | 5, _, _, e => by cases e; rfl
  | 6, _, _, e => by cases e; rfl
  | 7, _, _, e => by cases e; rfl
  | 8, _, _, e => by cases e; rfl
  | 9, _, _, e => by cases e; rfl
  | 10, _, _, e => by cases e; rfl
  | 11, _, _, e => by cases e; rfl
  | 12, _, _, e => by cases e; rfl
  | _ + 13, _, l, _ => by omega
theorem eqAll_refl : ∀ ds : List PyData, (∀ d ∈ ds, PyData.eqv d d = true) → eqAll ds ds = true
  | [], _ => rfl
  | d :: ds, h => by
    show (PyData.eqv d d && eqAll ds ds) = true
    rw [h d (List.mem_cons_self ..), eqAll_refl ds fun e he => h e (List.mem_cons_of_mem _ he)]
    rfl
theorem eqAll_set : ∀ (ds : List PyData) (i : Nat) (d e : PyData), (∀ d ∈ ds, PyData.eqv d d = true) → ds[i]? = some d → eqAll ds (ds.set i e) = PyData.eqv d e
  | [], _, _, _, _, h => nomatch h
  | x :: ds, 0, d, e, h, hi => by
    cases hi
    show (PyData.eqv x e && eqAll ds ds) = _
    rw [eqAll_refl ds fun e he => h e (List.mem_cons_of_mem _ he), Bool.and_true]
  | x :: ds, i + 1, d, e, h, hi => by
    show (PyData.eqv x x && eqAll ds (ds.set i e)) = _
    rw [h x (List.mem_cons_self ..), Bool.true_and]
    exact eqAll_set ds i d e (fun e he => h e (List.mem_cons_of_mem _ he)) hi
theorem sm_refl {n : Nat} {d : PyData} (h : smN n d = true) : PyData.eqv d d = true := SeqAt.eqv_refl d (sm_lay n d h).1
theorem dpSet {K : PySem.W.Frag} {H : Hp} : ∀ {xs : List V} {ds : List PyData} (i : Nat) {y : V} {e : PyData}, DpAll K H xs ds → Dp K H y e → DpAll K H (xs.set i y) (ds.set i e)
  | _, _, _, _, _, .nil, _ => .nil
  | _, _, 0, _, _, .cons _ h, hy => .cons hy h
  | _, _, i + 1, _, _, .cons h1 h2, hy => .cons h1 (dpSet i h2 hy)
theorem list_sh {n : Nat} {ds : List PyData} (h : ∀ d ∈ ds, smN n d = true) (l : n ≤ 40) : SeqAt.shaped (.list ds) = true := by
  obtain ⟨h1, h2⟩ := sm_all (n + 1) ds fun d hd => sm_lay n d (h d hd)
  refine Bool.and_eq_true_iff.mpr ⟨by rw [PyData.canLay0]; exact h1, decide_eq_true (by rw [PyData.depth]; omega)⟩
theorem list_refl {n : Nat} {ds : List PyData} (h : ∀ d ∈ ds, smN n d = true) : PyData.eqv (.list ds) (.list ds) = true := by
  obtain ⟨h1, h2⟩ := sm_all (n + 1) ds fun d hd => sm_lay n d (h d hd)
  exact SeqAt.eqv_refl _ (by rw [PyData.canLay0]; exact h1)
theorem cut_take (xs : List V) (i : Nat) : cutV xs none (some (i : Int)) = xs.take i := by
  unfold cutV
  rw [HT.sIx_none, show HT.sIx xs.length xs.length (some (i : Int)) = min i xs.length from HT.sIx_nat _ _ i]
  simp
theorem cut_drop (xs : List V) (i : Nat) : cutV xs (some (i : Int)) none = xs.drop i := by
  unfold cutV
  rw [HT.sIx_none, show HT.sIx xs.length 0 (some (i : Int)) = min i xs.length from HT.sIx_nat _ _ i]
  by_cases h : i ≤ xs.length
  · rw [Nat.min_eq_left h, List.take_of_length_le (by rw [List.length_drop]; omega)]
  · rw [Nat.min_eq_right (by omega), List.drop_eq_nil_of_le (Nat.le_refl _), List.drop_eq_nil_of_le (by omega)]
    exact List.take_nil
theorem cut_mid (xs : List V) (i : Nat) (u : V) (h : i < xs.length) : (cutV xs none (some (i : Int)) ++ [u]) ++ cutV xs (some ((i : Int) + 1)) none = xs.set i u := by
  rw [cut_take, show ((i : Int) + 1) = ((i + 1 : Nat) : Int) by omega, cut_drop, List.set_eq_take_append_cons_drop, if_pos h, List.append_assoc]
  rfl
section
variable {P : Program} {w : World} {K : PySem.W.Frag} {mg : Str → Option Value} {base : Heap} {C fI fE : Addr}
def spRight : Sp := fun vs H Q _ => ∃ a : Addr, vs = [.ref a] ∧ Well H a 0 ∧ ∀ H', Keep a H H' → Q (.bl true) H'
theorem scR : FnScope ["well", "one", "other", "grid", "at", "mixed", "plain"] ["well"] (defScope (top 84)) := ⟨rfl, rfl, rfl, by decide +kernel, rfl, by decide +kernel, by decide +kernel⟩
theorem ok_right {f f1 f2 f3 fG : Addr} {fd d1 d2 d3 dG dE : FuncData} {ds0 ds2 : List Value} {dfl : List V} (F : FnP K "_law_right" (top 84) f fd) (N : Nm mg) (T : TG K mg "Grid" C fI fE) (hno : PySem.W.notFirst K C (.type "list") = true)
    (d__law_values : D1 P w K mg base "_law_values" "well" 6 (spVl K) f1 d1) (d__law_parts : D1 P w K mg base "_law_parts" "grid" 1 (spPt K C) f2 d2) (d__law_made : D1 P w K mg base "_law_made" "v" 17 (spMd K C) f3 d3)
    (d_Grid : DG P w K mg base C fG dG) (b0 : Binds K dG ("self" :: fnames) ds0) (v0 : Vals dfl ds0) (b2 : Binds K dG ("self" :: fnames) ds2) (v2 : Vals (dfl.drop 2) ds2) (dd : ∀ H, DpAll K H dfl grD.ds) (eG : DE P w K mg base (spGE K C) fE dE) :
    FnOk P w K mg base CX0 18 f fd ["well"] spRight := by
  refine F.ok scR (fun vs H Q E h => ?_) (fun cdv A outer s H vs Q E hr h => ?_)
  · obtain ⟨a, rfl, _⟩ := h
    rfl
  · obtain ⟨a, rfl, hw, k⟩ := h
    refine ⟨_, PSs.nox (pss_cons (ps_par (i := 1) (j := 2) rfl scR.nd rfl rfl (by decide) (by rfl) (by rfl) (pa_cons (pe_call d__law_values.G (hr.mono (by decide)) (by rfl) d__law_values.g d__law_values.kp d__law_values.b .nil pass0 (pa_cons (pv 0) pa_nil)) (pa_cons (pe_call d__law_values.G (hr.mono (by decide)) (by rfl) d__law_values.g d__law_values.kp d__law_values.b .nil pass0 (pa_cons (pv 0) pa_nil)) pa_nil)) (by rfl))
  (pss_cons (ps_set (i := 3) scR.nd rfl (Or.inl rfl) (pe_call d__law_made.G (hr.mono (by decide)) (by rfl) d__law_made.g d__law_made.kp d__law_made.b .nil pass0 (pa_cons (pv 1) pa_nil)))
  (pss_cons (ps_if (PW.pt (pw_or (pt_cmpR (op_neD hr.units) (pe_call d__law_parts.G (hr.mono (by decide)) (by rfl) d__law_parts.g d__law_parts.kp d__law_parts.b .nil pass0 (pa_cons (pv 3) pa_nil)) (pv 1) (nomark _)) (pw_or (pt_cmpR op_notIn_seq (pe_fld (pv 3) rfl) (pe_tup (pa_cons pe_bl (pa_cons pe_bl pa_nil))) (by rfl)) (pw_or1 (pt_cmpR (op_neOwn eG.G T.eqf T.eqi T.nef T.mro eG.b pass0 (hr.mono (by decide))) (pv 3) (pe_call d__law_made.G (hr.mono (by decide)) (by rfl) d__law_made.g d__law_made.kp d__law_made.b .nil pass0 (pa_cons (pe_callTy call_list_of (by rfl) N.tlst (by decide +kernel) (pa_cons (pv 1) pa_nil)) pa_nil)) (nomark _))))))
    (pss_one (ps_ret pe_bl))
    pss_nil)
  (pss_cons (ps_for PassesOwn.never rfl (pi_range1 rfl N.rng (pa_cons pe_int pa_nil))
    (pg_name (i := 4) scR.nd rfl (Or.inl rfl))
    (pss_cons (ps_set (i := 5) scR.nd rfl (Or.inl rfl) (pe_op op_catS (pe_op op_catS (pe_slice sl_list (pv 1) po_none (po_some (pv 4))) (pe_lst (pa_cons (pe_ix ix_list (pv 2) (pv 4) (fun _ _ => rfl)) pa_nil))) (pe_slice sl_list (pv 1) (po_some (pe_op op_add (pv 4) pe_int)) po_none)))
  (pss_one (ps_if (PW.pt (pw_or (pt_cmpR op_ne (pe_cmpR (op_eqOwn eG.G T.eqf T.eqi eG.b pass0 (hr.mono (by decide))) (pv 3) (pe_call d__law_made.G (hr.mono (by decide)) (by rfl) d__law_made.g d__law_made.kp d__law_made.b .nil pass0 (pa_cons (pv 5) pa_nil)) (nomark _)) (pe_cmpR (op_eqD hr.units) (pe_ix ix_list (pv 1) (pv 4) (fun _ _ => rfl)) (pe_ix ix_list (pv 2) (pv 4) (fun _ _ => rfl)) (nomark _)) (nomark _)) (pw_or1 (pt_cmpR (op_eqOwn eG.G T.eqf T.eqi eG.b pass0 (hr.mono (by decide))) (pv 3) (pv 5) (nomark _)))))
    (pss_one (ps_ret pe_bl))
    pss_nil))))
  (pss_cons (ps_set (i := 6) scR.nd rfl (Or.inl rfl) (pe_op op_rep (pe_lst (pa_cons pe_str pa_nil)) pe_int))
  (pss_cons (ps_if (pt_cmpR (op_neD hr.units) (pe_call d__law_parts.G (hr.mono (by decide)) (by rfl) d__law_parts.g d__law_parts.kp d__law_parts.b .nil pass0 (pa_cons (pe_make0 d_Grid.M d_Grid.G (hr.mono (by decide)) (by rfl) d_Grid.gC b0 v0 pass0) pa_nil)) (pe_op op_catS (pe_lst (pa_cons (pe_tup pa_nil) (pa_cons (pe_tup pa_nil) (pa_cons (pe_tup pa_nil) (pa_cons (pe_tup (pa_cons pe_str pa_nil)) (pa_cons (pe_tup (pa_cons pe_str pa_nil)) (pa_cons pe_str (pa_cons pe_bl (pa_cons pe_int (pa_cons pe_int pa_nil)))))))))) (pv 6)) (nomark _))
    (pss_one (ps_ret pe_bl))
    pss_nil)
  (pss_one (ps_ret (pe_cmpR (op_eqD hr.units) (pe_call d__law_parts.G (hr.mono (by decide)) (by rfl) d__law_parts.g d__law_parts.kp d__law_parts.b .nil pass0 (pa_cons (pe_make d_Grid.M d_Grid.G (hr.mono (by decide)) (by rfl) d_Grid.gC b2 v2 pass0 (pa_cons (pe_ix ix_list (pv 1) pe_int (fun _ _ => rfl)) (pa_cons (pe_ix ix_list (pv 1) pe_int (fun _ _ => rfl)) pa_nil))) pa_nil)) (pe_op op_catS (pe_slice sl_list (pv 1) po_none (po_some pe_int)) (pe_slice sl_list (pe_call d__law_parts.G (hr.mono (by decide)) (by rfl) d__law_parts.g d__law_parts.kp d__law_parts.b .nil pass0 (pa_cons (pe_make0 d_Grid.M d_Grid.G (hr.mono (by decide)) (by rfl) d_Grid.gC b0 v0 pass0) pa_nil)) (po_some pe_int) po_none)) (nomark _)))))))))), ?_⟩
    refine ⟨_, rfl, a, 0, rfl, hw, by decide, fun p1 xs g H1 k1 w1 n1 na1 hp1 hx1 ok1 sm1 => ?_⟩
    refine ⟨_, rfl, a, _, rfl, w1, by decide, fun p2 ys h H2 k2 w2 n2 na2 hp2 hx2 ok2 sm2 => ⟨_, _, rfl, ?_⟩⟩
    have hx1 := dpKall (fun d v => dpK k2 w1.lst.choose_spec 20 d v) _ _ sm1 hx1
    have hp1 := k2 _ _ na1 hp1
    have kk := k1.trans k2
    clear k1 k2 w1 w2 n2 n1 hw
    have sh1 : SeqAt.shaped (.list g.ds) = true := list_sh sm1 (by decide)
    have rf1 : PyData.eqv (.list g.ds) (.list g.ds) = true := list_refl sm1
    have ref1 : ∀ d ∈ g.ds, PyData.eqv d d = true := fun d hd => sm_refl (sm1 d hd)
    have gds : g.ds = [g.c, g.r, fldD g.z g.rows, .tuple g.mc, .tuple g.mr, .str g.fl, .bool g.de, g.cg, g.rg, .str g.j, .str g.al, .str g.ij, .str g.ia] := rfl
    have d0 := dd H
    have hxx := hx1
    rw [gds] at hxx
    cases d0 with
    | @cons f0 fs _ _ q0 d0 =>
      cases d0 with
      | @cons f1 fs _ _ q1 d0 =>
        cases d0 with
        | @cons f2 fs _ _ q2 d0 =>
          cases d0 with
          | @cons f3 fs _ _ q3 d0 =>
            cases d0 with
            | @cons f4 fs _ _ q4 d0 =>
              cases d0 with
              | @cons f5 fs _ _ q5 d0 =>
                cases d0 with
                | @cons f6 fs _ _ q6 d0 =>
                  cases d0 with
                  | @cons f7 fs _ _ q7 d0 =>
                    cases d0 with
                    | @cons f8 fs _ _ q8 d0 =>
                      cases d0 with
                      | @cons f9 fs _ _ q9 d0 =>
                        cases d0 with
                        | @cons f10 fs _ _ q10 d0 =>
                          cases d0 with
                          | @cons f11 fs _ _ q11 d0 =>
                            cases d0 with
                            | @cons f12 fs _ _ q12 d0 =>
                              cases d0
                              cases hxx with
                              | @cons v0 xs _ _ h0 hxx =>
                                cases hxx with
                                | @cons v1 xs _ _ h1 hxx =>
                                  cases hxx with
                                  | @cons v2 xs _ _ h2 hxx =>
                                    cases hxx with
                                    | @cons v3 xs _ _ h3 hxx =>
                                      cases hxx with
                                      | @cons v4 xs _ _ h4 hxx =>
                                        cases hxx with
                                        | @cons v5 xs _ _ h5 hxx =>
                                          cases hxx with
                                          | @cons v6 xs _ _ h6 hxx =>
                                            cases hxx with
                                            | @cons v7 xs _ _ h7 hxx =>
                                              cases hxx with
                                              | @cons v8 xs _ _ h8 hxx =>
                                                cases hxx with
                                                | @cons v9 xs _ _ h9 hxx =>
                                                  cases hxx with
                                                  | @cons v10 xs _ _ h10 hxx =>
                                                    cases hxx with
                                                    | @cons v11 xs _ _ h11 hxx =>
                                                      cases hxx with
                                                      | @cons v12 xs _ _ h12 hxx =>
                                                        cases hxx
                                                        cases h6
                                                        generalize hXS : ([v0, v1, v2, v3, v4, v5, .bl g.de, v7, v8, v9, v10, v11, v12] : List V) = XS at *
                                                        -- grid
                                                        refine ⟨_, rfl, p1, XS, g, rfl, hp1, hx1, ok1, sm1, fun x H3 nx s3 ga => ?_⟩
                                                        -- its parts
                                                        refine ⟨_, rfl, x, XS, g.ds, rfl, ga, fun q H4 s4 nq hq => ?_⟩
                                                        have s24 := s3.trans s4
                                                        refine ⟨_, rfl, .list g.ds, .list g.ds, .lst (SqL.of hq) (dpSA s24 hx1), .lst (SqL.of (s24 _ _ hp1)) (dpSA s24 hx1), sh1, sh1, _, rfl, ite2 (fun c => absurd c (by rw [rf1]; decide)) (fun _ => ?_)⟩
                                                        have ga := ga.same s4
                                                        obtain ⟨dx, h1⟩ := id ga.1
                                                        have hde : (fnames.zip XS).lookup ("dense" : Str) = some (V.bl g.de) := by rw [← hXS]; rfl
                                                        refine ⟨_, rfl, x, C, dx, _, _, rfl, h1, T.cl, T.na "dense" (by decide), hde, (by show 2 ≤ sizeLine; decide), fun t nt => ?_⟩
                                                        have st := same_upd (o := .tup [.bl true, .bl false]) nt
                                                        have s5 := s24.trans st
                                                        refine ⟨t, [.bl true, .bl false], rfl, .inr (SqT.of upd_same), rfl, rfl, _, rfl, ite2 (fun c => ?_) (fun _ => ?_)⟩
                                                        · exact absurd c (by cases g.de <;> decide)
                                                        -- made anew
                                                        have ga := ga.same st
                                                        have h1 := st _ _ h1
                                                        refine ⟨_, rfl, _, rfl, p1, XS, rfl, .inl (SqL.of (s5 _ _ hp1)), fun l nl => ?_⟩
                                                        have sl := same_upd (o := .lst XS) nl
                                                        have s6 := s5.trans sl
                                                        refine ⟨l, XS, g, rfl, upd_same, dpSA s6 hx1, ok1, sm1, fun x2 H5 nx2 s7 ga2 => ?_⟩
                                                        have s8 := sl.trans s7
                                                        have ga := ga.same s8
                                                        obtain ⟨dx2, h2⟩ := id ga2.1
                                                        refine ⟨x, dx, _, .ref C, rfl, s8 _ _ h1, T.ty h2, T.nf, x, .ref x2, XS, g.ds, rfl, ga, .inl ⟨x2, XS, g.ds, rfl, ga2, _, rfl, _, rfl, ite2 (fun c => absurd c (by rw [eqAll_refl _ ref1]; decide)) (fun _ => ?_)⟩⟩
                                                        have s9 := s6.trans s7
                                                        have h1 := s8 _ _ h1
                                                        clear s3 s4 s24 st s5 sl s6 s7 s8 ga2 h2 nx2 nl nt nq hq nx
                                                        have lXS : XS.length = 13 := by rw [← hXS]; rfl
                                                        have lys : ys.length = 13 := by rw [dpLen hx2]; rfl
                                                        refine ⟨13, rfl, by decide, by decide, for_range (n := 13) (fun i σ H' => Same H5 H' ∧ ∃ v4 v5 v6, σ = [some (.ref a), some (.ref p1), some (.ref p2), some (.ref x), v4, v5, v6]) ⟨Same.refl _, _, _, _, rfl⟩ ?_ ?_⟩
                                                        · rintro i σ H6 hi ⟨s10, v4, v5, v6, rfl⟩
                                                          have s11 := s9.trans s10
                                                          have hp1 := s11 _ _ hp1
                                                          have hp2 := s11 _ _ hp2
                                                          have hx1 := dpSA s11 hx1
                                                          have hx2 := dpSA s11 hx2
                                                          have ga := ga.same s10
                                                          have h1 := s10 _ _ h1
                                                          have eu1 : XS[i]? = some (XS[i]'(by omega)) := List.getElem?_eq_getElem _
                                                          have eu2 : ys[i]? = some (ys[i]'(by omega)) := List.getElem?_eq_getElem _
                                                          generalize XS[i]'(by omega) = u1 at eu1
                                                          generalize ys[i]'(by omega) = u2 at eu2
                                                          have ed1 : g.ds[i]? = some (g.ds[i]'hi) := List.getElem?_eq_getElem _
                                                          have ed2 : h.ds[i]? = some (h.ds[i]'hi) := List.getElem?_eq_getElem _
                                                          have md1 : g.ds[i]'hi ∈ g.ds := List.getElem_mem _
                                                          have md2 : h.ds[i]'hi ∈ h.ds := List.getElem_mem _
                                                          generalize g.ds[i]'hi = e1 at ed1 md1
                                                          generalize h.ds[i]'hi = e2 at ed2 md2
                                                          obtain ⟨u, eu, hu1⟩ := dpAt i hx1 ed1
                                                          rw [eu1] at eu
                                                          cases eu
                                                          obtain ⟨u, eu, hu2⟩ := dpAt i hx2 ed2
                                                          rw [eu2] at eu
                                                          cases eu
                                                          have i0 : (0 : Int) + (i : Int) = (i : Int) := Int.zero_add _
                                                          refine ⟨_, rfl, _, rfl, _, rfl, p1, XS, rfl, SqL.of hp1, fun b1 nb1 => ?_⟩
                                                          have t1 := same_upd (o := .lst (cutV XS none (some (0 + (i : Int))))) nb1
                                                          refine ⟨_, rfl, _, rfl, p2, _, _, u2, rfl, rfl, SqL.of (t1 _ _ hp2), by rw [i0]; exact atI_nat eu2, (by show 1 ≤ sizeLine; decide), fun b2 nb2 => ?_⟩
                                                          have t2 := same_upd (o := .lst [u2]) nb2
                                                          refine ⟨b1, b2, _, _, rfl, rfl, SqL.of (t2 _ _ upd_same), SqL.of upd_same, ?_, fun b3 nb3 => ?_⟩
                                                          · rw [i0, cut_take, List.length_take]
                                                            exact Nat.le_trans (m := 1000) (by show _ + 1 ≤ 1000; omega) (by decide)
                                                          have t3 := same_upd (o := .lst (cutV XS none (some (0 + (i : Int))) ++ [u2])) nb3
                                                          have t13 := (t1.trans t2).trans t3
                                                          refine ⟨_, rfl, _, rfl, _, _, rfl, rfl, _, rfl, p1, XS, rfl, SqL.of (t13 _ _ hp1), fun b4 nb4 => ?_⟩
                                                          have t4 := same_upd (o := .lst (cutV XS (some (0 + (i : Int) + 1)) none)) nb4
                                                          refine ⟨b3, b4, _, _, rfl, rfl, SqL.of (t4 _ _ upd_same), SqL.of upd_same, ?_, fun m nm => ?_⟩
                                                          · rw [List.length_append, List.length_singleton]
                                                            have l1 := cutV_length XS none (some (0 + (i : Int)))
                                                            have l2 := cutV_length XS (some (0 + (i : Int) + 1)) none
                                                            exact Nat.le_trans (m := 1000) (by omega) (by decide)
                                                          have em : (cutV XS none (some (0 + (i : Int))) ++ [u2]) ++ cutV XS (some (0 + (i : Int) + 1)) none = XS.set i u2 := by
                                                            rw [i0]
                                                            exact cut_mid XS i u2 (by omega)
                                                          have t5 := same_upd (o := .lst ((cutV XS none (some (0 + (i : Int))) ++ [u2]) ++ cutV XS (some (0 + (i : Int) + 1)) none)) nm
                                                          have hm := (lstNew (xs := (cutV XS none (some (0 + (i : Int))) ++ [u2]) ++ cutV XS (some (0 + (i : Int) + 1)) none) nm).trans (congrArg (fun l => some (HO.lst l)) em)
                                                          have t15 := (t13.trans t4).trans t5
                                                          have mg : (mix g h i).ds = g.ds.set i e2 := mix_ds i e2 hi ed2
                                                          have hxm := dpSet i (dpSA t15 hx1) (dpS t15 hu2)
                                                          rw [← mg] at hxm
                                                          have smm : AllSm (mix g h i).ds := by
                                                            rw [mg]
                                                            intro d hd
                                                            rcases List.mem_or_eq_of_mem_set hd with q | q
                                                            · exact sm1 d q
                                                            · rw [q]
                                                              exact sm2 e2 md2
                                                          refine ⟨_, rfl, _, rfl, m, XS.set i u2, mix g h i, rfl, hm, hxm, mix_ok ok1 ok2 i, smm, fun y H7 ny s13 gy => ?_⟩
                                                          obtain ⟨dy, hy⟩ := id gy.1
                                                          have t17 := t15.trans s13
                                                          refine ⟨x, dx, _, .ref C, rfl, t17 _ _ h1, T.ty hy, T.nf, x, .ref y, XS, g.ds, rfl, ga.same t17, .inl ⟨y, XS.set i u2, (mix g h i).ds, rfl, gy, _, rfl, ?_⟩⟩
                                                          have z1 := sm1 e1 md1
                                                          have z2 := sm2 e2 md2
                                                          refine ⟨_, rfl, _, rfl, p1, _, _, u1, rfl, rfl, SqL.of (t17 _ _ hp1), by rw [i0]; exact atI_nat eu1, _, rfl, _, rfl, p2, _, _, u2, rfl, rfl, SqL.of (t17 _ _ hp2), by rw [i0]; exact atI_nat eu2, e1, e2, dpS t17 hu1, dpS t17 hu2, sm_sh z1 (by decide), sm_sh z2 (by decide), rfl, _, rfl, ite2 (fun c => ?_) (fun _ => ?_)⟩
                                                          · exfalso
                                                            rw [mg, eqAll_set g.ds i e1 e2 ref1 ed1] at c
                                                            revert c
                                                            cases PyData.eqv e1 e2 <;> decide
                                                          refine ⟨_, rfl, _, rfl, x, dx, _, .type "list", rfl, t17 _ _ h1, tyL (SqL.of (s13 _ _ hm)), hno, x, .ref m, XS, g.ds, rfl, ga.same t17, .inr ⟨tyL (SqL.of (s13 _ _ hm)), false, rfl, false, rfl, iteF ⟨s10.trans t17, _, _, _, rfl⟩⟩⟩
                                                        rintro σ H6 ⟨s10, v4, v5, v6, rfl⟩
                                                        have s11 := s9.trans s10
                                                        have hp1 := s11 _ _ hp1
                                                        have hx1 := dpSA s11 hx1
                                                        have kk := kk.trans (Keep.of s11)
                                                        clear s9 s10 s11
                                                        -- plain
                                                        refine ⟨(by show 1 ≤ sizeLine; decide), fun l nl => ⟨l, 4, [.str "stretch"], rfl, rfl, upd_same, by decide, by decide, by decide, fun p np => ?_⟩⟩
                                                        have s1 := same_upd (o := .lst [.str "stretch"]) nl
                                                        have e4 : ((List.replicate (4 : Int).toNat [V.str "stretch"]).flatten) = [.str "stretch", .str "stretch", .str "stretch", .str "stretch"] := rfl
                                                        have hpl := lstNew (xs := ((List.replicate (4 : Int).toNat [V.str "stretch"]).flatten)) np
                                                        have s2 := same_upd (o := .lst ((List.replicate (4 : Int).toNat [V.str "stretch"]).flatten)) np
                                                        have s12 := s1.trans s2
                                                        have hp1 := s12 _ _ hp1
                                                        have hx1 := dpSA s12 hx1
                                                        have kk := kk.trans (Keep.of s12)
                                                        have shD : SeqAt.shaped (.list grD.ds) = true := list_sh grD_sm (by decide)
                                                        have rfD : PyData.eqv (.list grD.ds) (.list grD.ds) = true := list_refl grD_sm
                                                        clear s1 s2 s12
                                                        generalize upd (upd H6 l (.lst [.str "stretch"])) p (.lst ((List.replicate (4 : Int).toNat [V.str "stretch"]).flatten)) = G at hpl hp1 hx1 kk ⊢
                                                        rw [e4] at hpl
                                                        refine fun x3 dx3 nx3 ndx3 ne3 => ⟨x3, dx3, [f0, f1, f2, f3, f4, f5, f6, f7, f8, f9, f10, f11, f12], grD, rfl, upd_same, dd _, grD_ok, fun H7 kp e => ⟨rfl, ?_⟩⟩
                                                        obtain ⟨s3, g3⟩ := grid_new nx3 ndx3 ne3 (dd _) grD_sm kp e
                                                        refine ⟨x3, _, _, rfl, g3, fun q H8 s4 nq hq => ?_⟩
                                                        have s34 := s3.trans s4
                                                        -- what is due
                                                        refine ⟨(by show 0 ≤ sizeLine; decide), fun t1 m1 => ⟨(by show 0 ≤ sizeLine; decide), fun t2 m2 => ⟨(by show 0 ≤ sizeLine; decide), fun t3 m3 => ⟨(by show 1 ≤ sizeLine; decide), fun t4 m4 => ⟨(by show 1 ≤ sizeLine; decide), fun t5 m5 => ⟨(by show 9 ≤ sizeLine; decide), fun l9 m9 => ?_⟩⟩⟩⟩⟩⟩
                                                        have a1 := same_upd (o := .tup []) m1
                                                        have a2 := same_upd (o := .tup []) m2
                                                        have a3 := same_upd (o := .tup []) m3
                                                        have a4 := same_upd (o := .tup [.str "auto"]) m4
                                                        have a5 := same_upd (o := .tup [.str "auto"]) m5
                                                        have a6 := same_upd (o := .lst [.ref t1, .ref t2, .ref t3, .ref t4, .ref t5, .str "row", .bl false, .int 0, .int 0]) m9
                                                        have c1 := dpS a6 (dpS a5 (dpS a4 (dpS a3 (dpS a2 (tupNew (K := K) (xs := []) (ds := []) m1 .nil)))))
                                                        have c2 := dpS a6 (dpS a5 (dpS a4 (dpS a3 (tupNew (K := K) (xs := []) (ds := []) m2 .nil))))
                                                        have c3 := dpS a6 (dpS a5 (dpS a4 (tupNew (K := K) (xs := []) (ds := []) m3 .nil)))
                                                        have c4 := dpS a6 (dpS a5 (tupNew (K := K) (xs := [.str "auto"]) (ds := [.str "auto"]) m4 (.cons (.str _) .nil)))
                                                        have c5 := dpS a6 (tupNew (K := K) (xs := [.str "auto"]) (ds := [.str "auto"]) m5 (.cons (.str _) .nil))
                                                        have s5 := ((((s34.trans a1).trans a2).trans a3).trans a4).trans a5
                                                        have s6 := s5.trans a6
                                                        have hl9 := lstNew (xs := [.ref t1, .ref t2, .ref t3, .ref t4, .ref t5, .str "row", .bl false, .int 0, .int 0]) m9
                                                        refine ⟨_, rfl, l9, p, _, _, rfl, rfl, SqL.of hl9, SqL.of (s6 _ _ hpl), (by show 13 ≤ sizeLine; decide), fun d9 n9 => ?_⟩
                                                        have a7 := same_upd (o := .lst ([.ref t1, .ref t2, .ref t3, .ref t4, .ref t5, .str "row", .bl false, .int 0, .int 0] ++ [.str "stretch", .str "stretch", .str "stretch", .str "stretch"])) n9
                                                        have s7 := s6.trans a7
                                                        have s47 := (((((a1.trans a2).trans a3).trans a4).trans a5).trans a6).trans a7
                                                        have hdue := lstNew (xs := [.ref t1, .ref t2, .ref t3, .ref t4, .ref t5, .str "row", .bl false, .int 0, .int 0] ++ [.str "stretch", .str "stretch", .str "stretch", .str "stretch"]) n9
                                                        have adue : DpAll K _ ([.ref t1, .ref t2, .ref t3, .ref t4, .ref t5, .str "row", .bl false, .int 0, .int 0] ++ [.str "stretch", .str "stretch", .str "stretch", .str "stretch"]) grD.ds :=
                                                          .cons (dpS a7 c1) (.cons (dpS a7 c2) (.cons (dpS a7 c3) (.cons (dpS a7 c4) (.cons (dpS a7 c5) (.cons (.str _) (.cons (.bl _) (.cons (.int _) (.cons (.int _) (.cons (.str _) (.cons (.str _) (.cons (.str _) (.cons (.str _) .nil))))))))))))
                                                        refine ⟨.list grD.ds, .list grD.ds, .lst (SqL.of (s47 _ _ hq)) (dd _), .lst (SqL.of hdue) adue, shD, shD, _, rfl, ite2 (fun c => absurd c (by rw [rfD]; decide)) (fun _ => ?_)⟩
                                                        have hp1 := s7 _ _ hp1
                                                        have hx1 := dpSA s7 hx1
                                                        have kk := kk.trans (Keep.of s7)
                                                        clear s3 s34 s4 s5 s6 s7 s47 a1 a2 a3 a4 a5 a6 a7 c1 c2 c3 c4 c5 hl9 hdue adue hpl g3 e kp
                                                        -- two parts told
                                                        obtain ⟨w0, eu0, hv0⟩ := dpAt 0 hx1 (show g.ds[0]? = some g.c from rfl)
                                                        obtain ⟨w1, eu1, hv1⟩ := dpAt 1 hx1 (show g.ds[1]? = some g.r from rfl)
                                                        have mem2 : ∀ {d : PyData} {g' : Gr}, g' = { grD with c := g.c, r := g.r } → d ∈ g'.ds → smN 20 d = true := fun {d g'} e hd => by
                                                          subst e
                                                          have hd : d ∈ g.c :: g.r :: grD.ds.drop 2 := hd
                                                          rcases List.mem_cons.mp hd with q | hd
                                                          · rw [q]
                                                            exact sm1 g.c (List.mem_cons_self ..)
                                                          · rcases List.mem_cons.mp hd with q | hd
                                                            · rw [q]
                                                              exact sm1 g.r (List.mem_cons_of_mem _ (List.mem_cons_self ..))
                                                            · exact grD_sm d (List.mem_of_mem_drop hd)
                                                        have okB2 : OkGr { grD with c := g.c, r := g.r } := { grD_ok with c1 := ok1.c1, c2 := ok1.c2, r1 := ok1.r1, r2 := ok1.r2 }
                                                        have tail : ∀ G : Hp, DpAll K G [f2, f3, f4, f5, f6, f7, f8, f9, f10, f11, f12] (grD.ds.drop 2) := fun G => by
                                                          cases dd G with
                                                          | cons _ r =>
                                                            cases r with
                                                            | cons _ r => exact r
                                                        have dB : ∀ {G : Hp}, Dp K G w0 g.c → Dp K G w1 g.r → DpAll K G (w0 :: w1 :: [f2, f3, f4, f5, f6, f7, f8, f9, f10, f11, f12]) (Gr.ds { grD with c := g.c, r := g.r }) := fun {G} a b => .cons a (.cons b (tail G))
                                                        generalize hgB : ({ grD with c := g.c, r := g.r } : Gr) = gB at okB2 dB
                                                        have smB : AllSm gB.ds := fun d hd => mem2 hgB.symm hd
                                                        refine ⟨_, rfl, p1, _, _, w0, rfl, rfl, SqL.of hp1, atI_nat (j := 0) eu0, _, rfl, p1, _, _, w1, rfl, rfl, SqL.of hp1, atI_nat (j := 1) eu1, fun x4 dx4 nx4 ndx4 ne4 => ?_⟩
                                                        have s0 := same_mk (C := C) nx4 ndx4
                                                        refine ⟨x4, dx4, w0 :: w1 :: [f2, f3, f4, f5, f6, f7, f8, f9, f10, f11, f12], gB, rfl, upd_same, dB (dpS s0 hv0) (dpS s0 hv1), okB2, fun H9 kp e => ⟨rfl, ?_⟩⟩
                                                        obtain ⟨s1, g4⟩ := grid_new nx4 ndx4 ne4 (dB hv0 hv1) smB kp e
                                                        refine ⟨x4, _, _, rfl, g4, fun q4 H10 s2 nq4 hq4 => ?_⟩
                                                        have s12 := s1.trans s2
                                                        refine ⟨_, rfl, 2, rfl, p1, XS, rfl, SqL.of (s12 _ _ hp1), fun b1 nb1 => ?_⟩
                                                        have hb1 := lstNew (xs := cutV XS none (some 2)) nb1
                                                        have t1 := same_upd (o := .lst (cutV XS none (some 2))) nb1
                                                        refine fun x5 dx5 nx5 ndx5 ne5 => ⟨x5, dx5, [f0, f1, f2, f3, f4, f5, f6, f7, f8, f9, f10, f11, f12], grD, rfl, upd_same, dd _, grD_ok, fun H11 kp e => ⟨rfl, ?_⟩⟩
                                                        obtain ⟨s3, g5⟩ := grid_new nx5 ndx5 ne5 (dd _) grD_sm kp e
                                                        refine ⟨x5, _, _, rfl, g5, fun q5 H12 s4 nq5 hq5 => ⟨2, rfl, q5, _, rfl, SqL.of hq5, fun b2 nb2 => ?_⟩⟩
                                                        have t2 := same_upd (o := .lst (cutV [f0, f1, f2, f3, f4, f5, f6, f7, f8, f9, f10, f11, f12] (some 2) none)) nb2
                                                        have s34 := (s3.trans s4).trans t2
                                                        refine ⟨b1, b2, _, _, rfl, rfl, SqL.of (s34 _ _ hb1), SqL.of upd_same, ?_, fun b3 nb3 => ?_⟩
                                                        · have l1 := cutV_length XS none (some 2)
                                                          have l2 := cutV_length [f0, f1, f2, f3, f4, f5, f6, f7, f8, f9, f10, f11, f12] (some 2) none
                                                          have l3 : [f0, f1, f2, f3, f4, f5, f6, f7, f8, f9, f10, f11, f12].length = 13 := rfl
                                                          exact Nat.le_trans (m := 1000) (by omega) (by decide)
                                                        have t3 := same_upd (o := .lst (cutV XS none (some 2) ++ cutV [f0, f1, f2, f3, f4, f5, f6, f7, f8, f9, f10, f11, f12] (some 2) none)) nb3
                                                        have ecut : cutV XS none (some 2) ++ cutV [f0, f1, f2, f3, f4, f5, f6, f7, f8, f9, f10, f11, f12] (some 2) none = w0 :: w1 :: [f2, f3, f4, f5, f6, f7, f8, f9, f10, f11, f12] := by
                                                          have e1 : cutV XS none (some 2) = [w0, w1] := by
                                                            show cutV XS none (some ((2 : Nat) : Int)) = _
                                                            rw [cut_take]
                                                            rw [← hXS] at eu0 eu1
                                                            cases eu0
                                                            cases eu1
                                                            rw [← hXS]
                                                            rfl
                                                          have e2 : cutV [f0, f1, f2, f3, f4, f5, f6, f7, f8, f9, f10, f11, f12] (some 2) none = [f2, f3, f4, f5, f6, f7, f8, f9, f10, f11, f12] := by
                                                            show cutV [f0, f1, f2, f3, f4, f5, f6, f7, f8, f9, f10, f11, f12] (some ((2 : Nat) : Int)) none = _
                                                            rw [cut_drop]
                                                            rfl
                                                          rw [e1, e2]
                                                          rfl
                                                        have hb3 := (lstNew (xs := cutV XS none (some 2) ++ cutV [f0, f1, f2, f3, f4, f5, f6, f7, f8, f9, f10, f11, f12] (some 2) none) nb3).trans (congrArg (fun l => some (HO.lst l)) ecut)
                                                        have s5 := s12.trans t1
                                                        have s6 := s5.trans (s34.trans t3)
                                                        have fB : PyData.eqv (.list gB.ds) (.list gB.ds) = true := list_refl smB
                                                        have hB : SeqAt.shaped (.list gB.ds) = true := list_sh smB (by decide)
                                                        refine ⟨.list gB.ds, .list gB.ds, .lst (SqL.of ((t1.trans (s34.trans t3)) _ _ hq4)) (dB (dpS s6 hv0) (dpS s6 hv1)), .lst (SqL.of hb3) (dB (dpS s6 hv0) (dpS s6 hv1)), hB, hB, ?_⟩
                                                        have q := k _ (kk.trans (Keep.of s6))
                                                        rw [← fB] at q
                                                        exact q
end
end K5

set_option Elab.async false
set_option linter.all false
set_option maxRecDepth 100000
set_option maxHeartbeats 4000000
namespace K5
open PySem PySem.Spec PyProof.Rows L2
open K1 (FnP top Nm wm)
/-! ### the law -/
def spLaw (K : PySem.W.Frag) : Sp := fun vs H Q _ => ∃ (a : Addr) (ns : List Int), vs = [.ref a] ∧ SqL K H a (ns.map V.int) ∧ ns.length ≤ 63 ∧ ∀ H', Q (.bl true) H'
theorem cut5 {ns : List Int} {i : Nat} {y : V} (h : (cutV (ns.map V.int ++ [.int 0]) none (some 5))[i]? = some y) : i < 5 ∧ ∃ z, y = .int z := by
  unfold cutV at h
  rw [HT.sIx_none, show HT.sIx (ns.map V.int ++ [V.int 0]).length (ns.map V.int ++ [V.int 0]).length (some 5) = min 5 (ns.map V.int ++ [V.int 0]).length from HT.sIx_nat _ _ 5] at h
  have hi := (List.getElem?_eq_some_iff.mp h).1
  rw [List.length_take] at hi
  refine ⟨by omega, ?_⟩
  have hm := List.mem_of_getElem? h
  have hm2 := List.mem_of_mem_drop (List.mem_of_mem_take hm)
  rcases List.mem_append.mp hm2 with q | q
  · obtain ⟨z, _, rfl⟩ := List.mem_map.mp q
    exact ⟨z, rfl⟩
  · rw [List.mem_singleton] at q
    exact ⟨0, q⟩
section
variable {P : Program} {w : World} {K : PySem.W.Frag} {mg : Str → Option Value} {base : Heap}
theorem scLaw : FnScope ["script", "k", "cell", "well"] ["script"] (defScope (top 85)) := ⟨rfl, rfl, rfl, by decide +kernel, rfl, by decide +kernel, by decide +kernel⟩
theorem ok_law {f fR : Addr} {fd dR : FuncData} (F : FnP K "law" (top 85) f fd) (FR : FnP K "_law_right" (top 84) fR dR) (GR : FnOk P w K mg base CX0 18 fR dR ["well"] spRight) (gR : mg "_law_right" = some (.ref fR)) (hi : mg "int" = none) (he : mg "enumerate" = none) : FnOk P w K mg base CX0 19 f fd ["script"] (spLaw K) := by
  have bR : Binds K dR ["well"] [] := FR.bindsN fun _ _ _ _ _ _ us hl => match us, hl with | [_], _ => rfl
  refine F.ok scLaw (fun vs H Q E h => ?_) (fun cdv A outer s H vs Q E hr h => ?_)
  · obtain ⟨a, ns, rfl, _⟩ := h
    rfl
  · obtain ⟨a, ns, rfl, hS, hlen, k⟩ := h
    refine ⟨_, PSs.nox (pss_cons (ps_for PassesOwn.never rfl (pi_enum (by rfl) he (pa_cons (pe_slice sl_list (pe_op op_catS (pv 0) (pe_lst (pa_cons pe_int pa_nil))) po_none (po_some pe_int)) pa_nil))
        (pg_tup rfl (pgs_cons (pg_name (i := 1) scLaw.nd rfl (Or.inl rfl)) (pgs_cons (pg_name (i := 2) scLaw.nd rfl (Or.inl rfl)) pgs_nil)))
        (pss_cons (ps_set (i := 3) scLaw.nd rfl (Or.inl rfl) (pe_lst (pa_cons (pe_op op_mul (pv 2) (pe_callTy call_int1 (by rfl) hi (by decide +kernel) (pa_cons (pe_cmpR op_ge (pv 2) (pe_op op_pow pe_int pe_int) (nomark _)) pa_nil)))
            (pa_cons (pe_op op_add (pe_op op_modN (pe_callTy call_int1 (by rfl) hi (by decide +kernel) (pa_cons (pv 2) pa_nil)) pe_int) (pe_op op_mul pe_int (pv 1))) (pa_cons pe_int pa_nil)))))
        (pss_one (ps_if (pt_not (pt_val (pe_call GR hr rfl gR FR.kp bR .nil pass0 (pa_cons (pv 3) pa_nil)))) (pss_one (ps_ret pe_bl)) pss_nil))))
      (pss_one (ps_ret pe_bl))), ?_⟩
    refine ⟨_, rfl, (by show 1 ≤ sizeLine; decide), fun z nz => ?_⟩
    have s1 := same_upd (o := .lst [.int 0]) nz
    refine ⟨a, z, _, _, rfl, rfl, s1.seq hS, SqL.of upd_same, ?_, fun p np => ?_⟩
    · rw [List.length_map]
      exact Nat.le_trans (Nat.add_le_add_right hlen 1) (by decide)
    refine ⟨5, rfl, p, _, rfl, SqL.of upd_same, fun q nq => ?_⟩
    refine ⟨q, _, rfl, SqL.of upd_same, for_enum (K := K) (a := q) (xs := cutV (ns.map V.int ++ [.int 0]) none (some 5)) (fun i σ H' => H' q = some (.lst (cutV (ns.map V.int ++ [.int 0]) none (some 5))) ∧ ∃ v1 v2 v3, σ = [some (.ref a), v1, v2, v3])
      ⟨upd_same, _, _, _, rfl⟩ (fun i σ H' _ h => SqL.of h.1) ?_ ?_⟩
    · rintro i y T σ H1 hy ⟨hq, v1, v2, v3, rfl⟩ nT
      obtain ⟨i5, c, rfl⟩ := cut5 hy
      refine ⟨T, _, rfl, SqT.of upd_same, rfl, _, _, rfl, _, _, rfl, rfl, ?_⟩
      -- well
      have hb : ∀ b : Bool, -(2 ^ 64) < (if b = true then (1 : Int) else 0) ∧ (if b = true then (1 : Int) else 0) < 2 ^ 64 := by decide
      refine ⟨_, rfl, _, rfl, _, _, rfl, rfl, ⟨by decide, by decide, by decide⟩, _, _, rfl, rfl, .inr ⟨_, rfl, _, _, rfl, rfl, .inr (hb _), ?_⟩⟩
      refine ⟨_, rfl, .inl ⟨_, rfl, _, _, rfl, rfl, (by show (2147483647 : Int) ≠ 0; decide), ?_⟩⟩
      refine ⟨_, rfl, _, _, rfl, rfl, .inl ⟨by decide, by decide⟩, _, _, rfl, rfl, ?_⟩
      refine ⟨(by show 3 ≤ sizeLine; decide), fun p3 np3 => ?_⟩
      have hq2 : upd H1 T (.tup [.int (i : Nat), .int c]) q = some (.lst (cutV (ns.map V.int ++ [.int 0]) none (some 5))) := same_upd nT _ _ hq
      obtain ⟨m0, m1⟩ := fmod_in (x := c) (m := 2147483647) (by decide)
      refine ⟨_, rfl, p3, rfl, ⟨_, _, _, upd_same, ?_, by omega, by omega, by omega, by omega⟩, fun H' sx => ⟨true, rfl, iteF ⟨?_, _, _, _, rfl⟩⟩⟩
      · by_cases hc : (10 : Int) ^ (18 : Int).toNat ≤ c
        · rw [decide_eq_true hc]
          have : (0 : Int) ≤ (10 : Int) ^ (18 : Int).toNat := by decide
          show 0 ≤ c * 1
          omega
        · rw [decide_eq_false hc]
          show 0 ≤ c * 0
          omega
      · refine sx _ _ (ne_of_none hq2 np3) ?_
        rw [upd_ne (ne_of_none hq2 np3)]
        exact hq2
    · rintro σ H1 ⟨hq, v1, v2, v3, rfl⟩
      exact k _
end
end K5

set_option Elab.async false
set_option linter.all false
set_option maxRecDepth 100000
set_option maxHeartbeats 8000000
namespace K5
open PySem PySem.Spec PyProof.Rows L2
open K1 (FnP top Nm wm)
/-! ### how Grid binds -/
def dvG (e0 e1 : Addr) : List V := [.ref e0, .ref e1]
def kwG (e2 t3 t4 : Addr) : List (Str × V) := [("fields", .ref e2), ("more_columns", .ref t3), ("more_rows", .ref t4), ("flow", .str "row"), ("dense", .bl false), ("column_gap", .int 0), ("row_gap", .int 0), ("justify", .str "stretch"), ("align", .str "stretch"), ("items_justify", .str "stretch"), ("items_align", .str "stretch")]
def dflG (e0 e1 e2 t3 t4 : Addr) : List V := [.ref e0, .ref e1, .ref e2, .ref t3, .ref t4, .str "row", .bl false, .int 0, .int 0, .str "stretch", .str "stretch", .str "stretch", .str "stretch"]
def psG : List Str := "self" :: fnames
abbrev FG (K : PySem.W.Frag) (e0 e1 e2 t3 t4 f : Addr) (fd : FuncData) : Prop := FnM K "__init__" "Grid.__init__" (inClass (top 65) 0) (dvG e0 e1) (kwG e2 t3 t4) f fd
abbrev fnG (T D : Addr) (doc pm : Value) (an : Option Addr) (cdv ct : Value) : FuncData := PySem.W.fnOf "__init__" "Grid.__init__" (defArgs (inClass (top 65) 0)) (defBody (inClass (top 65) 0)) (defScope (inClass (top 65) 0)) (.ref T) (.ref D) doc pm an cdv ct
theorem len1 {ks : List Value} (h : ks.length = 1) : ∃ k0, ks = [k0] := by
  cases ks with
  | nil => exact absurd h (by simp)
  | cons k0 ks =>
    cases ks with
    | cons _ _ => exact absurd h (by simp only [List.length_cons]; omega)
    | nil => exact ⟨_, rfl⟩
theorem len2 {ks : List Value} (h : ks.length = 2) : ∃ k0 k1, ks = [k0, k1] := by
  cases ks with
  | nil => exact absurd h (by simp)
  | cons k0 ks =>
    cases ks with
    | nil => exact absurd h (by simp)
    | cons k1 ks =>
      cases ks with
      | cons _ _ => exact absurd h (by simp only [List.length_cons]; omega)
      | nil => exact ⟨_, _, rfl⟩
theorem len3 {ks : List Value} (h : ks.length = 3) : ∃ k0 k1 k2, ks = [k0, k1, k2] := by
  cases ks with
  | nil => exact absurd h (by simp)
  | cons k0 ks =>
    cases ks with
    | nil => exact absurd h (by simp)
    | cons k1 ks =>
      cases ks with
      | nil => exact absurd h (by simp)
      | cons k2 ks =>
        cases ks with
        | cons _ _ => exact absurd h (by simp only [List.length_cons]; omega)
        | nil => exact ⟨_, _, _, rfl⟩
theorem len11 {ks : List Value} (h : ks.length = 11) : ∃ k0 k1 k2 k3 k4 k5 k6 k7 k8 k9 k10, ks = [k0, k1, k2, k3, k4, k5, k6, k7, k8, k9, k10] := by
  cases ks with
  | nil => exact absurd h (by simp)
  | cons k0 ks =>
    cases ks with
    | nil => exact absurd h (by simp)
    | cons k1 ks =>
      cases ks with
      | nil => exact absurd h (by simp)
      | cons k2 ks =>
        cases ks with
        | nil => exact absurd h (by simp)
        | cons k3 ks =>
          cases ks with
          | nil => exact absurd h (by simp)
          | cons k4 ks =>
            cases ks with
            | nil => exact absurd h (by simp)
            | cons k5 ks =>
              cases ks with
              | nil => exact absurd h (by simp)
              | cons k6 ks =>
                cases ks with
                | nil => exact absurd h (by simp)
                | cons k7 ks =>
                  cases ks with
                  | nil => exact absurd h (by simp)
                  | cons k8 ks =>
                    cases ks with
                    | nil => exact absurd h (by simp)
                    | cons k9 ks =>
                      cases ks with
                      | nil => exact absurd h (by simp)
                      | cons k10 ks =>
                        cases ks with
                        | cons _ _ => exact absurd h (by simp only [List.length_cons]; omega)
                        | nil => exact ⟨_, _, _, _, _, _, _, _, _, _, _, rfl⟩
theorem len13 {ks : List Value} (h : ks.length = 13) : ∃ k0 k1 k2 k3 k4 k5 k6 k7 k8 k9 k10 k11 k12, ks = [k0, k1, k2, k3, k4, k5, k6, k7, k8, k9, k10, k11, k12] := by
  cases ks with
  | nil => exact absurd h (by simp)
  | cons k0 ks =>
    cases ks with
    | nil => exact absurd h (by simp)
    | cons k1 ks =>
      cases ks with
      | nil => exact absurd h (by simp)
      | cons k2 ks =>
        cases ks with
        | nil => exact absurd h (by simp)
        | cons k3 ks =>
          cases ks with
          | nil => exact absurd h (by simp)
          | cons k4 ks =>
            cases ks with
            | nil => exact absurd h (by simp)
            | cons k5 ks =>
              cases ks with
              | nil => exact absurd h (by simp)
              | cons k6 ks =>
                cases ks with
                | nil => exact absurd h (by simp)
                | cons k7 ks =>
                  cases ks with
                  | nil => exact absurd h (by simp)
                  | cons k8 ks =>
                    cases ks with
                    | nil => exact absurd h (by simp)
                    | cons k9 ks =>
                      cases ks with
                      | nil => exact absurd h (by simp)
                      | cons k10 ks =>
                        cases ks with
                        | nil => exact absurd h (by simp)
                        | cons k11 ks =>
                          cases ks with
                          | nil => exact absurd h (by simp)
                          | cons k12 ks =>
                            cases ks with
                            | cons _ _ => exact absurd h (by simp only [List.length_cons]; omega)
                            | nil => exact ⟨_, _, _, _, _, _, _, _, _, _, _, _, _, rfl⟩
theorem ch0 (T D : Addr) (doc pm : Value) (an : Option Addr) (cdv ct : Value) (u0 i0 i1 k0 k1 k2 k3 k4 k5 k6 k7 k8 k9 k10 : Value) (e2 t3 t4 : Addr) : ∃ k, bindArgs (fnG T D doc pm an cdv ct) ⟨[u0], []⟩ = seqItems? (.ref T) >>= k ∧ KwChain D (((kwG e2 t3 t4).map (·.1)).zip [k0, k1, k2, k3, k4, k5, k6, k7, k8, k9, k10]) (k (some [i0, i1].toArray)) (psG.zip ([u0] ++ ([i0, i1].drop 0 ++ [k0, k1, k2, k3, k4, k5, k6, k7, k8, k9, k10]))) := by
  refine ⟨_, rfl, ?_⟩
  refine ⟨_, _, _, _, _, _, rfl, rfl, ?_⟩
  refine ⟨_, _, _, _, _, _, rfl, rfl, ?_⟩
  refine ⟨_, _, _, _, _, _, rfl, rfl, ?_⟩
  refine ⟨_, _, _, _, _, _, rfl, rfl, ?_⟩
  refine ⟨_, _, _, _, _, _, rfl, rfl, ?_⟩
  refine ⟨_, _, _, _, _, _, rfl, rfl, ?_⟩
  refine ⟨_, _, _, _, _, _, rfl, rfl, ?_⟩
  refine ⟨_, _, _, _, _, _, rfl, rfl, ?_⟩
  refine ⟨_, _, _, _, _, _, rfl, rfl, ?_⟩
  refine ⟨_, _, _, _, _, _, rfl, rfl, ?_⟩
  refine ⟨_, _, _, _, _, _, rfl, rfl, ?_⟩
  show _ = _
  kernel_rfl
theorem ch2 (T D : Addr) (doc pm : Value) (an : Option Addr) (cdv ct : Value) (u0 u1 u2 i0 i1 k0 k1 k2 k3 k4 k5 k6 k7 k8 k9 k10 : Value) (e2 t3 t4 : Addr) : ∃ k, bindArgs (fnG T D doc pm an cdv ct) ⟨[u0, u1, u2], []⟩ = seqItems? (.ref T) >>= k ∧ KwChain D (((kwG e2 t3 t4).map (·.1)).zip [k0, k1, k2, k3, k4, k5, k6, k7, k8, k9, k10]) (k (some [i0, i1].toArray)) (psG.zip ([u0, u1, u2] ++ ([i0, i1].drop 2 ++ [k0, k1, k2, k3, k4, k5, k6, k7, k8, k9, k10]))) := by
  refine ⟨_, rfl, ?_⟩
  refine ⟨_, _, _, _, _, _, rfl, rfl, ?_⟩
  refine ⟨_, _, _, _, _, _, rfl, rfl, ?_⟩
  refine ⟨_, _, _, _, _, _, rfl, rfl, ?_⟩
  refine ⟨_, _, _, _, _, _, rfl, rfl, ?_⟩
  refine ⟨_, _, _, _, _, _, rfl, rfl, ?_⟩
  refine ⟨_, _, _, _, _, _, rfl, rfl, ?_⟩
  refine ⟨_, _, _, _, _, _, rfl, rfl, ?_⟩
  refine ⟨_, _, _, _, _, _, rfl, rfl, ?_⟩
  refine ⟨_, _, _, _, _, _, rfl, rfl, ?_⟩
  refine ⟨_, _, _, _, _, _, rfl, rfl, ?_⟩
  refine ⟨_, _, _, _, _, _, rfl, rfl, ?_⟩
  show _ = _
  kernel_rfl
theorem chk (T D : Addr) (doc pm : Value) (an : Option Addr) (cdv ct : Value) (u0 i0 i1 w0 w1 w2 w3 w4 w5 w6 w7 w8 w9 w10 w11 w12 : Value) : ∃ k, bindArgs (fnG T D doc pm an cdv ct) ⟨[u0], fnames.reverse.zip [w0, w1, w2, w3, w4, w5, w6, w7, w8, w9, w10, w11, w12]⟩ = seqItems? (.ref T) >>= k ∧ KwChain D ((([] : List (Str × V)).map (·.1)).zip []) (k (some [i0, i1].toArray)) (psG.zip ([u0] ++ [w0, w1, w2, w3, w4, w5, w6, w7, w8, w9, w10, w11, w12].reverse)) := by
  refine ⟨_, rfl, ?_⟩
  show _ = _
  kernel_rfl
section
variable {K : PySem.W.Frag} {f e0 e1 e2 t3 t4 : Addr} {fd : FuncData}
theorem g_b0 (F : FG K e0 e1 e2 t3 t4 f fd) : ∃ ds, Vals (dflG e0 e1 e2 t3 t4) ds ∧ Binds K fd ("self" :: fnames) ds := by
  refine F.binds 1 0 (fun h => nomatch h) rfl (fun T D doc pm an cdv ct us its ks h1 h2 h3 => ?_) (fun h => nomatch h)
  obtain ⟨u0, rfl⟩ := len1 h1
  obtain ⟨i0, i1, rfl⟩ := len2 h2
  obtain ⟨k0, k1, k2, k3, k4, k5, k6, k7, k8, k9, k10, rfl⟩ := len11 h3
  exact ch0 ..
theorem g_b2 (F : FG K e0 e1 e2 t3 t4 f fd) : ∃ ds, Vals ((dflG e0 e1 e2 t3 t4).drop 2) ds ∧ Binds K fd ("self" :: fnames) ds := by
  refine F.binds 3 2 (fun h => nomatch h) rfl (fun T D doc pm an cdv ct us its ks h1 h2 h3 => ?_) (fun h => nomatch h)
  obtain ⟨u0, u1, u2, rfl⟩ := len3 h1
  obtain ⟨i0, i1, rfl⟩ := len2 h2
  obtain ⟨k0, k1, k2, k3, k4, k5, k6, k7, k8, k9, k10, rfl⟩ := len11 h3
  exact ch2 ..
theorem vals_rev : ∀ {vs : List V} {us : List Value}, Vals vs us → Vals vs.reverse us.reverse
  | _, _, .nil => .nil
  | _, _, .cons r rr => by
    rw [List.reverse_cons, List.reverse_cons]
    exact (vals_rev rr).append (.cons r .nil)
theorem g_kb (F : FG K e0 e1 e2 t3 t4 f fd) : KBn K fd ("self" :: fnames) 1 fnames.reverse (fun us ws => us ++ ws.reverse) gVs := by
  obtain ⟨_, _, h⟩ := F.kbinds 1 fnames.reverse [] (fun us its mv ws => us ++ ws.reverse) (fun h => nomatch h) (fun h => nomatch h) (fun q h => nomatch h) (fun r1 _ _ r4 => r1.append (vals_rev r4)) (fun T D doc pm an cdv ct us its mv ws h1 h2 h3 h4 => by
    obtain ⟨u0, rfl⟩ := len1 h1
    obtain ⟨i0, i1, rfl⟩ := len2 h2
    cases mv with
    | cons _ _ => exact absurd h3 (by simp)
    | nil =>
      obtain ⟨w0, w1, w2, w3, w4, w5, w6, w7, w8, w9, w10, w11, w12, rfl⟩ := len13 h4
      exact chk ..)
  exact h
end
end K5

set_option Elab.async false
set_option linter.all false
set_option maxRecDepth 100000
set_option maxHeartbeats 4000000
namespace K5
open PySem PySem.Spec PyProof.Rows L2
open K1 (FnP top Nm wm)
abbrev ga := He.ga
abbrev ma := He.ma
/-! ### what the top has written -/
def tupA (K : PySem.W.Frag) (a : Addr) (vs : List V) : Bool := match K.lookup a with
  | some ⟨.type c, _, .seq its _, _⟩ => decide (c = "tuple") && (decide (its.size ≤ sizeLine) && He.relAll vs its.toList)
  | _ => false
theorem tupA_ok {K : PySem.W.Frag} {a : Addr} {vs : List V} (h : tupA K a vs = true) (H : Hp) : SqT K H a vs := by
  unfold tupA at h
  split at h
  · rename_i c _ its n _ q
    obtain ⟨h1, h2⟩ := ba h
    obtain ⟨h3, h4⟩ := ba h2
    exact .inr ⟨_, its, n, q, congrArg Value.type (of_decide_eq_true h1), rfl, of_decide_eq_true h3, He.relAll_ok h4⟩
  · exact nomatch h
/-- a keyword-only default that is an object -/
def kwdAt (f : Str × Option Str) (x : Str) (K : PySem.W.Frag) : Addr := match K.lookup (He.fAd K f) with
  | some ⟨_, _, .func fd, _⟩ => (match fd.kwdefaults with
    | .ref D => (match PySem.W.nsIn K D x with
      | some (some (.ref a)) => a
      | _ => 0)
    | _ => 0)
  | _ => 0
def gI : Str × Option Str := ("Grid", some "__init__")
abbrev aE0 := He.dflAt gI 0
abbrev aE1 := He.dflAt gI 1
abbrev aE2 := kwdAt gI "fields"
abbrev aT3 := kwdAt gI "more_columns"
abbrev aT4 := kwdAt gI "more_rows"
def dvStrs (l : List Str) : List He.Dv := l.map He.Dv.str
def clsB (K : PySem.W.Frag) (x : Str) : Bool := decide (PySem.W.findIn K (.ref (ga K x)) "__ne__" = some (some (.builtin "object.__ne__"))) && (decide (PySem.W.findIn K (.ref (ga K x)) "__class__" = some (some (.builtin "object.__class__"))) && (decide (PySem.W.mroIn K (ga K x) (.type "object") = some true) &&
  (decide (PySem.W.kitOne K (.ref (ga K x)) (.ref (ga K x)) = some true) && PySem.W.notFirst K (ga K x) (.ref (ga K x)))))
def momB (K : PySem.W.Frag) : Bool := ["NoneType", "bool", "int", "str", "list", "tuple", "dict"].all fun t => decide (PySem.W.kitOne K (.type t) (.ref (ga K "Moment")) = some false)
theorem momB_ok {K : PySem.W.Frag} (h : momB K = true) (d : PyData) : PySem.W.kitOne K (.type (tyN d)) (.ref (ga K "Moment")) = some false := by
  have h := List.all_eq_true.mp h
  cases d <;> exact of_decide_eq_true (h _ (by simp [tyN]))
def exB0 (K : PySem.W.Frag) : Bool := clsB K "Grid" && (decide (PySem.W.specialIn K (.builtin "object.__class__") "__get__" = some (some (.builtin "getset_descriptor.__get__"))) && (decide (PySem.W.takesIn K (.builtin "object.__class__") = some true) &&
  (decide (PySem.W.kitOne K (.type "list") (.ref (ga K "Grid")) = some false) && (PySem.W.notFirst K (ga K "Grid") (.type "list") && (He.eqO (PySem.W.nsIn K mainGlobals "gcd") (some (some (.builtin "math.gcd"))) &&
  (He.tupB K "SIZE_WORDS" (dvStrs sizeWords) && (He.tupB K "FLOWS" (dvStrs flows) && (He.tupB K "LANES_WAYS" (dvStrs lanesWays) && (He.tupB K "WAYS_ACROSS" (dvStrs waysAcross) && (He.tupB K "WAYS_DOWN" (dvStrs waysDown) &&
  (tupA K (aE0 K) [] && (tupA K (aE1 K) [] && (tupA K (aE2 K) [] && (tupA K (aT3 K) [.str "auto"] && tupA K (aT4 K) [.str "auto"]))))))))))))))
def exB (K : PySem.W.Frag) : Bool := momB K && exB0 K
theorem dvStrs_v {K : PySem.W.Frag} : ∀ l : List Str, (dvStrs l).map (He.Dv.v K) = l.map V.str
  | [] => rfl
  | x :: l => congrArg (V.str x :: ·) (dvStrs_v l)
theorem tupS {K : PySem.W.Frag} {x : Str} {l : List Str} (h : He.tupB K x (dvStrs l) = true) (H : Hp) : SqT K H (ga K x) (l.map V.str) := by
  have := He.tupB_ok h H
  rw [dvStrs_v] at this
  exact this
abbrev AlP : Type := He.AlD × Bool
def obsPG (n : Nat) (fa : List He.Fa) (fn : List He.DefD) (ex : PySem.W.Frag → Bool) (g : Addr → Option Obj) : AlP := (He.obsD fa fn (He.frG g (List.range n)), ex (He.frG g (List.range n)))
def hookP (n : Nat) (fa : List He.Fa) (fn : List He.DefD) (ex : PySem.W.Frag → Bool) : PySem.W.Hook where
  α := AlP
  obs := fun s => obsPG n fa fn ex s.heap.get?
  val := fun _ => (He.valD fn, true)
  says := fun _ h => ∃ K : PySem.W.Frag, K.In h ∧ He.SaysD fa fn K ∧ ex K = true
  of := fun _ _ e => ⟨_, He.frG_in, congrArg (fun z : AlP => z.1) e, congrArg (fun z : AlP => z.2) e⟩
  keeps := fun _ _ _ ⟨K, hK, c⟩ k => ⟨K, PySem.W.Frag.In.keeps hK k, c⟩
theorem obsPG_eq {n : Nat} {fa : List He.Fa} {fn : List He.DefD} {ex : PySem.W.Frag → Bool} {g : Addr → Option Obj} {s : Shared} (h : ∀ a, g a = s.heap.get? a) : obsPG n fa fn ex g = (hookP n fa fn ex).obs s := by
  have e : g = s.heap.get? := funext h
  rw [e] <;> rfl


def D_is_integer : He.DefD := ⟨("is_integer", none), "is_integer", "is_integer", defArgs (top 6), defBody (top 6), defScope (top 6), [], []⟩
def D_is_number : He.DefD := ⟨("is_number", none), "is_number", "is_number", defArgs (top 7), defBody (top 7), defScope (top 7), [], []⟩
def D_fraction_of : He.DefD := ⟨("fraction_of", none), "fraction_of", "fraction_of", defArgs (top 9), defBody (top 9), defScope (top 9), [], []⟩
def D_is_moving : He.DefD := ⟨("is_moving", none), "is_moving", "is_moving", defArgs (top 11), defBody (top 11), defScope (top 11), [], []⟩
def D_at_most : He.DefD := ⟨("at_most", none), "at_most", "at_most", defArgs (top 17), defBody (top 17), defScope (top 17), [], []⟩
def D_is_length : He.DefD := ⟨("is_length", none), "is_length", "is_length", defArgs (top 8), defBody (top 8), defScope (top 8), [], []⟩
def D_is_word : He.DefD := ⟨("is_word", none), "is_word", "is_word", defArgs (top 22), defBody (top 22), defScope (top 22), [], []⟩
def D_is_marked : He.DefD := ⟨("is_marked", none), "is_marked", "is_marked", defArgs (top 23), defBody (top 23), defScope (top 23), [], []⟩
def D_is_part : He.DefD := ⟨("is_part", none), "is_part", "is_part", defArgs (top 40), defBody (top 40), defScope (top 40), [], []⟩
def D_is_share : He.DefD := ⟨("is_share", none), "is_share", "is_share", defArgs (top 41), defBody (top 41), defScope (top 41), [], []⟩
def D_is_fixed : He.DefD := ⟨("is_fixed", none), "is_fixed", "is_fixed", defArgs (top 42), defBody (top 42), defScope (top 42), [], []⟩
def D_is_plain_size : He.DefD := ⟨("is_plain_size", none), "is_plain_size", "is_plain_size", defArgs (top 43), defBody (top 43), defScope (top 43), [], []⟩
def D_is_upto : He.DefD := ⟨("is_upto", none), "is_upto", "is_upto", defArgs (top 45), defBody (top 45), defScope (top 45), [], []⟩
def D_is_between : He.DefD := ⟨("is_between", none), "is_between", "is_between", defArgs (top 44), defBody (top 44), defScope (top 44), [], []⟩
def D_is_size : He.DefD := ⟨("is_size", none), "is_size", "is_size", defArgs (top 46), defBody (top 46), defScope (top 46), [], []⟩
def D_is_name : He.DefD := ⟨("is_name", none), "is_name", "is_name", defArgs (top 24), defBody (top 24), defScope (top 24), [], []⟩
def D_are_names : He.DefD := ⟨("are_names", none), "are_names", "are_names", defArgs (top 25), defBody (top 25), defScope (top 25), [], []⟩
def D_is_names_entry : He.DefD := ⟨("is_names_entry", none), "is_names_entry", "is_names_entry", defArgs (top 49), defBody (top 49), defScope (top 49), [], []⟩
def D_are_inner_entries : He.DefD := ⟨("are_inner_entries", none), "are_inner_entries", "are_inner_entries", defArgs (top 50), defBody (top 50), defScope (top 50), [], []⟩
def D_is_repeat : He.DefD := ⟨("is_repeat", none), "is_repeat", "is_repeat", defArgs (top 51), defBody (top 51), defScope (top 51), [], []⟩
def D_is_filler : He.DefD := ⟨("is_filler", none), "is_filler", "is_filler", defArgs (top 52), defBody (top 52), defScope (top 52), [], []⟩
def D_is_entry : He.DefD := ⟨("is_entry", none), "is_entry", "is_entry", defArgs (top 53), defBody (top 53), defScope (top 53), [], []⟩
def D_low_of : He.DefD := ⟨("low_of", none), "low_of", "low_of", defArgs (top 47), defBody (top 47), defScope (top 47), [], []⟩
def D_high_of : He.DefD := ⟨("high_of", none), "high_of", "high_of", defArgs (top 48), defBody (top 48), defScope (top 48), [], []⟩
def D_may_be_filled : He.DefD := ⟨("may_be_filled", none), "may_be_filled", "may_be_filled", defArgs (top 55), defBody (top 55), defScope (top 55), [], []⟩
def D_is_inherited : He.DefD := ⟨("is_inherited", none), "is_inherited", "is_inherited", defArgs (top 57), defBody (top 57), defScope (top 57), [], []⟩
def D_sizes_in : He.DefD := ⟨("sizes_in", none), "sizes_in", "sizes_in", defArgs (top 54), defBody (top 54), defScope (top 54), [], []⟩
def D_are_entries : He.DefD := ⟨("are_entries", none), "are_entries", "are_entries", defArgs (top 56), defBody (top 56), defScope (top 56), [], []⟩
def D_is_template : He.DefD := ⟨("is_template", none), "is_template", "is_template", defArgs (top 58), defBody (top 58), defScope (top 58), [], []⟩
def D_is_field_word : He.DefD := ⟨("is_field_word", none), "is_field_word", "is_field_word", defArgs (top 30), defBody (top 30), defScope (top 30), [], []⟩
def D_is_field_row : He.DefD := ⟨("is_field_row", none), "is_field_row", "is_field_row", defArgs (top 31), defBody (top 31), defScope (top 31), [], []⟩
def D_field_cells : He.DefD := ⟨("field_cells", none), "field_cells", "field_cells", defArgs (top 32), defBody (top 32), defScope (top 32), [], []⟩
def D_is_rectangle : He.DefD := ⟨("is_rectangle", none), "is_rectangle", "is_rectangle", defArgs (top 33), defBody (top 33), defScope (top 33), [], []⟩
def D_wrong_field_row : He.DefD := ⟨("wrong_field_row", none), "wrong_field_row", "wrong_field_row", defArgs (top 34), defBody (top 34), defScope (top 34), [], []⟩
def D_check_grid : He.DefD := ⟨("check_grid", none), "check_grid", "check_grid", defArgs (top 66), defBody (top 66), defScope (top 66), [], []⟩
def D_check_fields : He.DefD := ⟨("check_fields", none), "check_fields", "check_fields", defArgs (top 67), defBody (top 67), defScope (top 67), [], []⟩
def D_check_further_sizes : He.DefD := ⟨("check_further_sizes", none), "check_further_sizes", "check_further_sizes", defArgs (top 68), defBody (top 68), defScope (top 68), [], []⟩
def D__law_draw : He.DefD := ⟨("_law_draw", none), "_law_draw", "_law_draw", defArgs (top 70), defBody (top 70), defScope (top 70), [], []⟩
def D__law_one : He.DefD := ⟨("_law_one", none), "_law_one", "_law_one", defArgs (top 71), defBody (top 71), defScope (top 71), [], []⟩
def D__law_fixed : He.DefD := ⟨("_law_fixed", none), "_law_fixed", "_law_fixed", defArgs (top 73), defBody (top 73), defScope (top 73), [], []⟩
def D__law_share : He.DefD := ⟨("_law_share", none), "_law_share", "_law_share", defArgs (top 74), defBody (top 74), defScope (top 74), [], []⟩
def D__law_size : He.DefD := ⟨("_law_size", none), "_law_size", "_law_size", defArgs (top 75), defBody (top 75), defScope (top 75), [], []⟩
def D__law_counted : He.DefD := ⟨("_law_counted", none), "_law_counted", "_law_counted", defArgs (top 76), defBody (top 76), defScope (top 76), [], []⟩
def D__law_names : He.DefD := ⟨("_law_names", none), "_law_names", "_law_names", defArgs (top 77), defBody (top 77), defScope (top 77), [], []⟩
def D__law_plain : He.DefD := ⟨("_law_plain", none), "_law_plain", "_law_plain", defArgs (top 78), defBody (top 78), defScope (top 78), [], []⟩
def D__law_template : He.DefD := ⟨("_law_template", none), "_law_template", "_law_template", defArgs (top 79), defBody (top 79), defScope (top 79), [], []⟩
def D__law_fields : He.DefD := ⟨("_law_fields", none), "_law_fields", "_law_fields", defArgs (top 80), defBody (top 80), defScope (top 80), [], []⟩
def D__law_values : He.DefD := ⟨("_law_values", none), "_law_values", "_law_values", defArgs (top 81), defBody (top 81), defScope (top 81), [], []⟩
def D__law_parts : He.DefD := ⟨("_law_parts", none), "_law_parts", "_law_parts", defArgs (top 83), defBody (top 83), defScope (top 83), [], []⟩
def D__law_made : He.DefD := ⟨("_law_made", none), "_law_made", "_law_made", defArgs (top 82), defBody (top 82), defScope (top 82), [], []⟩
def D__law_right : He.DefD := ⟨("_law_right", none), "_law_right", "_law_right", defArgs (top 84), defBody (top 84), defScope (top 84), [], []⟩
def D_law : He.DefD := ⟨("law", none), "law", "law", defArgs (top 85), defBody (top 85), defScope (top 85), [], []⟩
def D_Grid__init__ : He.DefD := ⟨gI, "__init__", "Grid.__init__", defArgs (inClass (top 65) 0), defBody (inClass (top 65) 0), defScope (inClass (top 65) 0), [.adr aE0, .adr aE1], [("fields", .adr aE2), ("more_columns", .adr aT3), ("more_rows", .adr aT4), ("flow", .str "row"), ("dense", .bl false), ("column_gap", .int 0), ("row_gap", .int 0), ("justify", .str "stretch"), ("align", .str "stretch"), ("items_justify", .str "stretch"), ("items_align", .str "stretch")]⟩
def D_Grid__eq__ : He.DefD := ⟨("Grid", some "__eq__"), "__eq__", "Grid.__eq__", defArgs (inClass (top 65) 1), defBody (inClass (top 65) 1), defScope (inClass (top 65) 1), [], []⟩
def fn : List He.DefD := [D_is_integer, D_is_number, D_fraction_of, D_is_moving, D_at_most, D_is_length, D_is_word, D_is_marked, D_is_part, D_is_share, D_is_fixed, D_is_plain_size, D_is_upto, D_is_between, D_is_size, D_is_name, D_are_names, D_is_names_entry, D_are_inner_entries, D_is_repeat, D_is_filler, D_is_entry, D_low_of, D_high_of, D_may_be_filled, D_is_inherited, D_sizes_in, D_are_entries, D_is_template, D_is_field_word, D_is_field_row, D_field_cells, D_is_rectangle, D_wrong_field_row, D_check_grid, D_check_fields, D_check_further_sizes, D__law_draw, D__law_one, D__law_fixed, D__law_share, D__law_size, D__law_counted, D__law_names, D__law_plain, D__law_template, D__law_fields, D__law_values, D__law_parts, D__law_made, D__law_right, D_law, D_Grid__init__, D_Grid__eq__]
theorem K1b1 {K : PySem.W.Frag} {x p : Str} {i : Nat} {f : Addr} {fd : FuncData} (F : FnP K x (top i) f fd) (h : ∀ (kV doc pm : Value) (an : Option Addr) (cdv ct : Value) (u : Value), bindArgs (PySem.W.fnOf x x (defArgs (top i)) (defBody (top i)) (defScope (top i)) .none kV doc pm an cdv ct) ⟨[u], []⟩ = pure [(p, u)] := by intros; rfl) : Binds K fd [p] [] := F.bindsN fun _ _ _ _ _ _ us hl => match us, hl with | [_], _ => h _ _ _ _ _ _ _
theorem K1b2 {K : PySem.W.Frag} {x p q : Str} {i : Nat} {f : Addr} {fd : FuncData} (F : FnP K x (top i) f fd) (h : ∀ (kV doc pm : Value) (an : Option Addr) (cdv ct : Value) (u v : Value), bindArgs (PySem.W.fnOf x x (defArgs (top i)) (defBody (top i)) (defScope (top i)) .none kV doc pm an cdv ct) ⟨[u, v], []⟩ = pure [(p, u), (q, v)] := by intros; rfl) : Binds K fd [p, q] [] := F.bindsN fun _ _ _ _ _ _ us hl => match us, hl with | [_, _], _ => h _ _ _ _ _ _ _ _
theorem K1b3 {K : PySem.W.Frag} {x p q r : Str} {i : Nat} {f : Addr} {fd : FuncData} (F : FnP K x (top i) f fd) (h : ∀ (kV doc pm : Value) (an : Option Addr) (cdv ct : Value) (u v z : Value), bindArgs (PySem.W.fnOf x x (defArgs (top i)) (defBody (top i)) (defScope (top i)) .none kV doc pm an cdv ct) ⟨[u, v, z], []⟩ = pure [(p, u), (q, v), (r, z)] := by intros; rfl) : Binds K fd [p, q, r] [] := F.bindsN fun _ _ _ _ _ _ us hl => match us, hl with | [_, _, _], _ => h _ _ _ _ _ _ _ _ _
def fa : List He.Fa := [.glo "law", .free "isinstance", .free "int", .free "bool", .free "tuple", .free "list", .free "len", .free "abs", .free "range", .free "enumerate", .free "zip", .free "str", .free "all", .free "any", .free "max", .free "min", .int "LONGEST_NAME" 16, .int "MOST_FIELD_ROWS" 20, .int "MOST_FIELD_COLUMNS" 20, .int "MOST_REPEATS" 20, .int "MOST_SIZES" 40, .int "MOST_INHERITED_NAMES" 40, .int "MOST_FURTHER_SIZES" 8, .str "LETTERS" letters, .str "NAME_SIGNS" signs, .str "NO_FIELD" ".", .glo "SIZE_WORDS", .glo "Moment", .mkr "Grid", .meth "Grid" "__eq__", .noat "Grid" "columns", .noat "Grid" "rows", .noat "Grid" "fields", .noat "Grid" "more_columns", .noat "Grid" "more_rows", .noat "Grid" "flow", .noat "Grid" "dense", .noat "Grid" "column_gap", .noat "Grid" "row_gap", .noat "Grid" "justify", .noat "Grid" "align", .noat "Grid" "items_justify", .noat "Grid" "items_align", .glo "Grid", .cls "Grid", .glo "FLOWS", .glo "LANES_WAYS", .glo "WAYS_ACROSS", .glo "WAYS_DOWN", .glo "is_integer", .glo "is_number", .glo "fraction_of", .glo "is_moving", .glo "at_most", .glo "is_length", .glo "is_word", .glo "is_marked", .glo "is_part", .glo "is_share", .glo "is_fixed", .glo "is_plain_size", .glo "is_upto", .glo "is_between", .glo "is_size", .glo "is_name", .glo "are_names", .glo "is_names_entry", .glo "are_inner_entries", .glo "is_repeat", .glo "is_filler", .glo "is_entry", .glo "low_of", .glo "high_of", .glo "may_be_filled", .glo "is_inherited", .glo "sizes_in", .glo "are_entries", .glo "is_template", .glo "is_field_word", .glo "is_field_row", .glo "field_cells", .glo "is_rectangle", .glo "wrong_field_row", .glo "check_grid", .glo "check_fields", .glo "check_further_sizes", .glo "_law_draw", .glo "_law_one", .glo "_law_fixed", .glo "_law_share", .glo "_law_size", .glo "_law_counted", .glo "_law_names", .glo "_law_plain", .glo "_law_template", .glo "_law_fields", .glo "_law_values", .glo "_law_parts", .glo "_law_made", .glo "_law_right"]
theorem facts {P : Program} {w : World} {K : PySem.W.Frag} {h : Heap} {mg : Str → Option Value} {f : Addr} (X : K.In h) (G : h.Ns mainGlobals mg) (hfa : mg ("law" : Str) = some (.ref f)) (c : He.SaysD fa fn K) (x : exB K = true) :
    ∃ fd : FuncData, (∀ (s : Shared) (v : Value), BindsTo s fd ⟨[v], []⟩ [("script", v)]) ∧ ∀ base : Heap, K.In base → base.Ns mainGlobals mg → FnOk P w K mg base CX0 19 f fd ["script"] (spLaw K) := by
  obtain ⟨xm, x⟩ := ba x
  obtain ⟨xW, x⟩ := ba x
  obtain ⟨x1, x⟩ := ba x
  obtain ⟨x2, x⟩ := ba x
  obtain ⟨xl, x⟩ := ba x
  obtain ⟨xn, x⟩ := ba x
  obtain ⟨xg, x⟩ := ba x
  obtain ⟨z1, x⟩ := ba x
  obtain ⟨z2, x⟩ := ba x
  obtain ⟨z3, x⟩ := ba x
  obtain ⟨z4, x⟩ := ba x
  obtain ⟨z5, x⟩ := ba x
  obtain ⟨y1, x⟩ := ba x
  obtain ⟨y2, x⟩ := ba x
  obtain ⟨y3, x⟩ := ba x
  obtain ⟨y4, y5⟩ := ba x
  obtain ⟨w1, xW⟩ := ba xW
  obtain ⟨w2, xW⟩ := ba xW
  obtain ⟨w3, xW⟩ := ba xW
  obtain ⟨w4, w5⟩ := ba xW
  obtain ⟨f_is_integer, F_is_integer⟩ := c.def_ 0 (d := D_is_integer) rfl
  obtain ⟨f_is_number, F_is_number⟩ := c.def_ 1 (d := D_is_number) rfl
  obtain ⟨f_fraction_of, F_fraction_of⟩ := c.def_ 2 (d := D_fraction_of) rfl
  obtain ⟨f_is_moving, F_is_moving⟩ := c.def_ 3 (d := D_is_moving) rfl
  obtain ⟨f_at_most, F_at_most⟩ := c.def_ 4 (d := D_at_most) rfl
  obtain ⟨f_is_length, F_is_length⟩ := c.def_ 5 (d := D_is_length) rfl
  obtain ⟨f_is_word, F_is_word⟩ := c.def_ 6 (d := D_is_word) rfl
  obtain ⟨f_is_marked, F_is_marked⟩ := c.def_ 7 (d := D_is_marked) rfl
  obtain ⟨f_is_part, F_is_part⟩ := c.def_ 8 (d := D_is_part) rfl
  obtain ⟨f_is_share, F_is_share⟩ := c.def_ 9 (d := D_is_share) rfl
  obtain ⟨f_is_fixed, F_is_fixed⟩ := c.def_ 10 (d := D_is_fixed) rfl
  obtain ⟨f_is_plain_size, F_is_plain_size⟩ := c.def_ 11 (d := D_is_plain_size) rfl
  obtain ⟨f_is_upto, F_is_upto⟩ := c.def_ 12 (d := D_is_upto) rfl
  obtain ⟨f_is_between, F_is_between⟩ := c.def_ 13 (d := D_is_between) rfl
  obtain ⟨f_is_size, F_is_size⟩ := c.def_ 14 (d := D_is_size) rfl
  obtain ⟨f_is_name, F_is_name⟩ := c.def_ 15 (d := D_is_name) rfl
  obtain ⟨f_are_names, F_are_names⟩ := c.def_ 16 (d := D_are_names) rfl
  obtain ⟨f_is_names_entry, F_is_names_entry⟩ := c.def_ 17 (d := D_is_names_entry) rfl
  obtain ⟨f_are_inner_entries, F_are_inner_entries⟩ := c.def_ 18 (d := D_are_inner_entries) rfl
  obtain ⟨f_is_repeat, F_is_repeat⟩ := c.def_ 19 (d := D_is_repeat) rfl
  obtain ⟨f_is_filler, F_is_filler⟩ := c.def_ 20 (d := D_is_filler) rfl
  obtain ⟨f_is_entry, F_is_entry⟩ := c.def_ 21 (d := D_is_entry) rfl
  obtain ⟨f_low_of, F_low_of⟩ := c.def_ 22 (d := D_low_of) rfl
  obtain ⟨f_high_of, F_high_of⟩ := c.def_ 23 (d := D_high_of) rfl
  obtain ⟨f_may_be_filled, F_may_be_filled⟩ := c.def_ 24 (d := D_may_be_filled) rfl
  obtain ⟨f_is_inherited, F_is_inherited⟩ := c.def_ 25 (d := D_is_inherited) rfl
  obtain ⟨f_sizes_in, F_sizes_in⟩ := c.def_ 26 (d := D_sizes_in) rfl
  obtain ⟨f_are_entries, F_are_entries⟩ := c.def_ 27 (d := D_are_entries) rfl
  obtain ⟨f_is_template, F_is_template⟩ := c.def_ 28 (d := D_is_template) rfl
  obtain ⟨f_is_field_word, F_is_field_word⟩ := c.def_ 29 (d := D_is_field_word) rfl
  obtain ⟨f_is_field_row, F_is_field_row⟩ := c.def_ 30 (d := D_is_field_row) rfl
  obtain ⟨f_field_cells, F_field_cells⟩ := c.def_ 31 (d := D_field_cells) rfl
  obtain ⟨f_is_rectangle, F_is_rectangle⟩ := c.def_ 32 (d := D_is_rectangle) rfl
  obtain ⟨f_wrong_field_row, F_wrong_field_row⟩ := c.def_ 33 (d := D_wrong_field_row) rfl
  obtain ⟨f_check_grid, F_check_grid⟩ := c.def_ 34 (d := D_check_grid) rfl
  obtain ⟨f_check_fields, F_check_fields⟩ := c.def_ 35 (d := D_check_fields) rfl
  obtain ⟨f_check_further_sizes, F_check_further_sizes⟩ := c.def_ 36 (d := D_check_further_sizes) rfl
  obtain ⟨f__law_draw, F__law_draw⟩ := c.def_ 37 (d := D__law_draw) rfl
  obtain ⟨f__law_one, F__law_one⟩ := c.def_ 38 (d := D__law_one) rfl
  obtain ⟨f__law_fixed, F__law_fixed⟩ := c.def_ 39 (d := D__law_fixed) rfl
  obtain ⟨f__law_share, F__law_share⟩ := c.def_ 40 (d := D__law_share) rfl
  obtain ⟨f__law_size, F__law_size⟩ := c.def_ 41 (d := D__law_size) rfl
  obtain ⟨f__law_counted, F__law_counted⟩ := c.def_ 42 (d := D__law_counted) rfl
  obtain ⟨f__law_names, F__law_names⟩ := c.def_ 43 (d := D__law_names) rfl
  obtain ⟨f__law_plain, F__law_plain⟩ := c.def_ 44 (d := D__law_plain) rfl
  obtain ⟨f__law_template, F__law_template⟩ := c.def_ 45 (d := D__law_template) rfl
  obtain ⟨f__law_fields, F__law_fields⟩ := c.def_ 46 (d := D__law_fields) rfl
  obtain ⟨f__law_values, F__law_values⟩ := c.def_ 47 (d := D__law_values) rfl
  obtain ⟨f__law_parts, F__law_parts⟩ := c.def_ 48 (d := D__law_parts) rfl
  obtain ⟨f__law_made, F__law_made⟩ := c.def_ 49 (d := D__law_made) rfl
  obtain ⟨f__law_right, F__law_right⟩ := c.def_ 50 (d := D__law_right) rfl
  obtain ⟨f_law, F_law⟩ := c.def_ 51 (d := D_law) rfl
  obtain ⟨f_Grid__init__, F_Grid__init__⟩ := c.def_ 52 (d := D_Grid__init__) rfl
  obtain ⟨f_Grid__eq__, F_Grid__eq__⟩ := c.def_ 53 (d := D_Grid__eq__) rfl
  have e := hfa.symm.trans (He.glo_ok X G (c.fact 0 (f := .glo "law") rfl))
  cases e
  have bL := FunD.bindsA (ps := ["script"]) F_law fun _ _ _ _ _ _ us hl => match us, hl with | [_], _ => rfl
  refine ⟨f_law, fun s v => bL s [v] rfl, fun base _ _ => ?_⟩
  have N : Nm mg := { isi := He.free_ok X G (c.fact 1 (f := .free "isinstance") rfl), tint := He.free_ok X G (c.fact 2 (f := .free "int") rfl), tbool := He.free_ok X G (c.fact 3 (f := .free "bool") rfl), ttup := He.free_ok X G (c.fact 4 (f := .free "tuple") rfl), tlst := He.free_ok X G (c.fact 5 (f := .free "list") rfl), len := He.free_ok X G (c.fact 6 (f := .free "len") rfl), abs := He.free_ok X G (c.fact 7 (f := .free "abs") rfl), rng := He.free_ok X G (c.fact 8 (f := .free "range") rfl), enu := He.free_ok X G (c.fact 9 (f := .free "enumerate") rfl), zip := He.free_ok X G (c.fact 10 (f := .free "zip") rfl), gcd := PySem.W.mg_of X G (He.eqO_ok xg) }
  have hs := He.free_ok X G (c.fact 11 (f := .free "str") rfl)
  have hall := He.free_ok X G (c.fact 12 (f := .free "all") rfl)
  have hany := He.free_ok X G (c.fact 13 (f := .free "any") rfl)
  have hmax := He.free_ok X G (c.fact 14 (f := .free "max") rfl)
  have hmin := He.free_ok X G (c.fact 15 (f := .free "min") rfl)
  obtain ⟨tk_LONGEST_NAME, g_LONGEST_NAME⟩ := He.int_ok X G (c.fact 16 (f := .int "LONGEST_NAME" 16) rfl)
  obtain ⟨tk_MOST_FIELD_ROWS, g_MOST_FIELD_ROWS⟩ := He.int_ok X G (c.fact 17 (f := .int "MOST_FIELD_ROWS" 20) rfl)
  obtain ⟨tk_MOST_FIELD_COLUMNS, g_MOST_FIELD_COLUMNS⟩ := He.int_ok X G (c.fact 18 (f := .int "MOST_FIELD_COLUMNS" 20) rfl)
  obtain ⟨tk_MOST_REPEATS, g_MOST_REPEATS⟩ := He.int_ok X G (c.fact 19 (f := .int "MOST_REPEATS" 20) rfl)
  obtain ⟨tk_MOST_SIZES, g_MOST_SIZES⟩ := He.int_ok X G (c.fact 20 (f := .int "MOST_SIZES" 40) rfl)
  obtain ⟨tk_MOST_INHERITED_NAMES, g_MOST_INHERITED_NAMES⟩ := He.int_ok X G (c.fact 21 (f := .int "MOST_INHERITED_NAMES" 40) rfl)
  obtain ⟨tk_MOST_FURTHER_SIZES, g_MOST_FURTHER_SIZES⟩ := He.int_ok X G (c.fact 22 (f := .int "MOST_FURTHER_SIZES" 8) rfl)
  obtain ⟨tk_LETTERS, g_LETTERS⟩ := He.str_ok X G (c.fact 23 (f := .str "LETTERS" letters) rfl)
  obtain ⟨tk_NAME_SIGNS, g_NAME_SIGNS⟩ := He.str_ok X G (c.fact 24 (f := .str "NAME_SIGNS" signs) rfl)
  obtain ⟨tk_NO_FIELD, g_NO_FIELD⟩ := He.str_ok X G (c.fact 25 (f := .str "NO_FIELD" ".") rfl)
  have g_SIZE_WORDS := He.glo_ok X G (c.fact 26 (f := .glo "SIZE_WORDS") rfl)
  have hS := tupS z1
  have Mo : Mom K mg (ga K "Moment") := ⟨He.glo_ok X G (c.fact 27 (f := .glo "Moment") rfl), momB_ok xm⟩
  have MG := He.mkr_ok (c.fact 28 (f := .mkr "Grid") rfl)
  have EG := He.meth_ok (c.fact 29 (f := .meth "Grid" "__eq__") rfl)
  have nas : ∀ y ∈ fnames, NoAttr K (ga K "Grid") y := by
    intro y hy
    simp only [fnames, List.mem_cons, List.not_mem_nil, or_false] at hy
    rcases hy with rfl | rfl | rfl | rfl | rfl | rfl | rfl | rfl | rfl | rfl | rfl | rfl | rfl
    · exact He.noat_ok (c.fact 30 (f := .noat "Grid" "columns") rfl)
    · exact He.noat_ok (c.fact 31 (f := .noat "Grid" "rows") rfl)
    · exact He.noat_ok (c.fact 32 (f := .noat "Grid" "fields") rfl)
    · exact He.noat_ok (c.fact 33 (f := .noat "Grid" "more_columns") rfl)
    · exact He.noat_ok (c.fact 34 (f := .noat "Grid" "more_rows") rfl)
    · exact He.noat_ok (c.fact 35 (f := .noat "Grid" "flow") rfl)
    · exact He.noat_ok (c.fact 36 (f := .noat "Grid" "dense") rfl)
    · exact He.noat_ok (c.fact 37 (f := .noat "Grid" "column_gap") rfl)
    · exact He.noat_ok (c.fact 38 (f := .noat "Grid" "row_gap") rfl)
    · exact He.noat_ok (c.fact 39 (f := .noat "Grid" "justify") rfl)
    · exact He.noat_ok (c.fact 40 (f := .noat "Grid" "align") rfl)
    · exact He.noat_ok (c.fact 41 (f := .noat "Grid" "items_justify") rfl)
    · exact He.noat_ok (c.fact 42 (f := .noat "Grid" "items_align") rfl)
  have T : TG K mg "Grid" (ga K "Grid") (ma K (ga K "Grid") "__init__") (ma K (ga K "Grid") "__eq__") := ⟨He.glo_ok X G (c.fact 43 (f := .glo "Grid") rfl), He.cls_ok (c.fact 44 (f := .cls "Grid") rfl), MG, EG.at_, EG.fn, of_decide_eq_true w1, of_decide_eq_true w2, of_decide_eq_true w3, of_decide_eq_true x1, of_decide_eq_true x2, of_decide_eq_true w4, w5, nas⟩
  have W : Ways K mg (ga K "FLOWS") (ga K "LANES_WAYS") (ga K "WAYS_ACROSS") (ga K "WAYS_DOWN") := ⟨He.glo_ok X G (c.fact 45 (f := .glo "FLOWS") rfl), tupS z2, He.glo_ok X G (c.fact 46 (f := .glo "LANES_WAYS") rfl), tupS z3, He.glo_ok X G (c.fact 47 (f := .glo "WAYS_ACROSS") rfl), tupS z4, He.glo_ok X G (c.fact 48 (f := .glo "WAYS_DOWN") rfl), tupS z5⟩
  have d_is_integer : D1 P w K mg base "is_integer" "value" 1 (spQ K any isInt) _ _ := ⟨ok_int F_is_integer N, He.glo_ok X G (c.fact 49 (f := .glo "is_integer") rfl), F_is_integer.kp, K1b1 (x := "is_integer") (i := 6) F_is_integer⟩
  have d_is_number : D1 P w K mg base "is_number" "value" 2 (spQ K any isNum) _ _ := ⟨ok_num F_is_number N Mo d_is_integer, He.glo_ok X G (c.fact 50 (f := .glo "is_number") rfl), F_is_number.kp, K1b1 (x := "is_number") (i := 7) F_is_number⟩
  have d_fraction_of : D1 P w K mg base "fraction_of" "number" 1 (spPair K) _ _ := ⟨ok_frac F_fraction_of N, He.glo_ok X G (c.fact 51 (f := .glo "fraction_of") rfl), F_fraction_of.kp, K1b1 (x := "fraction_of") (i := 9) F_fraction_of⟩
  have d_is_moving : D1 P w K mg base "is_moving" "number" 1 (spMov K) _ _ := ⟨ok_mov F_is_moving N, He.glo_ok X G (c.fact 52 (f := .glo "is_moving") rfl), F_is_moving.kp, K1b1 (x := "is_moving") (i := 11) F_is_moving⟩
  have d_at_most : D2 P w K mg base "at_most" "one" "other" 2 (spLe K) _ _ := ⟨ok_le F_at_most N d_is_moving d_fraction_of, He.glo_ok X G (c.fact 53 (f := .glo "at_most") rfl), F_at_most.kp, K1b2 (x := "at_most") (i := 17) F_at_most⟩
  have d_is_length : D1 P w K mg base "is_length" "value" 3 (spQ K okL isLen) _ _ := ⟨ok_len F_is_length d_is_number d_at_most, He.glo_ok X G (c.fact 54 (f := .glo "is_length") rfl), F_is_length.kp, K1b1 (x := "is_length") (i := 8) F_is_length⟩
  have d_is_word : D2 P w K mg base "is_word" "value" "words" 1 (spWord K) _ _ := ⟨ok_word F_is_word N hs, He.glo_ok X G (c.fact 55 (f := .glo "is_word") rfl), F_is_word.kp, K1b2 (x := "is_word") (i := 22) F_is_word⟩
  have d_is_marked : D3 P w K mg base "is_marked" "value" "word" "many" 2 (spMark K) _ _ := ⟨ok_mark F_is_marked N d_is_word, He.glo_ok X G (c.fact 56 (f := .glo "is_marked") rfl), F_is_marked.kp, K1b3 (x := "is_marked") (i := 23) F_is_marked⟩
  have d_is_part : D1 P w K mg base "is_part" "value" 4 (spQ K okS isPart) _ _ := ⟨ok_part F_is_part d_is_marked d_is_length, He.glo_ok X G (c.fact 57 (f := .glo "is_part") rfl), F_is_part.kp, K1b1 (x := "is_part") (i := 40) F_is_part⟩
  have d_is_share : D1 P w K mg base "is_share" "value" 4 (spQ K okS isShare) _ _ := ⟨ok_share F_is_share d_is_marked d_is_length, He.glo_ok X G (c.fact 58 (f := .glo "is_share") rfl), F_is_share.kp, K1b1 (x := "is_share") (i := 41) F_is_share⟩
  have d_is_fixed : D1 P w K mg base "is_fixed" "value" 5 (spQ K okS isFixed) _ _ := ⟨ok_fixed F_is_fixed d_is_length d_is_part, He.glo_ok X G (c.fact 59 (f := .glo "is_fixed") rfl), F_is_fixed.kp, K1b1 (x := "is_fixed") (i := 42) F_is_fixed⟩
  have d_is_plain_size : D1 P w K mg base "is_plain_size" "value" 6 (spQ K okS isPlain) _ _ := ⟨ok_plain F_is_plain_size d_is_fixed d_is_word g_SIZE_WORDS hS, He.glo_ok X G (c.fact 60 (f := .glo "is_plain_size") rfl), F_is_plain_size.kp, K1b1 (x := "is_plain_size") (i := 43) F_is_plain_size⟩
  have d_is_upto : D1 P w K mg base "is_upto" "value" 6 (spQ K okB isUpto) _ _ := ⟨ok_upto F_is_upto d_is_marked d_is_fixed, He.glo_ok X G (c.fact 61 (f := .glo "is_upto") rfl), F_is_upto.kp, K1b1 (x := "is_upto") (i := 45) F_is_upto⟩
  have d_is_between : D1 P w K mg base "is_between" "value" 7 (spQ K okB isBetw) _ _ := ⟨ok_betw F_is_between d_is_marked d_is_plain_size d_is_share, He.glo_ok X G (c.fact 62 (f := .glo "is_between") rfl), F_is_between.kp, K1b1 (x := "is_between") (i := 44) F_is_between⟩
  have d_is_size : D1 P w K mg base "is_size" "value" 8 (spQ K okB isSize) _ _ := ⟨ok_size F_is_size d_is_plain_size d_is_share d_is_between d_is_upto, He.glo_ok X G (c.fact 63 (f := .glo "is_size") rfl), F_is_size.kp, K1b1 (x := "is_size") (i := 46) F_is_size⟩
  have d_is_name : D1 P w K mg base "is_name" "value" 1 (spQ K okZ isName) _ _ := ⟨ok_name F_is_name N hs g_LETTERS g_NAME_SIGNS g_LONGEST_NAME, He.glo_ok X G (c.fact 64 (f := .glo "is_name") rfl), F_is_name.kp, K1b1 (x := "is_name") (i := 24) F_is_name⟩
  have d_are_names : D1 P w K mg base "are_names" "value" 2 (spQ K okNs areNames) _ _ := ⟨ok_names F_are_names N hall d_is_name, He.glo_ok X G (c.fact 65 (f := .glo "are_names") rfl), F_are_names.kp, K1b1 (x := "are_names") (i := 25) F_are_names⟩
  have d_is_names_entry : D1 P w K mg base "is_names_entry" "value" 3 (spQ K okE isNamesE) _ _ := ⟨ok_namesE F_is_names_entry d_is_marked d_are_names, He.glo_ok X G (c.fact 66 (f := .glo "is_names_entry") rfl), F_is_names_entry.kp, K1b1 (x := "is_names_entry") (i := 49) F_is_names_entry⟩
  have d_are_inner_entries : D1 P w K mg base "are_inner_entries" "value" 9 (spQ K okIn areInner) _ _ := ⟨ok_inner F_are_inner_entries N hany d_is_size d_is_names_entry, He.glo_ok X G (c.fact 67 (f := .glo "are_inner_entries") rfl), F_are_inner_entries.kp, K1b1 (x := "are_inner_entries") (i := 50) F_are_inner_entries⟩
  have d_is_repeat : D1 P w K mg base "is_repeat" "value" 10 (spQ K okR isRepeat) _ _ := ⟨ok_repeat F_is_repeat g_MOST_REPEATS d_is_marked d_is_integer d_are_inner_entries, He.glo_ok X G (c.fact 68 (f := .glo "is_repeat") rfl), F_is_repeat.kp, K1b1 (x := "is_repeat") (i := 51) F_is_repeat⟩
  have d_is_filler : D1 P w K mg base "is_filler" "value" 10 (spQ K okR isFill) _ _ := ⟨ok_filler F_is_filler d_is_marked d_are_inner_entries, He.glo_ok X G (c.fact 69 (f := .glo "is_filler") rfl), F_is_filler.kp, K1b1 (x := "is_filler") (i := 52) F_is_filler⟩
  have d_is_entry : D1 P w K mg base "is_entry" "value" 11 (spQ K okR isEntry) _ _ := ⟨ok_entry F_is_entry d_is_size d_is_names_entry d_is_repeat d_is_filler, He.glo_ok X G (c.fact 70 (f := .glo "is_entry") rfl), F_is_entry.kp, K1b1 (x := "is_entry") (i := 53) F_is_entry⟩
  have d_low_of : D1 P w K mg base "low_of" "size" 8 (spV K okB lowOf) _ _ := ⟨ok_low F_low_of d_is_between d_is_share d_is_upto, He.glo_ok X G (c.fact 71 (f := .glo "low_of") rfl), F_low_of.kp, K1b1 (x := "low_of") (i := 47) F_low_of⟩
  have d_high_of : D1 P w K mg base "high_of" "size" 8 (spV K okB highOf) _ _ := ⟨ok_high F_high_of d_is_between d_is_upto, He.glo_ok X G (c.fact 72 (f := .glo "high_of") rfl), F_high_of.kp, K1b1 (x := "high_of") (i := 48) F_high_of⟩
  have d_may_be_filled : D1 P w K mg base "may_be_filled" "size" 9 (spQ K okB mayFill) _ _ := ⟨ok_may F_may_be_filled d_is_fixed d_low_of d_high_of, He.glo_ok X G (c.fact 73 (f := .glo "may_be_filled") rfl), F_may_be_filled.kp, K1b1 (x := "may_be_filled") (i := 55) F_may_be_filled⟩
  have d_is_inherited : D1 P w K mg base "is_inherited" "value" 3 (spQ K okInh isInh) _ _ := ⟨ok_inh F_is_inherited N hall g_MOST_INHERITED_NAMES d_is_marked d_are_names, He.glo_ok X G (c.fact 74 (f := .glo "is_inherited") rfl), F_is_inherited.kp, K1b1 (x := "is_inherited") (i := 57) F_is_inherited⟩
  have d_sizes_in : D1 P w K mg base "sizes_in" "entries" 11 (spSz0 K) _ _ := ⟨ok_sz0 F_sizes_in d_is_size d_is_repeat d_is_filler, He.glo_ok X G (c.fact 75 (f := .glo "sizes_in") rfl), F_sizes_in.kp, K1b1 (x := "sizes_in") (i := 54) F_sizes_in⟩
  have d_sizes_in : D1 P w K mg base "sizes_in" "entries" 12 (spSz K) _ _ := ⟨ok_sz F_sizes_in d_is_size d_is_repeat d_is_filler d_sizes_in, He.glo_ok X G (c.fact 75 (f := .glo "sizes_in") rfl), F_sizes_in.kp, K1b1 (x := "sizes_in") (i := 54) F_sizes_in⟩
  have d_are_entries : D1 P w K mg base "are_entries" "value" 13 (spQ K okEnt areEnt) _ _ := ⟨ok_ae F_are_entries N hall g_MOST_SIZES d_is_entry d_sizes_in d_is_filler d_may_be_filled, He.glo_ok X G (c.fact 76 (f := .glo "are_entries") rfl), F_are_entries.kp, K1b1 (x := "are_entries") (i := 56) F_are_entries⟩
  have d_is_template : D1 P w K mg base "is_template" "value" 14 (spQ K (fun d => okInh d ∧ okEnt d) fun d => isInh d || areEnt d) _ _ := ⟨ok_tp F_is_template d_is_inherited d_are_entries, He.glo_ok X G (c.fact 77 (f := .glo "is_template") rfl), F_is_template.kp, K1b1 (x := "is_template") (i := 58) F_is_template⟩
  have d_is_field_word : D1 P w K mg base "is_field_word" "value" 2 (spQ K okZ isFW) _ _ := ⟨ok_fw F_is_field_word N hs g_NO_FIELD d_is_name, He.glo_ok X G (c.fact 78 (f := .glo "is_field_word") rfl), F_is_field_word.kp, K1b1 (x := "is_field_word") (i := 30) F_is_field_word⟩
  have d_is_field_row : D1 P w K mg base "is_field_row" "value" 3 (spQ K okNs isFRow) _ _ := ⟨ok_fr F_is_field_row N hall g_MOST_FIELD_COLUMNS d_is_field_word, He.glo_ok X G (c.fact 79 (f := .glo "is_field_row") rfl), F_is_field_row.kp, K1b1 (x := "is_field_row") (i := 31) F_is_field_row⟩
  have d_field_cells : D1 P w K mg base "field_cells" "fields" 1 (spFC K) _ _ := ⟨ok_fc F_field_cells N g_NO_FIELD, He.glo_ok X G (c.fact 80 (f := .glo "field_cells") rfl), F_field_cells.kp, K1b1 (x := "field_cells") (i := 32) F_field_cells⟩
  have d_is_rectangle : D1 P w K mg base "is_rectangle" "cells" 1 (spRect) _ _ := ⟨ok_rc F_is_rectangle N hmax hmin, He.glo_ok X G (c.fact 81 (f := .glo "is_rectangle") rfl), F_is_rectangle.kp, K1b1 (x := "is_rectangle") (i := 33) F_is_rectangle⟩
  have d_wrong_field_row : D1 P w K mg base "wrong_field_row" "fields" 4 (spWF K) _ _ := ⟨ok_wf F_wrong_field_row N hany g_MOST_FIELD_ROWS d_is_field_row d_field_cells d_is_rectangle, He.glo_ok X G (c.fact 82 (f := .glo "wrong_field_row") rfl), F_wrong_field_row.kp, K1b1 (x := "wrong_field_row") (i := 34) F_wrong_field_row⟩
  have d_check_grid : D2 P w K mg base "check_grid" "part" "is_right" 1 (spCG) _ _ := ⟨ok_cg F_check_grid N, He.glo_ok X G (c.fact 83 (f := .glo "check_grid") rfl), F_check_grid.kp, K1b2 (x := "check_grid") (i := 66) F_check_grid⟩
  have d_check_fields : D1 P w K mg base "check_fields" "fields" 5 (spWF K) _ _ := ⟨ok_cf F_check_fields N d_wrong_field_row, He.glo_ok X G (c.fact 84 (f := .glo "check_fields") rfl), F_check_fields.kp, K1b1 (x := "check_fields") (i := 67) F_check_fields⟩
  have d_check_further_sizes : D2 P w K mg base "check_further_sizes" "part" "sizes" 9 (spFS K) _ _ := ⟨ok_fs F_check_further_sizes N g_MOST_FURTHER_SIZES d_is_size, He.glo_ok X G (c.fact 85 (f := .glo "check_further_sizes") rfl), F_check_further_sizes.kp, K1b2 (x := "check_further_sizes") (i := 68) F_check_further_sizes⟩
  have d__law_draw : D2 P w K mg base "_law_draw" "well" "many" 1 (spDraw) _ _ := ⟨ok_draw F__law_draw N.tint, He.glo_ok X G (c.fact 86 (f := .glo "_law_draw") rfl), F__law_draw.kp, K1b2 (x := "_law_draw") (i := 70) F__law_draw⟩
  have d__law_one : D2 P w K mg base "_law_one" "well" "some" 2 (spOne K) _ _ := ⟨ok_one F__law_one N d__law_draw, He.glo_ok X G (c.fact 87 (f := .glo "_law_one") rfl), F__law_one.kp, K1b2 (x := "_law_one") (i := 71) F__law_one⟩
  have d__law_fixed : D1 P w K mg base "_law_fixed" "well" 2 (spDat K 2 fun d => fixB d = true) _ _ := ⟨ok_fx F__law_fixed N d__law_draw, He.glo_ok X G (c.fact 88 (f := .glo "_law_fixed") rfl), F__law_fixed.kp, K1b1 (x := "_law_fixed") (i := 73) F__law_fixed⟩
  have d__law_share : D1 P w K mg base "_law_share" "well" 2 (spDat K 1 fun d => shrB d = true) _ _ := ⟨ok_sh F__law_share N d__law_draw, He.glo_ok X G (c.fact 89 (f := .glo "_law_share") rfl), F__law_share.kp, K1b1 (x := "_law_share") (i := 74) F__law_share⟩
  have d__law_size : D1 P w K mg base "_law_size" "well" 3 (spDat K 10 fun d => sizB d = true) _ _ := ⟨ok_lsz F__law_size N d__law_draw d__law_one d__law_fixed d__law_share, He.glo_ok X G (c.fact 90 (f := .glo "_law_size") rfl), F__law_size.kp, K1b1 (x := "_law_size") (i := 75) F__law_size⟩
  have d__law_counted : D1 P w K mg base "_law_counted" "well" 3 (spDat K 10 fun d => cntB d = true) _ _ := ⟨ok_ct F__law_counted N d__law_draw d__law_one d__law_fixed d__law_share, He.glo_ok X G (c.fact 91 (f := .glo "_law_counted") rfl), F__law_counted.kp, K1b1 (x := "_law_counted") (i := 76) F__law_counted⟩
  have d__law_names : D1 P w K mg base "_law_names" "well" 3 (spDat K 3 fun d => nmsB d = true) _ _ := ⟨ok_lnm F__law_names N d__law_draw d__law_one, He.glo_ok X G (c.fact 92 (f := .glo "_law_names") rfl), F__law_names.kp, K1b1 (x := "_law_names") (i := 77) F__law_names⟩
  have d__law_plain : D3 P w K mg base "_law_plain" "well" "many" "with_fixed" 4 (spPl K) _ _ := ⟨ok_pl F__law_plain N d__law_draw d__law_names d__law_counted d__law_size, He.glo_ok X G (c.fact 93 (f := .glo "_law_plain") rfl), F__law_plain.kp, K1b3 (x := "_law_plain") (i := 78) F__law_plain⟩
  have d__law_template : D2 P w K mg base "_law_template" "well" "with_fill" 5 (spTp K) _ _ := ⟨ok_tm F__law_template N d__law_draw d__law_one d__law_plain, He.glo_ok X G (c.fact 94 (f := .glo "_law_template") rfl), F__law_template.kp, K1b2 (x := "_law_template") (i := 79) F__law_template⟩
  have d__law_fields : D1 P w K mg base "_law_fields" "well" 2 (spFl K) _ _ := ⟨ok_fl F__law_fields N d__law_draw, He.glo_ok X G (c.fact 95 (f := .glo "_law_fields") rfl), F__law_fields.kp, K1b1 (x := "_law_fields") (i := 80) F__law_fields⟩
  have d__law_values : D1 P w K mg base "_law_values" "well" 6 (spVl K) _ _ := ⟨ok_vl F__law_values N d__law_draw d__law_one d__law_template d__law_fields d__law_names d__law_size d__law_fixed, He.glo_ok X G (c.fact 96 (f := .glo "_law_values") rfl), F__law_values.kp, K1b1 (x := "_law_values") (i := 81) F__law_values⟩
  have d__law_parts : D1 P w K mg base "_law_parts" "grid" 1 (spPt K  (ga K "Grid")) _ _ := ⟨ok_pt F__law_parts T, He.glo_ok X G (c.fact 97 (f := .glo "_law_parts") rfl), F__law_parts.kp, K1b1 (x := "_law_parts") (i := 83) F__law_parts⟩
  have d_Grid : DG P w K mg base (ga K "Grid") _ _ := ⟨MG, ok_gi F_Grid__init__ N T W d_check_grid d_check_fields d_check_further_sizes d_is_template d_is_word d_is_fixed, T.gC⟩
  have eG : DE P w K mg base (spGE K (ga K "Grid")) _ _ := ⟨ok_ge F_Grid__eq__ N T (of_decide_eq_true xl), F_Grid__eq__.bindsN fun _ _ _ _ _ _ us hl => match us, hl with | [_, _], _ => rfl⟩
  have FGr : FG K (aE0 K) (aE1 K) (aE2 K) (aT3 K) (aT4 K) _ _ := F_Grid__init__
  have kb := g_kb FGr
  obtain ⟨ds0, v0, b0⟩ := g_b0 FGr
  obtain ⟨ds2, v2, b2⟩ := g_b2 FGr
  have dd : ∀ H, DpAll K H (dflG (aE0 K) (aE1 K) (aE2 K) (aT3 K) (aT4 K)) grD.ds := fun H =>
    .cons (.tup (tupA_ok y1 H) .nil) (.cons (.tup (tupA_ok y2 H) .nil) (.cons (.tup (tupA_ok y3 H) .nil) (.cons (.tup (tupA_ok y4 H) (.cons (.str _) .nil)) (.cons (.tup (tupA_ok y5 H) (.cons (.str _) .nil))
      (.cons (.str _) (.cons (.bl _) (.cons (.int _) (.cons (.int _) (.cons (.str _) (.cons (.str _) (.cons (.str _) (.cons (.str _) .nil))))))))))))
  have d__law_made : D1 P w K mg base "_law_made" "v" 17 (spMd K (ga K "Grid")) _ _ := ⟨ok_md F__law_made d_Grid kb, He.glo_ok X G (c.fact 98 (f := .glo "_law_made") rfl), F__law_made.kp, K1b1 (x := "_law_made") (i := 82) F__law_made⟩
  have R := ok_right F__law_right N T xn d__law_values d__law_parts d__law_made d_Grid b0 v0 b2 v2 dd eG
  exact ok_law F_law F__law_right R (He.glo_ok X G (c.fact 99 (f := .glo "_law_right") rfl)) N.tint N.enu
end K5

set_option Elab.async false
set_option linter.all false
set_option maxRecDepth 100000
set_option maxHeartbeats 0
namespace K5
open PySem PySem.Spec PyProof.Rows L2
abbrev R : PySem.W.OpenRow := PySem.W.OpenLaw.row PySem.Challenge.rw_gridlanes_k05_whole_grids_made
abbrev hk : PySem.W.Hook := hookP 800 fa fn exB
def ob (s : PySem.W.SharedT) : AlP := obsPG 800 fa fn exB (HandSHeadRun.getT s)
theorem ob_eq (s : PySem.W.SharedT) : ob s = hk.obs s.abs := obsPG_eq (HandSHeadRun.getT_eq s)
def lo1 : List Str := ["LaneError", "NoGrid", "Moment", "is_integer", "is_number", "is_length", "fraction_of", "number_of", "is_moving", "moving_parts", "moving_of", "moving_sum", "keep_turn", "is_above", "at_most"]
def lo2 : List Str := ["LETTERS", "NAME_SIGNS", "LONGEST_NAME", "is_word", "is_marked", "is_name", "are_names", "NO_FIELD", "MOST_FIELD_ROWS", "MOST_FIELD_COLUMNS", "is_field_word", "is_field_row", "field_cells", "is_rectangle", "wrong_field_row"]
def lo3 : List Str := ["SIZE_WORDS", "MOST_REPEATS", "MOST_SIZES", "MOST_INHERITED_NAMES", "is_part", "is_share", "is_fixed", "is_plain_size", "is_between", "is_upto", "is_size", "low_of", "high_of", "is_names_entry", "are_inner_entries"]
def lo4 : List Str := ["is_repeat", "is_filler", "is_entry", "sizes_in", "may_be_filled", "are_entries", "is_inherited", "is_template", "FLOWS", "LANES_WAYS", "WAYS_ACROSS", "WAYS_DOWN", "MOST_FURTHER_SIZES", "Grid", "check_grid"]
def lo5 : List Str := ["check_fields", "check_further_sizes", "_law_draw", "_law_one", "_law_length", "_law_fixed", "_law_share", "_law_size", "_law_counted", "_law_names", "_law_plain", "_law_template", "_law_fields", "_law_values", "_law_made"]
def lo6 : List Str := ["_law_parts", "_law_right"]
def loo : List Str := lo1 ++ lo2 ++ lo3 ++ lo4 ++ lo5 ++ lo6
theorem run (w : World) : HandSHeadRun.RunEqI R (PySem.W.view R.prog [0, 85]) hk ob 60000 loo w := by
  unfold HandSHeadRun.RunEqI
  kernel_rfl
end K5
open PySem PySem.W PySem.Calls PyProof.Rows
theorem PySem.Challenge.cw_gridlanes_k05_whole_grids_made_holds : PySem.Challenge.rw_gridlanes_k05_whole_grids_made.Holds := by
  w_on; o_law
  refine HandSHeadRun.head_imp (r := OpenLaw.row PySem.Challenge.rw_gridlanes_k05_whole_grids_made) (q := view (OpenLaw.row PySem.Challenge.rw_gridlanes_k05_whole_grids_made).prog [0, 85]) (H := K5.hk) (ob := K5.ob) (M := 60000) (loose := K5.loo) (d := HandSHeadRun.topDef (OpenLaw.row PySem.Challenge.rw_gridlanes_k05_whole_grids_made).prog 85) (kwd := []) K5.ob_eq
    K5.run (by kernel_rfl) (by kernel_rfl) (by kernel_rfl) (by rfl) (by first | assumption | decide +kernel) (by decide +kernel) ⟨rfl, rfl, rfl, rfl, rfl, by decide +kernel⟩ ?hw ?hc
  case hw => w_witness2
  case hc =>
    refine L2.walk_ofE (l := PySem.Challenge.rw_gridlanes_k05_whole_grids_made) (n := 63) (k := 19) (x := "script") (CX := L2.CX0) rfl (by decide) (by kernel_rfl) ⟨rfl, by decide, by decide⟩ ?F (fun _ _ _ _ z => z)
    intro w mg fa h Y G hmg0
    obtain ⟨K, KX, c, x⟩ := Y
    have hmg : mg ("law" : PySem.Str) = some (.ref fa) := by
      have e : (HandSHeadRun.topDef (OpenLaw.row PySem.Challenge.rw_gridlanes_k05_whole_grids_made).prog 85).name = ("law" : PySem.Str) := by kernel_rfl
      rw [← e]
      exact hmg0
    obtain ⟨fd, hb, hF⟩ := K5.facts (P := (PySem.Challenge.rw_gridlanes_k05_whole_grids_made).prog) (w := w) KX G hmg c x
    exact ⟨K, fd, K5.spLaw K, KX, hb, fun H a ns hl _ hS => ⟨a, ns, rfl, hS, hl, fun _ => rfl⟩, hF⟩
#print axioms PySem.Challenge.cw_gridlanes_k05_whole_grids_made_holds
