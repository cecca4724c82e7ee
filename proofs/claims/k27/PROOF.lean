import PyProof.Rows.All
import Wide.All
import OpenK.AllK
import Wide.FinOn
import KE.KStateDown
import HandS.ForMost
import HandS.IsInst
import HandS.Defaults
import HandS.Flow
import HandS.Gcd
import HandS.Wide
import HandS.OwnEq
import HandS.Style
import HandS.Exc
import PyProof.InstNe
import KE.GoesEnum
import KE.GoesMore
import HandS.OwnIter
import KE.KDictZip
import HandS.Head0
import HandS.Head1
import HandS.Head2
import HandS.HeadEnd
import HandS.HeadHook1
import HandS.HeadHook2
import HandS.Text
import HandS.SetKeys
import HandS.DictComp
import HandS.Walk
import HandS.TupMul
import HandS.Base
import HandS.CallLocal
import HandS.Conv
import HandS.MakeKwOnly
import HandS.Head3
import PySem.Challenge.RW_gridlanes_k27_sizes_of_all_lanes
set_option Elab.async false
set_option linter.all false
set_option maxRecDepth 100000
set_option maxHeartbeats 4000000
/-! == and != by an own __eq__, both answers; enumerate of a tuple; list(zip(list, list)). -/
namespace L2
open PySem PySem.Spec PyProof.Rows
section
variable {X : Cx} {CX : CXT} {C f : Addr} {fd : FuncData} {ps : List Str} {n : Nat} {sp : Sp} {E : XK}
/-- what is asked of x == y, x an instance of the class at C whose own __eq__ keeps sp -/
def rOwnEq (K : PySem.W.Frag) (C : Addr) (sp : Sp) (E : XK) (neg : Bool) : R2 := fun x y H Q => ∃ a dx fs t, x = .ref a ∧ H a = some (.ins C dx fs) ∧ TyX K H y t ∧ PySem.W.notFirst K C t = true ∧ sp [.ref a, y] H (fun v H' => ∃ b, v = .bl b ∧ Q (.bl (if neg then !b else b)) H') E
theorem own_call {A : Around} (F : FnOk X.prog X.w X.K X.mg X.base CX n f fd ps sp) (hb : Binds X.K fd ps []) (hx : Passes CX X E) (sb : Sub X n A) {pins : List (Addr × Obj)} {s : Shared} {σ : St} {H : Hp} {a : Addr} {y : V} {u : Value} {R : Bool → Hp → Prop}
    (I : Inv X pins σ H s) (ry : RelV y u) (h : sp [.ref a, y] H (fun v H' => ∃ b, v = .bl b ∧ R b H') E) :
    wpAny (model X.prog X.w) A (call (.ref f) [.ref a, u]) (fun v s' => ∃ b H', v = .bool b ∧ Inv X pins σ H' s' ∧ R b H') X.xe s := by
  have e0 : Env0 X.prog X.w X.K X.mg X.base A X.stack s H := by
    have e := I.env0
    exact ⟨by rw [sb.fr]; exact e.frames, e.mod, e.bs, e.bsz, e.funs, e.frf, e.hok, e.bare⟩
  have hl := F.len _ _ _ _ h
  have r2 : Vals [V.ref a, y] [Value.ref a, u] := .cons rfl (.cons ry .nil)
  refine wpAny_call (codeAny_mono (F.run A X.stack s H ⟨[.ref a, u], []⟩ [.ref a, u] [.ref a, y] _ E sb.room e0 (by
    have := hb s [.ref a, u] I.kIn (by simpa using hl)
    simpa using this) r2 h) fun r s' hq => ?_)
  cases r with
  | error e => exact hx pins σ H s e s' I hq
  | ok fl =>
    cases fl with
    | ret w =>
      obtain ⟨z, H', I', rz, b, ez, q⟩ := I.after hq
      subst ez
      cases rz
      exact ⟨b, H', rfl, I', q⟩
    | next => exact False.elim hq
    | brk => exact False.elim hq
    | cont => exact False.elim hq
theorem op_eqOwn (F : FnOk X.prog X.w X.K X.mg X.base CX n f fd ps sp) (hs : PySem.W.findIn X.K (.ref C) "__eq__" = some (some (.ref f))) (hf : PySem.W.isFn X.K (.ref f) = true) (hb : Binds X.K fd ps []) (hx : Passes CX X E) (hr : Room n X.A) : OpR X (compareOp .Eq) (rOwnEq X.K C sp E false) := by
  intro pins s σ H x y v u Q I rx ry hq
  obtain ⟨a, dx, fs, t, rfl, ha, ty, hn, h⟩ := hq
  cases rx
  show wpAny (model X.prog X.w) X.A (richCompare .Eq (.ref a) u) (EP X pins σ Q) X.xe s
  obtain ⟨mA, J, _⟩ := ins_get I.hok ha
  obtain ⟨od, J, _⟩ := J.look
  obtain ⟨P, Z, p, _⟩ := kit_of I ry ty
  obtain ⟨m, hF⟩ := I.fr
  refine PySem.W.cmp_K (op := .Eq) (tb := t) hr.units0 hF I.ok.mod.kin J (Z.ty _ _ I.kIn p) hn hs hf ?_
  refine thn (own_call (R := fun b H' => Q (.bl b) H') F hb hx ⟨hr, rfl⟩ I ry h) fun v s' hv => ?_
  obtain ⟨b, H', rfl, I', q⟩ := hv
  exact ⟨.bl b, H', I', rfl, q⟩
theorem ne_try {A : Around} {K : PySem.W.Frag} {prog : Program} {w : World} {E2 : Value → Shared → Prop} {s : Shared} {x : Addr} {u : Value} {ox : Obj} {od : Option Obj} {Q : Option Value → Shared → Prop} (hu : A.units + 1 < cLine) (Y : K.In s.heap) (I : PySem.W.InstAt s.heap x ox C od)
    (hne : PySem.W.findIn K (.ref C) "__ne__" = some (some (.builtin "object.__ne__"))) (hm : PySem.W.mroIn K C (.type "object") = some true) (hs : PySem.W.findIn K (.ref C) "__eq__" = some (some (.ref f))) (hf : PySem.W.isFn K (.ref f) = true)
    (h : wpAny (model prog w) A.in1 (call (.ref f) [.ref x, u]) (fun v s' => ∃ b, v = .bool b ∧ Q (some (.bool (!b))) s') E2 s) : wpAny (model prog w) A (tryCompare (.ref x) "__ne__" u) Q E2 s := by
  have fin : wpAny (model prog w) A (call (.builtin "object.__ne__") ([.ref x] ++ [u])) (fun v s' => ∃ b, v = .bool b ∧ Q (some (.bool b)) s') E2 s := by
    have sub : PySem.W.Looks (model prog w) s.heap (isInstance (.ref x) (.type "object")) true := I.type.andThen (PySem.W.looks_mroIn Y hm)
    refine wpAny_call (codeAny_call_builtin F.cmp_object.ne.plain F.cmpEntry_ne (PySem.W.check_slot F.cmpKind_ne F.cmpSplit_ne sub (F.cmpArgs_ne _ _) ?_))
    unfold Builtin.«object.__ne__»
    refine wpAny_bind (wpAny_of_eq (a := ((Value.ref x : Value), [u])) (by first | rfl | (simp only [slotArgs]; rfl)) ?_)
    refine wpAny_bind (wpAny_cRoomFor hu ?_)
    refine wpAny_bind (PySem.W.ifBound_K Y I hs hf (thn h fun v s' hv => ?_))
    obtain ⟨b, rfl, q⟩ := hv
    refine wpAny_bind (wpAny_truthy_bool ?_)
    exact wpAny_pure ⟨!b, rfl, q⟩
  have fin2 : wpAny (model prog w) A (call (.builtin "object.__ne__") ([.ref x] ++ [u]) >>= fun v => pure (some v)) (fun r s' => ∃ b, r = some (.bool b) ∧ Q (some (.bool b)) s') E2 s := wpAny_bind (thn fin fun v s' ⟨b, e, q⟩ => wpAny_pure ⟨b, by rw [e], q⟩)
  unfold tryCompare
  refine wpAny_bind (wpAny_mono (Q := fun r s' => ∃ b, r = some (.bool b) ∧ Q (some (.bool b)) s') ?_ (fun r s' ⟨b, e, q⟩ => by subst e; exact wpAny_pure q) fun _ _ z => z)
  simp only [callSpecialIfBound?, bindSpecialIfBound?]
  refine wpAny_holding (wpAny_bind (wpAny_bind (wpAny_bind (I.type.here ((PySem.W.looks_findIn Y hne).here ?_)))))
  refine wpAny_bind (wpAny_askSetting (wpAny_ite ?_))
  have hbd := F.cmp_object.ne.bind (.ref x)
  split
  · rw [hbd]
    exact wpAny_bind (wpAny_pure (wpAny_pure (by exact fin2)))
  · rw [hbd]
    exact wpAny_tryCatch (wpAny_bind (wpAny_pure (wpAny_pure (by exact fin2))))
theorem op_neOwn (F : FnOk X.prog X.w X.K X.mg X.base CX n f fd ps sp) (hs : PySem.W.findIn X.K (.ref C) "__eq__" = some (some (.ref f))) (hf : PySem.W.isFn X.K (.ref f) = true) (hne : PySem.W.findIn X.K (.ref C) "__ne__" = some (some (.builtin "object.__ne__")))
    (hm : PySem.W.mroIn X.K C (.type "object") = some true) (hb : Binds X.K fd ps []) (hx : Passes CX X E) (hr : Room (n + 1) X.A) : OpR X (compareOp .NotEq) (rOwnEq X.K C sp E true) := by
  intro pins s σ H x y v u Q I rx ry hq
  obtain ⟨a, dx, fs, t, rfl, ha, ty, hn, h⟩ := hq
  cases rx
  show wpAny (model X.prog X.w) X.A (richCompare .NotEq (.ref a) u) (EP X pins σ Q) X.xe s
  obtain ⟨mA, J, _⟩ := ins_get I.hok ha
  obtain ⟨od, J, _⟩ := J.look
  obtain ⟨P, Z, p, _⟩ := kit_of I ry ty
  have one : wpAny (model X.prog X.w) X.A (tryCompare (.ref a) "__ne__" u) (fun r s' => ∃ b, r = some (.bool b) ∧ EP X pins σ Q (.bool b) s') X.xe s := by
    refine ne_try (hu_of hr) I.kIn J hne hm hs hf ?_
    refine thn (own_call (R := fun b H' => Q (.bl (!b)) H') F hb hx ⟨hr.in1, rfl⟩ I ry h) fun v s' hv => ?_
    obtain ⟨b, H', rfl, I', q⟩ := hv
    exact ⟨b, rfl, _, rfl, .bl (!b), H', I', rfl, q⟩
  have Y := I.kIn
  unfold richCompare
  simp only [oneThing_ref]
  refine wpAny_holding (wpAny_bind (wpAny_cRoomFor (Nat.lt_of_succ_lt (hu_of hr)) ?_))
  rw [cmpInfo_NotEq]
  dsimp only
  refine wpAny_bind (J.type.here (wpAny_bind ((Z.ty _ _ I.kIn p).here ?_)))
  split
  · rename_i q
    have e : PySem.W.subIn X.K t (.ref C) = some false := by
      rcases Bool.or_eq_true_iff.mp hn with e | e
      · rw [beq_iff_eq.mp e] at q; simp at q
      · exact beq_iff_eq.mp e
    refine wpAny_bind ((PySem.W.looks_subIn Y e).here ?_)
    simp only [Bool.false_eq_true, if_false]
    refine wpAny_bind (wpAny_mono one (fun r s' z => ?_) fun _ _ e => e)
    obtain ⟨v, rfl, hq⟩ := z
    exact wpAny_pure hq
  · refine wpAny_bind (wpAny_pure ?_)
    simp only [Bool.false_eq_true, if_false]
    refine wpAny_bind (wpAny_mono one (fun r s' z => ?_) fun _ _ e => e)
    obtain ⟨v, rfl, hq⟩ := z
    exact wpAny_pure hq
end
end L2

set_option Elab.async false
set_option linter.all false
set_option maxRecDepth 100000
set_option maxHeartbeats 4000000
namespace L2
open PySem PySem.Spec PyProof.Rows
/-! ### enumerate(tuple) -/
/-- enumerate(v) of what begins as told -/
theorem en_new {v : Value} {o : Obj} {H : Heap → Prop} (B : Begins v o H) :
    Meets (Builtin.«enumerate.__new__» ⟨[.type "enumerate", v], []⟩) (fun _ R s => H s.heap ∧
      R (.ok (.ret (.ref (s.heap.push o).objs.size))) { s with heap := (s.heap.push o).push { cls := .type "enumerate", data := .fields #[.none, .bool false, .ref s.heap.objs.size, rawInt 0, .none, .none] } }) :=
  .of_wp fun prog w A R s h => by
    obtain ⟨hp, g, d, tk, os⟩ := s; obtain ⟨h1, h⟩ := h
    have hsub := sub_enumerate
    have q1 : ∀ {A' : Around} {E : Value → Shared → Prop} {Q : Value → Shared → Prop}, Q (.ref hp.objs.size) ⟨hp.push o, g, d, tk, os⟩ → wpAny (model prog w) A' (pyIter v) Q E ⟨hp, g, d, tk, os⟩ :=
      fun q => B.iter prog w _ _ ⟨hp, g, d, tk, os⟩ _ h1 q
    wp_walk using q1
    refine wpAny_stack_any fun st => wpAny_pure ?_
    split
    · rename_i c _ _ _ _ _
      cases (c == Value.type "enumerate")
      · wp_walk using q1
        exact ⟨_, rfl, h⟩
      · wp_walk using q1
        exact ⟨_, rfl, h⟩
    · wp_walk using q1
      exact ⟨_, rfl, h⟩
theorem en_call {prog : Program} {w : World} {A : Around} {E : Value → Shared → Prop} {s : Shared} {v : Value} {o : Obj} {H : Heap → Prop} {Q : Value → Shared → Prop} (B : Begins v o H) (h1 : H s.heap)
    (h : ∀ h', IsEnum h' (s.heap.objs.size + 1) s.heap.objs.size 0 .none → h'.get? s.heap.objs.size = some o → h'.objs.size = s.heap.objs.size + 2 →
      (∀ b o, s.heap.get? b = some o → h'.get? b = some o) → Q (.ref (s.heap.objs.size + 1)) { s with heap := h' }) :
    wpAny (model prog w) A (call (.type "enumerate") [v]) Q E s := by
  refine callType_new F.called_enumerate (by decide) (F.typeCall_enumerate_1 _) (F.newCall_enumerate_1 _) (fun obj => F.args_object_init_2 obj _) F.entry_enumerate_new (en_new B) ⟨h1, ?_⟩
  have hz : (s.heap.push o).objs.size = s.heap.objs.size + 1 := Heap.size_push ..
  show _ ∧ _
  rw [hz]
  have he : IsEnum ((s.heap.push o).push { cls := .type "enumerate", data := .fields #[.none, .bool false, .ref s.heap.objs.size, rawInt 0, .none, .none] }) (s.heap.objs.size + 1) s.heap.objs.size 0 .none := by
    have := Heap.get?_push_size (s.heap.push o) (o := { cls := .type "enumerate", data := .fields #[.none, .bool false, .ref s.heap.objs.size, rawInt 0, .none, .none] }) rfl
    rw [hz] at this; exact this
  exact ⟨⟨_, he, rfl⟩, h _ he (Heap.get?_push_of_some _ (Heap.get?_push_size _ B.free)) (by rw [Heap.size_push, hz]) fun b o x => Heap.get?_push_of_some _ (Heap.get?_push_of_some _ x)⟩
theorem tup_over {prog : Program} {w : World} {A : Around} (hh : A.handled = none) (it t : Addr) (hne : t ≠ it) (items : Array Value) (n : Nat) (hn : items[n]? = none) :
    Draws prog w A it [it, t] n (fun _ _ => False) (fun j h => j = n ∧ h.IsTupleIter it t n ∧ h.IsTuple t items) where
  live := fun _ _ st => let ⟨o, ho, _⟩ := st.2.1; ⟨o, ho⟩
  frame := fun _ _ _ st hk => ⟨st.1, st.2.1.at fun o e => hk it (by simp) o e, st.2.2.at fun o e => hk t (by simp) o e⟩
  item := fun i s Q E hi st hQ => absurd st.1 (Nat.ne_of_lt hi)
  done := fun s Q E st hE => wpAny_nextOf_tuple_end hh st.2.1 st.2.2 hn hE
def ItT (K : PySem.W.Frag) (a : Addr) : It :=
  ⟨fun i H => ∃ (xs : List V) (x : V), SqT K H a xs ∧ xs[i]? = some x, fun i H v H' => ∃ T x, v = .ref T ∧ H T = none ∧ H' = upd H T (.tup [.int (i : Nat), x]) ∧ ∀ xs, SqT K H a xs → xs[i]? = some x, fun i H => ∃ xs : List V, SqT K H a xs ∧ xs.length ≤ i⟩
theorem turn_enumT {P : Program} {w : World} {K : PySem.W.Frag} {elts : List Expr} {kk : Nat} {tpos : Pos} (a e it : Addr) :
    Turn P w K (.Tuple elts kk tpos) (ItT K a) [e, it] e (fun i h => (∃ old, IsEnum h e it ((i : Nat) : Int) old) ∧ h.IsTupleIter it a i ∧ e ≠ it ∧ e ≠ a ∧ it ≠ a) where
  mem := by simp
  obj := fun i h st b hb => by
    obtain ⟨⟨old, he⟩, ⟨o, ho, hc, hd⟩, _⟩ := st
    rcases (show b = e ∨ b = it by simpa using hb) with z | z
    · rw [z]
      exact ⟨_, he, fun v q => nomatch q⟩
    · rw [z]
      exact ⟨o, ho, fun v q => by rw [hd] at q; cases q⟩
  keep := fun i h h' st k => by
    obtain ⟨⟨old, he⟩, hi, r⟩ := st
    exact ⟨⟨old, k e (by simp) _ he⟩, hi.at fun o q => k it (by simp) o q, r⟩
  item := by
    intro X hP hw hK hc i pins s σ H E I hf st hg
    subst hP hw hK
    obtain ⟨⟨old, he⟩, hit, hne, hea, hia⟩ := st
    obtain ⟨xs, x, hq, hx⟩ := hg
    obtain ⟨its, rv, p, hz⟩ := I.tuple hq
    obtain ⟨u, hu, ru⟩ := rv.get hx
    have hel : e < s.heap.objs.size := Heap.lt_size he
    have hil : it < s.heap.objs.size := by obtain ⟨_, q, _⟩ := hit; exact Heap.lt_size q
    have hlen : i < its.toArray.size := by
      rw [List.size_toArray]
      exact (List.getElem?_eq_some_iff.mp hu).1
    have DD := Draws.tuple (prog := X.prog) (w := X.w) (A := X.A.in1) (I.ok.hd hc) it a (Ne.symm hia) its.toArray
    refine wpAny_pyNext_enum_itemC DD he ⟨hit, p⟩ hlen hne (by simp [hne, hea]) fun y h' tk hy ho hst hT hsz hk => ?_
    have ey : y = u := by
      have z : its.toArray[i]? = some y := hy
      rw [List.getElem?_toArray, hu] at z
      exact (Option.some.inj z).symm
    subst ey
    refine ⟨_, rfl, wpAny_letOwnedTupleGo_enum (s := { s with heap := h', toks := tk + 1 }) ho fun h'' he' sb => ?_⟩
    have hT2 : h''.get? s.heap.objs.size = some { cls := .type "tuple", data := .seq #[.int i tk, y] } := (sb.2 _ (Nat.ne_of_gt hel)).trans hT
    have new : ObjOk X.prog X.w (upd H s.heap.objs.size (.tup [.int (i : Nat), x])) h'' s.heap.objs.size (.tup [.int (i : Nat), x]) :=
      ⟨by show 2 ≤ sizeLine; decide, [.int i tk, y], .cons ⟨_, rfl⟩ (.cons ru .nil), ⟨_, hT2, rfl, _, rfl⟩⟩
    have I1 : Inv X pins σ (upd H s.heap.objs.size (.tup [.int (i : Nat), x])) { s with heap := h'', toks := tk + 1 } :=
      I.turnedNew (ch := [e, it]) (fun b ob hb q => (sb.2 b (fun z => hb (by simp [z]))).trans (hk b ob (fun z => hb (by simp [z])) (fun z => hb (by simp [z])) q)) hf (Nat.le_refl _) new
    refine ⟨.ref s.heap.objs.size, _, I1, rfl, ⟨_, x, rfl, I.hok.fresh (Nat.le_refl _), rfl, fun ys hy => by rw [I.tuple_inj hy hq]; exact hx⟩, ⟨⟨y, ?_⟩, hst.1.at fun o q => (sb.2 it (Ne.symm hne)).trans q, hne, hea, hia⟩, fun b hb => ?_⟩
    · have e1 : ((i + 1 : Nat) : Int) = (i : Int) + 1 := by omega
      rw [e1]; exact he'
    · have hb' : b < s.heap.objs.size := by
        rcases (show b = e ∨ b = it by simpa using hb) with z | z
        · rw [z]; exact hel
        · rw [z]; exact hil
      rw [upd_ne (Nat.ne_of_lt hb')]
      exact (hf b hb).1
  done := by
    intro X hP hw hK hc i pins s σ H E I hf st hg
    subst hP hw hK
    obtain ⟨⟨old, he⟩, hit, hne, hea, hia⟩ := st
    obtain ⟨xs, hq, hx⟩ := hg
    obtain ⟨its, rv, p, hz⟩ := I.tuple hq
    obtain ⟨f0, f1, f2, f3, f4, f5⟩ := hf it (by simp)
    have hl := rv.length
    have hn : its.toArray[i]? = none := by
      rw [List.getElem?_toArray, List.getElem?_eq_none]
      omega
    have DD := tup_over (prog := X.prog) (w := X.w) (A := X.A.in1) (I.ok.hd hc) it a (Ne.symm hia) its.toArray i hn
    exact wpAny_pyNext_enum_endD DD he ⟨rfl, hit, p⟩ fun h' eb => ⟨rfl, I.turned (t' := s.toks) (fun b o hb q => eb b o hb q) f0 f1 f3 f4 f5⟩
  self := fun A i s Q E st h => let ⟨⟨_, he⟩, _⟩ := st; wpAny_pyIter_enum he h
def iEnumT (K : PySem.W.Frag) (ta : TA) : TI := fun σ H R => ta σ H fun vs H1 => ∃ a xs, vs = [.ref a] ∧ SqT K H1 a xs ∧ R (ItT K a) H1
theorem pi_enumT {X : Cx} {e : Expr} {ta : TA} {p pos tpos : Pos} {elts : List Expr} {kk : Nat} (hg : Gl X "enumerate") (hm : X.mg "enumerate" = none) (ha : PA X [e] ta) (hs : starEach [e] X.env = [(false, eval e X.env)] := by rfl) :
    PI X (.Tuple elts kk tpos) (.Call (.Name "enumerate" p) [e] [] pos) (iEnumT X.K ta) := by
  refine ⟨fun pins s σ H R I h => ?_⟩
  refine Call_ (ld_blt I hg hm boot_enumerate (PyProof.Rows.callWith_type1 (thn (ha.run pos pins s σ H _ I h) fun us s1 ⟨vs, H1, I1, r1, q1⟩ => ?_) hs rfl))
  obtain ⟨a, xs, ex, hq, q⟩ := q1
  subst ex
  cases r1 with
  | cons r rr =>
    cases rr
    cases r
    obtain ⟨its, rv, p', hz⟩ := I1.tuple hq
    have hal : a < s1.heap.objs.size := by obtain ⟨_, z, _⟩ := p'; exact Heap.lt_size z
    refine en_call (begins_tuple a its.toArray) p' fun h' he hit hsz hk => wpAny_pyIter_enum he ?_
    have I2 : Inv X pins σ H1 { s1 with heap := h' } := I1.kept (t' := s1.toks) hk
    refine ⟨s1.heap.objs.size + 1, [s1.heap.objs.size + 1, s1.heap.objs.size], _, _, H1, rfl, I2, turn_enumT a (s1.heap.objs.size + 1) s1.heap.objs.size,
      ⟨⟨.none, he⟩, ⟨_, hit, rfl, rfl⟩, Nat.succ_ne_self _, Nat.ne_of_gt (Nat.lt_succ_of_lt hal), Nat.ne_of_gt hal⟩, fun b hb => ?_, q⟩
    have hle : s1.heap.objs.size ≤ b := by
      rcases (show b = s1.heap.objs.size + 1 ∨ b = s1.heap.objs.size by simpa using hb) with z | z
      · rw [z]; exact Nat.le_add_right _ _
      · rw [z]; exact Nat.le_refl _
    exact I1.fpOk hle (I1.hok.fresh hle)
theorem for_enumT {K : PySem.W.Frag} {a : Addr} {xs : List V} {g : TG} {tb : TS} {D : Ends} {σ : St} {H : Hp} (Pv : Nat → St → Hp → Prop) (h0 : Pv 0 σ H) (hl : ∀ i σ H, i ≤ xs.length → Pv i σ H → SqT K H a xs)
    (hs : ∀ i x T σ H, xs[i]? = some x → Pv i σ H → H T = none → g (.ref T) σ (upd H T (.tup [.int (i : Nat), x])) fun σ2 H2 => tb { D with nx := Pv (i + 1), ct := Pv (i + 1), bk := D.nx } σ2 H2) (hd : ∀ σ H, Pv xs.length σ H → D.nx σ H) :
    ∃ W : Nat → Nat → St → Hp → Prop, (∃ m, W 0 m σ H) ∧ ∀ i m σ H, W i m σ H →
      ((ItT K a).stop i H ∧ D.nx σ H) ∨ ((ItT K a).go i H ∧ ∃ N : St → Hp → Prop, (∀ σ' H', N σ' H' → ∃ m', m' < m ∧ W (i + 1) m' σ' H') ∧ ∀ x H', (ItT K a).yld i H x H' → g x σ H' fun σ2 H2 => tb { D with nx := N, ct := N, bk := D.nx } σ2 H2) := by
  refine ⟨fun i m σ H => m = xs.length - i ∧ i ≤ xs.length ∧ Pv i σ H, ⟨xs.length, by simp, Nat.zero_le _, h0⟩, ?_⟩
  rintro i m σ H ⟨rfl, hi, p⟩
  have q := hl i σ H hi p
  by_cases hlt : i < xs.length
  · refine .inr ⟨⟨xs, xs[i], q, by simp [hlt]⟩, Pv (i + 1), fun σ' H' p' => ⟨xs.length - (i + 1), by omega, rfl, hlt, p'⟩, fun v H' y => ?_⟩
    obtain ⟨T, x, e, hT, e2, y⟩ := y
    subst e e2
    exact hs i x T σ _ (y xs q) p hT
  · have e : i = xs.length := by omega
    subst e
    exact .inl ⟨⟨xs, q, Nat.le_refl _⟩, hd σ H p⟩
end L2

set_option Elab.async false
set_option linter.all false
set_option maxRecDepth 100000
set_option maxHeartbeats 4000000
namespace L2
open PySem PySem.Spec PyProof.Rows
/-! ### list(zip(list, list)) -/
/-- a zip over the lists at a and b, k turns on -/
def ZL (q z TI TO i1 i2 a b : Addr) (k : Nat) (h : Heap) : Prop := IsPair h TI (.ref i1) (.ref i2) ∧ h.IsListIter i1 a k ∧ h.IsListIter i2 b k ∧
  ((IsZip h z TI TO .none ∧ ∃ x y, IsPair h TO x y) ∨ ∃ (T : Addr) (f : Bool) (oT : Obj), IsZipHeld h z TI TO T f ∧ h.get? T = some oT ∧ T ≠ q ∧ T ∉ [z, TI, TO, i1, i2])
theorem ZL.lt {q z TI TO i1 i2 a b : Addr} {k : Nat} {h : Heap} (x : ZL q z TI TO i1 i2 a b k h) : z < h.objs.size ∧ TI < h.objs.size ∧ i1 < h.objs.size ∧ i2 < h.objs.size := by
  obtain ⟨hTI, ⟨o1, e1, _⟩, ⟨o2, e2, _⟩, hz⟩ := x
  refine ⟨?_, Heap.lt_size hTI, Heap.lt_size e1, Heap.lt_size e2⟩
  rcases hz with ⟨hz, _⟩ | ⟨_, _, _, hz, _⟩ <;> exact Heap.lt_size hz
section
variable {X : Cx} {pins : List (Addr × Obj)} {σ : St} {H : Hp} {s : Shared} {q z TI TO i1 i2 a b : Addr} {A1 : Around} {E : Value → Shared → Prop}
theorem zl_next {k : Nat} {xs ys : List V} {x y : V} (D : ZipApart z TI TO i1 i2 a b) (hTO : TO < s.heap.objs.size) (hql : q < s.heap.objs.size) (I : Inv X pins σ H s) (hf : ∀ c ∈ [z, TI, TO, i1, i2], FpOk X pins H c) (st : ZL q z TI TO i1 i2 a b k s.heap) (hqx : SqL X.K H a xs) (hqy : SqL X.K H b ys) (hx : xs[k]? = some x) (hy : ys[k]? = some y) :
    wpAny (model X.prog X.w) A1 (pyNext (.ref z)) (fun r s' => ∃ T, r = some (.ref T) ∧ H T = none ∧ Inv X pins σ (upd H T (.tup [x, y])) s' ∧ (∀ c ∈ [z, TI, TO, i1, i2], FpOk X pins (upd H T (.tup [x, y])) c) ∧ ZL q z TI TO i1 i2 a b (k + 1) s'.heap ∧ TO < s'.heap.objs.size) E s := by
  have lts := st.lt
  obtain ⟨hTI, h1, h2, hz⟩ := st
  obtain ⟨its, rv, p, _⟩ := I.list hqx
  obtain ⟨its2, rv2, p2, _⟩ := I.list hqy
  obtain ⟨u, hu, ru⟩ := rv.get hx
  obtain ⟨u2, hu2, ru2⟩ := rv2.get hy
  have eu : its.toArray[k]? = some u := by simpa using hu
  have eu2 : its2.toArray[k]? = some u2 := by simpa using hu2
  have nin : s.heap.objs.size ∉ [z, TI, TO, i1, i2] := fun hm => by
    rcases (show s.heap.objs.size = z ∨ s.heap.objs.size = TI ∨ s.heap.objs.size = TO ∨ s.heap.objs.size = i1 ∨ s.heap.objs.size = i2 by simpa using hm) with q | q | q | q | q
    · exact absurd lts.1 (by rw [← q]; exact Nat.lt_irrefl _)
    · exact absurd lts.2.1 (by rw [← q]; exact Nat.lt_irrefl _)
    · exact absurd hTO (by rw [← q]; exact Nat.lt_irrefl _)
    · exact absurd lts.2.2.1 (by rw [← q]; exact Nat.lt_irrefl _)
    · exact absurd lts.2.2.2 (by rw [← q]; exact Nat.lt_irrefl _)
  have fin : ∀ h' : Heap, (∀ c o, c ∉ [z, TI, TO, i1, i2] → s.heap.get? c = some o → h'.get? c = some o) → IsPair h' s.heap.objs.size u u2 → h'.objs.size = s.heap.objs.size + 1 → ZL q z TI TO i1 i2 a b (k + 1) h' →
      ∃ T, some (Value.ref s.heap.objs.size) = some (.ref T) ∧ H T = none ∧ Inv X pins σ (upd H T (.tup [x, y])) { s with heap := h' } ∧ (∀ c ∈ [z, TI, TO, i1, i2], FpOk X pins (upd H T (.tup [x, y])) c) ∧ ZL q z TI TO i1 i2 a b (k + 1) h' ∧ TO < h'.objs.size := by
    intro h' hk hT hsz st'
    have new : ObjOk X.prog X.w (upd H s.heap.objs.size (.tup [x, y])) h' s.heap.objs.size (.tup [x, y]) :=
      ⟨by show 2 ≤ sizeLine; decide, [u, u2], .cons ru (.cons ru2 .nil), ⟨_, hT, rfl, _, rfl⟩⟩
    refine ⟨s.heap.objs.size, rfl, I.hok.fresh (Nat.le_refl _), I.turnedNew (t' := s.toks) (ch := [z, TI, TO, i1, i2]) hk hf (Nat.le_refl _) new, fun c hc => ?_, st', by rw [hsz]; exact Nat.lt_succ_of_lt hTO⟩
    obtain ⟨f0, f1⟩ := hf c hc
    exact ⟨by rw [upd_ne (fun e => nin (by rw [← e]; exact hc))]; exact f0, f1⟩
  rcases hz with ⟨hz, x0, y0, hTO'⟩ | ⟨T, f, oT, hz, hT, hTq, hn⟩
  · refine wpAny_pyNext_zip_item D hz hTI hTO' h1 h2 p.isList p2.isList eu eu2 fun h' a1 a2 a3 a4 a5 a6 hk => ?_
    exact fin h' (fun c o hc e => hk c o (fun q => hc (by simp [q])) (fun q => hc (by simp [q])) (fun q => hc (by simp [q])) (fun q => hc (by simp [q])) e) a5 a6
      ⟨hk _ _ D.TIz D.TITO D.TIi1 D.TIi2 hTI, a3, a4, .inr ⟨s.heap.objs.size, false, _, a1, a5, Nat.ne_of_gt hql, nin⟩⟩
  · have n1 : T ≠ z := fun q => hn (by simp [q])
    have n2 : T ≠ i1 := fun q => hn (by simp [q])
    have n3 : T ≠ i2 := fun q => hn (by simp [q])
    refine wpAny_pyNext_zip_item_held D hz hT hTI h1 h2 p.isList p2.isList eu eu2 fun h' a1 a3 a4 a5 a6 hk => ?_
    exact fin h' (fun c o hc e => hk c o (fun q => hc (by simp [q])) (fun q => hc (by simp [q])) (fun q => hc (by simp [q])) e) a5 a6
      ⟨hk _ _ D.TIz D.TIi1 D.TIi2 hTI, a3, a4, .inr ⟨T, true, oT, a1, hk _ _ n1 n2 n3 hT, hTq, hn⟩⟩
theorem zl_end {k : Nat} {xs ys : List V} (hh : A1.handled = none) (D : ZipApart z TI TO i1 i2 a b) (I : Inv X pins σ H s) (hf : ∀ c ∈ [z, TI, TO, i1, i2], FpOk X pins H c) (st : ZL q z TI TO i1 i2 a b k s.heap) (hqx : SqL X.K H a xs) (hqy : SqL X.K H b ys) (hend : xs.length ≤ k ∨ ys.length ≤ k) :
    wpAny (model X.prog X.w) A1 (pyNext (.ref z)) (fun r s' => r = none ∧ Inv X pins σ H s') E s := by
  obtain ⟨hTI, h1, h2, hz⟩ := st
  obtain ⟨its, rv, p, _⟩ := I.list hqx
  obtain ⟨its2, rv2, p2, _⟩ := I.list hqy
  have l1 := rv.length
  have l2 := rv2.length
  have he : its.toArray[k]? = none ∨ its2.toArray[k]? = none := by
    rcases hend with q | q
    · exact .inl (by simp; omega)
    · exact .inr (by simp; omega)
  have fin : ∀ h' : Heap, (∀ c o, c ∉ [z, TI, TO, i1, i2] → s.heap.get? c = some o → h'.get? c = some o) → Inv X pins σ H { s with heap := h' } := fun h' hk => I.turnedL (t' := s.toks) (ch := [z, TI, TO, i1, i2]) hk hf
  rcases hz with ⟨hz, x0, y0, hTO'⟩ | ⟨T, f, oT, hz, hT, hTq, hn⟩
  · exact wpAny_pyNext_zip_end hh D hz hTI hTO' h1 h2 p.isList p2.isList he fun h' hk => ⟨rfl, fin h' fun c o hc e => hk c o (fun q => hc (by simp [q])) (fun q => hc (by simp [q])) (fun q => hc (by simp [q])) (fun q => hc (by simp [q])) e⟩
  · exact wpAny_pyNext_zip_end_held hh D hz hT hTI h1 h2 p.isList p2.isList he fun h' hk => ⟨rfl, fin h' fun c o hc e => hk c o (fun q => hc (by simp [q])) (fun q => hc (by simp [q])) (fun q => hc (by simp [q])) e⟩
/-- so far: the list at q holds new pairs -/
def Prs2 (H : Hp) (xs ys : List V) (ts : List Addr) : Prop := ∀ (j : Nat) (t : Addr), ts[j]? = some t → ∃ x y, xs[j]? = some x ∧ ys[j]? = some y ∧ H t = some (.tup [x, y])
theorem zl_loop {Rs : Result → Shared → Prop} {xs ys : List V} {H0 : Hp} (hh : A1.in1.handled = none) (D : ZipApart z TI TO i1 i2 a b) (hqn : q ∉ [z, TI, TO, i1, i2]) (hn0 : H0 q = none) (hqx : SqL X.K H0 a xs) (hqy : SqL X.K H0 b ys) (hlen : xs.length ≤ ys.length) (hline : xs.length < sizeLine)
    (hdone : ∀ ts H s, Inv X pins σ H s → Same H0 H → ts.length = xs.length → H q = some (.lst (ts.map V.ref)) → Prs2 H xs ys ts → Rs (.ok (.ret .none)) s) :
    ∀ (m : Nat) (ts : List Addr) (H : Hp) (s : Shared), m = xs.length - ts.length → ts.length ≤ xs.length → Inv X pins σ H s → Same H0 H → H q = some (.lst (ts.map V.ref)) → Prs2 H xs ys ts → (∀ c ∈ [z, TI, TO, i1, i2], FpOk X pins H c) → ZL q z TI TO i1 i2 a b ts.length s.heap → TO < s.heap.objs.size →
      codeAny (model X.prog X.w) A1 (.builtin "list.extend.loop" ⟨[.ref q, .ref z, .none], []⟩) Rs s := by
  intro m
  induction m with
  | zero =>
    intro ts H s hm hl I sm hq hp hf st hTO
    refine codeAny_builtin PySem.F.entry_extend_loop ?_
    rw [Around.under_plainId PySem.F.plain_extend_loop _]
    show wpAny _ A1.in1 (pyNext (.ref z) >>= _) _ _ s
    have sx : SqL X.K H a xs := sm.seq hqx
    have sy : SqL X.K H b ys := sm.seq hqy
    refine wpAny_bind (thn (zl_end hh D I hf st sx sy (.inl (by omega))) fun r s' ⟨er, I'⟩ => ?_)
    subst er
    exact wpAny_pure (hdone ts H s' I' sm (by omega) hq hp)
  | succ m ih =>
    intro ts H s hm hl I sm hq hp hf st hTO
    refine codeAny_builtin PySem.F.entry_extend_loop ?_
    rw [Around.under_plainId PySem.F.plain_extend_loop _]
    show wpAny _ A1.in1 (pyNext (.ref z) >>= _) _ _ s
    have sx : SqL X.K H a xs := sm.seq hqx
    have sy : SqL X.K H b ys := sm.seq hqy
    have hi : ts.length < xs.length := by omega
    have hql : q < s.heap.objs.size := by
      obtain ⟨_, _, _, _, _, e0⟩ := I.lstM hq
      exact Heap.lt_size e0
    have hi2 : ts.length < ys.length := by omega
    refine wpAny_bind (thn (zl_next D hTO hql I hf st sx sy (List.getElem?_eq_getElem hi) (List.getElem?_eq_getElem hi2)) fun r s' hr => ?_)
    obtain ⟨T, rfl, hT, I', hf', st', hTO2⟩ := hr
    show wpAny _ A1.in1 (updateSeq q (·.push (.ref T)) >>= _) _ _ _
    have hqT : q ≠ T := ne_of_none hq hT
    have hq' : upd H T (.tup [xs[ts.length], ys[ts.length]]) q = some (.lst (ts.map V.ref)) := by rw [upd_ne hqT]; exact hq
    obtain ⟨zl, its, k, r2, hl2, e⟩ := I'.lstM hq'
    have hts : its.length = ts.length := by rw [← hl2, List.length_map]
    refine wpAny_bind (wpAny_updateSeq e rfl (wpAny_pure ⟨plainId_quiet PySem.F.plain_extend_loop _, ?_⟩) (by rw [List.size_toArray]; omega) (by show (its.toArray.push (.ref T)).size ≤ sizeLine + 1; rw [Array.size_push, List.size_toArray]; omega))
    have J := I'.lset (f := (·.push (Value.ref T))) (its' := its ++ [.ref T]) (t' := s'.toks) hq' e (by simp) (r2.append (.cons (show RelV (.ref T) (.ref T) from rfl) .nil)) (by rw [List.length_append, List.length_singleton, List.length_map]; omega)
    have em : ts.map V.ref ++ [V.ref T] = (ts ++ [T]).map V.ref := by rw [List.map_append]; rfl
    rw [em] at J
    have lq := Heap.lt_size e
    refine ih (ts ++ [T]) _ _ (by rw [List.length_append, List.length_singleton]; omega) (by rw [List.length_append, List.length_singleton]; omega) J (fun c o ec => ?_) upd_same (fun j t ej => ?_) (fun c hc => ?_) ?_ ?_
    · have hcT : c ≠ T := ne_of_none (sm _ _ ec) hT
      have hcq : c ≠ q := ne_of_none ec hn0
      rw [upd_ne hcq, upd_ne hcT]
      exact sm _ _ ec
    · by_cases hj : j < ts.length
      · rw [List.getElem?_append_left hj] at ej
        obtain ⟨x, y, ex, ey, et⟩ := hp j t ej
        have htT : t ≠ T := ne_of_none et hT
        have htq : t ≠ q := fun e => by
          rw [e, hq] at et
          cases et
        exact ⟨x, y, ex, ey, by rw [upd_ne htq, upd_ne htT]; exact et⟩
      · rw [List.getElem?_append_right (by omega)] at ej
        have hj2 : j = ts.length := by
          have := (List.getElem?_eq_some_iff.mp ej).1
          rw [List.length_singleton] at this
          omega
        subst hj2
        rw [Nat.sub_self] at ej
        cases ej
        exact ⟨_, _, List.getElem?_eq_getElem hi, List.getElem?_eq_getElem hi2, by rw [upd_ne (Ne.symm hqT), upd_same]⟩
    · obtain ⟨f0, f1⟩ := hf' c hc
      exact ⟨by rw [upd_ne (fun e => hqn (by rw [← e]; exact hc))]; exact f0, f1⟩
    · rw [List.length_append, List.length_singleton]
      obtain ⟨g1, g2, g3, g4⟩ := st'
      have ne : ∀ c, c ∈ [z, TI, TO, i1, i2] → c ≠ q := fun c hc e => hqn (by rw [← e]; exact hc)
      have up : ∀ (c : Addr) (o : Obj), c ≠ q → s'.heap.get? c = some o → (s'.heap.update q (Obj.mapSeq (·.push (Value.ref T)))).get? c = some o := fun c o hc ec => (Heap.get?_update_ne _ _ _ _ hc).trans ec
      refine ⟨up _ _ (ne TI (by simp)) g1, g2.at fun o ec => up _ o (ne i1 (by simp)) ec, g3.at fun o ec => up _ o (ne i2 (by simp)) ec, ?_⟩
      rcases g4 with ⟨w1, x0, y0, w2⟩ | ⟨T2, f, oT, w1, w2, w3, w4⟩
      · exact .inl ⟨up _ _ (ne z (by simp)) w1, x0, y0, up _ _ (ne TO (by simp)) w2⟩
      · exact .inr ⟨T2, f, oT, up _ _ (ne z (by simp)) w1, up _ _ w3 w2, w3, w4⟩
    · show TO < (s'.heap.update q (Obj.mapSeq (·.push (Value.ref T)))).objs.size
      rw [Heap.size_update]
      exact hTO2
end
end L2

set_option Elab.async false
set_option linter.all false
set_option maxRecDepth 100000
set_option maxHeartbeats 4000000
namespace L2
open PySem PySem.Spec PyProof.Rows
theorem zip_no_len : typeLookup (.type "zip") "__len__" = pure none := am_miss_of_fast (by decide +kernel)
theorem zip_no_hint : typeLookup (.type "zip") "__length_hint__" = pure none := am_miss_of_fast (by decide +kernel)
section
variable {X : Cx} {pins : List (Addr × Obj)} {σ : St} {H : Hp} {s : Shared} {q z TI TO i1 i2 a b : Addr} {A1 : Around} {E : Value → Shared → Prop}
theorem zl_hint {M : Model} {A : Around} {Q : Bool → Shared → Prop} {f0 : Value} (hz : IsZip s.heap z TI TO f0) (h : Q true s) : wpAny M A (Builtin.List.listLengthHint (.ref z)) Q E s := by
  have ty : PySem.W.Looks M s.heap (typeOf (.ref z)) (.type "zip") := fun A' Q' E' s' k q => wpAny_typeOf_ref (k _ _ hz) q
  unfold Builtin.List.listLengthHint
  refine wpAny_bind (wpAny_bind (ty.here ((PySem.W.Looks.of_pure zip_no_len).here ?_)))
  refine PySem.W.KFB.if_not rfl ?_
  refine PySem.W.KFB.if_not rfl ?_
  refine wpAny_bind (wpAny_bind (ty.here ((PySem.W.Looks.of_pure zip_no_hint).here ?_)))
  exact wpAny_pure h
theorem zl_extend {Rs : Result → Shared → Prop} {xs ys : List V} (hh : A1.in1.handled = none) (D : ZipApart z TI TO i1 i2 a b) (hqn : q ∉ [z, TI, TO, i1, i2]) (H0 : Hp) (e0 : H = upd H0 q (.lst [])) (hn0 : H0 q = none) (hqx : SqL X.K H0 a xs) (hqy : SqL X.K H0 b ys) (hlen : xs.length ≤ ys.length) (hline : xs.length < sizeLine)
    (hdone : ∀ ts H s, Inv X pins σ H s → Same H0 H → ts.length = xs.length → H q = some (.lst (ts.map V.ref)) → Prs2 H xs ys ts → Rs (.ok (.ret .none)) s)
    (I : Inv X pins σ H s) (hf : ∀ c ∈ [z, TI, TO, i1, i2], FpOk X pins H c) (hz : IsZip s.heap z TI TO .none) (hTI : IsPair s.heap TI (.ref i1) (.ref i2)) (hTO : ∃ x y, IsPair s.heap TO x y) (h1 : s.heap.IsListIter i1 a 0) (h2 : s.heap.IsListIter i2 b 0) :
    wpAny (model X.prog X.w) A1.in1 (Builtin.List.listExtendWith (.ref q) (.ref z) .none)
      (fun fin s' => match fin with | .done f => Rs (.ok f) s' | .again c' => c'.quiet = true ∧ codeAny (model X.prog X.w) A1 c' Rs s') (fun e s' => Rs (.error e) s') s := by
  have hq : H q = some (.lst []) := by rw [e0]; exact upd_same
  have hne : q ≠ z := fun e => hqn (by simp [e])
  have sm : Same H0 H := by
    intro c o ec
    rw [e0, upd_ne (ne_of_none ec hn0)]
    exact ec
  have ty : PySem.W.Looks (model X.prog X.w) s.heap (typeOf (.ref z)) (.type "zip") := fun A' Q' E' s' k q => wpAny_typeOf_ref (k _ _ hz) q
  unfold Builtin.List.listExtendWith
  refine wpAny_bind (ty.here ?_)
  have g1 : Builtin.List.listSameRef (.ref q) (.ref z) = false := by simp [Builtin.List.listSameRef, hne]
  have g2 : (Value.type "zip" == Value.type "list") = false := by decide +kernel
  have g3 : (Value.type "zip" == Value.type "tuple") = false := by decide +kernel
  simp only [g1, g2, g3, Bool.or_false, Bool.false_eq_true, if_false]
  refine wpAny_bind (wpAny_pyIter_zip hz ?_)
  refine wpAny_bind (wpAny_holding (zl_hint hz ?_))
  obtain ⟨zz, its, k, r3, hl3, e3⟩ := I.lstM hq
  cases r3
  obtain ⟨x0, y0, hTO⟩ := hTO
  have lTO : TO < s.heap.objs.size := Heap.lt_size hTO
  refine wpAny_ite_split (fun _ => ?_) (fun _ => wpAny_pure ⟨plainId_quiet PySem.F.plain_extend_loop _, zl_loop hh D hqn hn0 hqx hqy hlen hline hdone _ [] H s rfl (Nat.zero_le _) I sm hq (fun j t e => by cases e) hf ⟨hTI, h1, h2, .inl ⟨hz, x0, y0, hTO⟩⟩ lTO⟩)
  refine wpAny_bind (wpAny_rule ?_)
  refine wpAny_bind ?_
  show wpAny _ _ (updateSeq q (·.push .none) >>= fun _ => updateSeq q (·.pop)) _ _ _
  refine wpAny_bind (wpAny_updateSeq e3 rfl ?_)
  have I2 := I.lset (f := (·.push Value.none)) (its' := [Value.none]) (ys := [.non]) (t' := s.toks) hq e3 (by simp) (.cons rfl .nil) (by rw [List.length_singleton, sizeLine_eq]; decide)
  obtain ⟨z4, its4, k4, r4, hl4, e4⟩ := I2.lstM upd_same
  obtain ⟨u4, rfl, ru4⟩ := r4.one
  refine wpAny_updateSeq e4 rfl ?_ (by show 1 ≤ sizeLine; rw [sizeLine_eq]; decide) (by show 0 ≤ sizeLine + 1; exact Nat.zero_le _)
  have I3 := I2.lset (f := (·.pop)) (its := [u4]) (its' := []) (ys := []) (t' := s.toks) upd_same e4 (by rfl) .nil (Nat.zero_le _)
  rw [upd_upd] at I3
  have hH : upd H q (.lst []) = H := by
    funext b
    by_cases hb : b = q
    · rw [hb, upd_same, hq]
    · rw [upd_ne hb]
  rw [hH] at I3
  have ne : ∀ c, c ∈ [z, TI, TO, i1, i2] → c ≠ q := fun c hc e => hqn (by rw [← e]; exact hc)
  have up : ∀ (c : Addr) (o : Obj), c ≠ q → s.heap.get? c = some o → ((s.heap.update q (Obj.mapSeq (·.push Value.none))).update q (Obj.mapSeq (·.pop))).get? c = some o := fun c o hc ec =>
    (Heap.get?_update_ne _ _ _ _ hc).trans ((Heap.get?_update_ne _ _ _ _ hc).trans ec)
  refine wpAny_pure ⟨plainId_quiet PySem.F.plain_extend_loop _, zl_loop hh D hqn hn0 hqx hqy hlen hline hdone _ [] H _ rfl (Nat.zero_le _) I3 sm hq (fun j t e => by cases e) hf
    ⟨up _ _ (ne TI (by simp)) hTI, h1.at fun o ec => up _ o (ne i1 (by simp)) ec, h2.at fun o ec => up _ o (ne i2 (by simp)) ec, .inl ⟨up _ _ (ne z (by simp)) hz, x0, y0, up _ _ (ne TO (by simp)) hTO⟩⟩ (Heap.lt_size (up _ _ (ne TO (by simp)) hTO))⟩
def tListZip (K : PySem.W.Frag) (t : TA) : TE := fun σ H Q => t σ H fun vs H1 => ∃ (a b : Addr) (xs ys : List V), vs = [.ref a, .ref b] ∧ SqL K H1 a xs ∧ SqL K H1 b ys ∧ xs.length ≤ ys.length ∧ xs.length < sizeLine ∧
  ∀ (H' : Hp) (q : Addr) (ts : List Addr), Same H1 H' → ts.length = xs.length → H' q = some (.lst (ts.map V.ref)) → Prs2 H' xs ys ts → Q (.ref q) H'
theorem pe_listzip {e e2 : Expr} {t : TA} {p p2 pos pos2 : Pos} (hc : X.calm = true) (hg : Gl X "list") (hm : X.mg "list" = none) (hg2 : Gl X "zip") (hm2 : X.mg "zip" = none) (ha : PA X [e, e2] t)
    (hs : starEach [.Call (.Name "zip" p2) [e, e2] [] pos2] X.env = (false, eval (.Call (.Name "zip" p2) [e, e2] [] pos2) X.env) :: starEach [] X.env := by rfl)
    (hs2 : starEach [e, e2] X.env = (false, eval e X.env) :: starEach [e2] X.env := by rfl) (hpl : (backTo pos2 (starEach [e2] X.env)).any (·.1) = false := by rfl) :
    PE X (.Call (.Name "list" p) [.Call (.Name "zip" p2) [e, e2] [] pos2] [] pos) (tListZip X.K t) := by
  refine ⟨fun pins s σ H Q I hq => ?_⟩
  refine wpAny_Call_Name_kw (ld_blt I hg hm (u := .type "list") (by decide +kernel) ?_)
  refine PyProof.Rows.callWith_type1 ?_ hs rfl
  rw [hs]
  show wpAny _ _ (spliced ((false, eval (.Call (.Name "zip" p2) [e, e2] [] pos2) X.env) :: backTo pos (starEach [] X.env))) _ _ s
  refine Calls.spliced_cons ?_
  refine wpAny_Call_Name_kw (ld_blt I hg2 hm2 PyProof.Rows.boot_zip ?_)
  refine PyProof.Rows.callWith_type1 (thn (ha.run pos2 pins s σ H _ I hq) fun us s1 ⟨vs, H1, I1, r1, q1⟩ => ?_) hs2 hpl
  obtain ⟨a, b, xs, ys, ex, hqx, hqy, hlen, hline, q⟩ := q1
  subst ex
  cases r1 with
  | cons r rr =>
    cases rr with
    | cons r' rr =>
      cases rr
      cases r
      cases r'
      obtain ⟨its, rv, p1, _⟩ := I1.list hqx
      obtain ⟨its2, rv2, p2, _⟩ := I1.list hqy
      have la : a < s1.heap.objs.size := p1.lt
      have lb : b < s1.heap.objs.size := p2.lt
      refine call_zip_2 p1.isList p2.isList fun h' hz hTI hTO h1 h2 hsz hk => ?_
      have I2 : Inv X pins σ H1 { s1 with heap := h' } := I1.kept (t' := s1.toks) hk
      refine Calls.spliced_nil ?_
      have D := PySem.W.ktu_apart s1.heap.objs.size a b la lb
      refine callType_codes (Q₁ := fun obj s₁ => obj = .ref h'.objs.size ∧ s₁ = { s1 with heap := h'.push { cls := .type "list", data := .seq #[] } }) PySem.F.called_list (PySem.F.typeCall_list_1 _) PySem.F.entry_list_init
        (code_list_new _ ⟨rfl, rfl⟩) fun obj s₁ h₁ => ?_
      obtain ⟨rfl, rfl⟩ := h₁
      have hS : (h'.push { cls := .type "list", data := .seq #[] }).get? h'.objs.size = some { cls := .type "list", data := .seq #[] } := Heap.get?_push_size _ rfl
      refine ⟨⟨_, hS, rfl⟩, PySem.F.args_list_init_2 _ _, ?_⟩
      have fr : H1 h'.objs.size = none := I2.hok.fresh (Nat.le_refl _)
      have I3 : Inv X pins σ (upd H1 h'.objs.size (.lst [])) { s1 with heap := h'.push { cls := .type "list", data := .seq #[] } } := I2.lnew (its := []) (t' := s1.toks) .nil (Nat.zero_le _)
      show wpAny _ _ (do let old ← Builtin.List.listItems (.ref h'.objs.size); Builtin.List.listUpdate (.ref h'.objs.size) (fun _ => #[]); letGo old.toList.reverse; Builtin.List.listExtendWith (.ref h'.objs.size) (.ref (s1.heap.objs.size + 4)) .none) _ _ _
      refine wpAny_bind ?_
      unfold Builtin.List.listItems
      refine wpAny_bind (wpAny_seqItems hS rfl (wpAny_pure ?_))
      show wpAny _ _ (updateSeq h'.objs.size (fun _ => #[]) >>= fun _ => letGo (#[] : Array Value).toList.reverse >>= fun _ => Builtin.List.listExtendWith (.ref h'.objs.size) (.ref (s1.heap.objs.size + 4)) .none) _ _ _
      refine wpAny_bind (wpAny_updateSeq hS rfl ?_)
      have I4 := I3.lset (f := fun _ => #[]) (its := []) (its' := []) (ys := []) (t' := s1.toks) upd_same hS rfl .nil (Nat.zero_le _)
      rw [upd_upd] at I4
      refine wpAny_bind (wpAny_letGo ?_)
      have five : ∀ c, c ∈ [s1.heap.objs.size + 4, s1.heap.objs.size + 2, s1.heap.objs.size + 3, s1.heap.objs.size, s1.heap.objs.size + 1] → s1.heap.objs.size ≤ c ∧ c < h'.objs.size := fun c hcm => by
        have e' : c = s1.heap.objs.size + 4 ∨ c = s1.heap.objs.size + 2 ∨ c = s1.heap.objs.size + 3 ∨ c = s1.heap.objs.size ∨ c = s1.heap.objs.size + 1 := by simpa using hcm
        rw [hsz]
        rcases e' with z | z | z | z | z
        · rw [z]; exact ⟨Nat.le_add_right _ _, Nat.add_lt_add_left (by decide) _⟩
        · rw [z]; exact ⟨Nat.le_add_right _ _, Nat.add_lt_add_left (by decide) _⟩
        · rw [z]; exact ⟨Nat.le_add_right _ _, Nat.add_lt_add_left (by decide) _⟩
        · rw [z]; exact ⟨Nat.le_refl _, Nat.lt_add_of_pos_right (by decide)⟩
        · rw [z]; exact ⟨Nat.le_add_right _ _, Nat.add_lt_add_left (by decide) _⟩
      have hqn : h'.objs.size ∉ [s1.heap.objs.size + 4, s1.heap.objs.size + 2, s1.heap.objs.size + 3, s1.heap.objs.size, s1.heap.objs.size + 1] := fun hm => Nat.lt_irrefl _ (five _ hm).2
      have up : ∀ (c : Addr) (o : Obj), h'.get? c = some o → ((h'.push { cls := .type "list", data := .seq #[] }).update h'.objs.size (Obj.mapSeq fun _ => #[])).get? c = some o := fun c o ec =>
        (Heap.get?_update_ne _ _ _ _ (Nat.ne_of_lt (Heap.lt_size ec))).trans (Heap.get?_push_of_some _ ec)
      refine zl_extend (A1 := X.A.in1) (Rs := wants (fun r s₂ => r = .none ∧ EP X pins σ Q (.ref h'.objs.size) s₂) X.xe) (I.ok.hd hc) D hqn H1 rfl fr hqx hqy hlen hline
        (fun ts H' s' I' sm l1 l2 l3 => ⟨rfl, .ref h'.objs.size, H', I', rfl, q H' _ ts sm l1 l2 l3⟩) I4 (fun c hcm => ?_) (up _ _ hz) (up _ _ hTI) ⟨_, _, up _ _ hTO⟩ (h1.at fun o ec => up _ o ec) (h2.at fun o ec => up _ o ec)
      obtain ⟨c1, c2⟩ := five c hcm
      have f := I1.fpOk (H' := H1) c1 (I1.hok.fresh c1)
      exact ⟨by rw [upd_ne (Nat.ne_of_lt c2)]; exact f.1, f.2⟩
end
end L2

set_option Elab.async false
set_option linter.all false
set_option maxRecDepth 100000
set_option maxHeartbeats 4000000
/-! Draws from a well; lists put together; enumerate. -/
namespace L2
open PySem PySem.Spec PyProof.Rows
/-- list + list, whoever holds them -/
def rCatS (K : PySem.W.Frag) : R2 := fun x y H Q => ∃ l b xs zs, x = .ref l ∧ y = .ref b ∧ SqL K H l xs ∧ SqL K H b zs ∧ xs.length + zs.length ≤ sizeLine ∧ ∀ p, H p = none → Q (.ref p) (upd H p (.lst (xs ++ zs)))
theorem op_catS {X : Cx} : OpR X (binaryOp .Add) (rCatS X.K) := by
  intro pins s σ H x y v u Q I rx ry h
  obtain ⟨l, b, xs, zs, rfl, rfl, hH, hB, hz, q⟩ := h
  cases rx
  cases ry
  obtain ⟨its, r, p1, z⟩ := I.list hH
  obtain ⟨its2, r2, p2, z2⟩ := I.list hB
  have hl := r.length
  have hl2 := r2.length
  obtain ⟨⟨cls, dd, data, sl⟩, ho, hc, n, hd⟩ := id p1.isList
  obtain ⟨⟨cls2, dd2, data2, sl2⟩, ho2, hc2, n2, hd2⟩ := id p2.isList
  simp only at hc hd hc2 hd2
  subst hc hd hc2 hd2
  open PySem.P in
  refine concat_meets ⟨_, ho, rfl⟩ ⟨_, ho2, rfl⟩ noFill_list_add seq_list_add PySem.F.slot_list_add PySem.F.entry_list_add (PySem.F.args_list_add_2 _ _) (list_addW l b its.toArray its2.toArray n n2 dd dd2 sl sl2 (by rw [List.size_toArray, List.size_toArray]; omega)) ⟨ho, ho2, ?_⟩
  have ea : its.toArray ++ its2.toArray = (its ++ its2).toArray := by simp
  rw [ea]
  exact ⟨.ref _, _, I.lnew (t' := s.toks) (r.append r2) (by rw [List.length_append]; omega), rfl, q _ I.fresh⟩
theorem for_enum {K : PySem.W.Frag} {a : Addr} {xs : List V} {g : TG} {tb : TS} {D : Ends} {σ : St} {H : Hp} (Pv : Nat → St → Hp → Prop) (h0 : Pv 0 σ H) (hl : ∀ i σ H, i ≤ xs.length → Pv i σ H → SqL K H a xs)
    (hs : ∀ i x T σ H, xs[i]? = some x → Pv i σ H → H T = none → g (.ref T) σ (upd H T (.tup [.int (i : Nat), x])) fun σ2 H2 => tb { D with nx := Pv (i + 1), ct := Pv (i + 1), bk := D.nx } σ2 H2) (hd : ∀ σ H, Pv xs.length σ H → D.nx σ H) :
    ∃ W : Nat → Nat → St → Hp → Prop, (∃ m, W 0 m σ H) ∧ ∀ i m σ H, W i m σ H →
      ((Ite K a).stop i H ∧ D.nx σ H) ∨ ((Ite K a).go i H ∧ ∃ N : St → Hp → Prop, (∀ σ' H', N σ' H' → ∃ m', m' < m ∧ W (i + 1) m' σ' H') ∧ ∀ x H', (Ite K a).yld i H x H' → g x σ H' fun σ2 H2 => tb { D with nx := N, ct := N, bk := D.nx } σ2 H2) := by
  refine ⟨fun i m σ H => m = xs.length - i ∧ i ≤ xs.length ∧ Pv i σ H, ⟨xs.length, by simp, Nat.zero_le _, h0⟩, ?_⟩
  rintro i m σ H ⟨rfl, hi, p⟩
  have q := hl i σ H hi p
  by_cases hlt : i < xs.length
  · refine .inr ⟨⟨xs, xs[i], q, by simp [hlt]⟩, Pv (i + 1), fun σ' H' p' => ⟨xs.length - (i + 1), by omega, rfl, hlt, p'⟩, fun v H' y => ?_⟩
    obtain ⟨T, x, e, hT, e2, y⟩ := y
    subst e e2
    exact hs i x T σ _ (y xs q) p hT
  · have e : i = xs.length := by omega
    subst e
    exact .inl ⟨⟨xs, q, Nat.le_refl _⟩, hd σ H p⟩
/-- a well: three numbers in a list at a -/
def Well (H : Hp) (a : Addr) (n : Int) : Prop := ∃ w0 w1 w2 : Int, H a = some (.lst [.int w0, .int w1, .int w2]) ∧ 0 ≤ w0 ∧ 0 ≤ w1 ∧ w1 < 4294967296 ∧ 0 ≤ w2 ∧ w2 ≤ n
/-- nothing but a is otherwise -/
def But (a : Addr) (H H' : Hp) : Prop := ∀ b, b ≠ a → H' b = H b
theorem But.refl (a : Addr) (H : Hp) : But a H H := fun _ _ => rfl
theorem But.trans {a : Addr} {H H1 H2 : Hp} (x : But a H H1) (y : But a H1 H2) : But a H H2 := fun b hb => (y b hb).trans (x b hb)
theorem But.upd {a : Addr} {H : Hp} {o : HO} : But a H (upd H a o) := fun b hb => upd_ne hb
theorem at0 {x y z : V} : atI [x, y, z] 0 = some x := rfl
theorem at1 {x y z : V} : atI [x, y, z] 1 = some y := rfl
theorem at2 {x y z : V} : atI [x, y, z] 2 = some z := rfl
theorem ix0 : ixN 3 0 = some 0 := rfl
theorem ix2 : ixN 3 2 = some 2 := rfl
/-- draw(well, many): a number from 0 to many - 1, the well at most one count further -/
def spDraw : Sp := fun vs H Q _ => ∃ (a : Addr) (m n : Int), vs = [.ref a, .int m] ∧ Well H a n ∧ n < 1000000 ∧ 0 < m ∧ m < 1073741824 ∧ ∀ r H', 0 ≤ r → r < m → But a H H' → Well H' a (n + 1) → Q (.int r) H'
/-- one(well, some): one of them -/
def spOne (K : PySem.W.Frag) : Sp := fun vs H Q _ => ∃ (a b : Addr) (n : Int) (xs : List V), vs = [.ref a, .ref b] ∧ Well H a n ∧ n < 1000000 ∧ a ≠ b ∧ H b = some (.lst xs) ∧ 0 < xs.length ∧ xs.length < 1000000 ∧ ∀ x H', x ∈ xs → But a H H' → Well H' a (n + 1) → Q x H'
theorem fmod_in {x m : Int} (hm : 0 < m) : 0 ≤ x.fmod m ∧ x.fmod m < m := by
  rw [Int.fmod_eq_emod_of_nonneg x (Int.le_of_lt hm)]
  exact ⟨Int.emod_nonneg _ (by omega), Int.emod_lt_of_pos _ hm⟩
theorem fdiv_in {x m : Int} (hx : 0 ≤ x) (hm : 0 < m) : 0 ≤ x.fdiv m := by
  rw [Int.fdiv_eq_ediv_of_nonneg x (Int.le_of_lt hm)]
  exact Int.ediv_nonneg hx (Int.le_of_lt hm)
theorem divN {i m : Int} (h0 : 0 < m) (h1 : m < 1073741824) : CDivN i m := ⟨by omega, by omega⟩
theorem same_upd {H : Hp} {p : Addr} {o : HO} (h : H p = none) : Same H (upd H p o) := fun b x e => by
  rw [upd_ne (ne_of_none e h)]
  exact e
theorem ba {a b : Bool} (h : (a && b) = true) : a = true ∧ b = true := Bool.and_eq_true_iff.mp h
end L2

set_option Elab.async false
set_option linter.all false
set_option maxRecDepth 100000
set_option maxHeartbeats 4000000
namespace K1
open PySem PySem.Spec PyProof.Rows L2
def top (i : Nat) : Stmt := PySem.Challenge.pw_gridlanes_k27_sizes_of_all_lanes.main.body.getD i (.Pass ⟨0, 0, 0, 0⟩)
abbrev FnP (K : PySem.W.Frag) (x : Str) (st : Stmt) (f : Addr) (fd : FuncData) : Prop := FunD K x x (defArgs st) (defBody st) (defScope st) [] [] f fd
/-! ### numbers -/
def NumP (H : Hp) (v : V) (t : Int) (b : Nat) : Prop := (v = .int t ∧ b = 1) ∨ ∃ p, v = .ref p ∧ H p = some (.tup [.int t, .int (b : Int)])
def NumAt (H : Hp) (v : V) (q : Rat) : Prop := (q.den = 1 ∧ v = .int q.num) ∨ (q.den ≠ 1 ∧ ∃ p, v = .ref p ∧ H p = some (.tup [.int q.num, .int (q.den : Int)]))
theorem NumAt.p {H : Hp} {v : V} {q : Rat} (h : NumAt H v q) : NumP H v q.num q.den := by
  rcases h with ⟨e, h⟩ | ⟨_, h⟩
  · exact .inl ⟨h, e⟩
  · exact .inr h
theorem NumP.same {H H' : Hp} {v : V} {t : Int} {b : Nat} (h : NumP H v t b) (s : Same H H') : NumP H' v t b := by
  rcases h with h | ⟨p, e, h⟩
  · exact .inl h
  · exact .inr ⟨p, e, s _ _ h⟩
theorem NumAt.same {H H' : Hp} {v : V} {q : Rat} (h : NumAt H v q) (s : Same H H') : NumAt H' v q := by
  rcases h with h | ⟨n, p, e, h⟩
  · exact .inl h
  · exact .inr ⟨n, p, e, s _ _ h⟩
theorem numInt {H : Hp} (i : Int) : NumAt H (.int i) (i : Rat) := .inl ⟨Rat.den_intCast .., by rw [Rat.num_intCast]⟩
theorem mk_num {t : Int} {b : Nat} (hb : 0 < b) : (mkRat t b).num = t / ((Nat.gcd t.natAbs b : Nat) : Int) := by
  rw [Rat.num_mkRat, if_neg (by omega), Nat.gcd_comm]
theorem mk_den {t : Int} {b : Nat} (hb : 0 < b) : (mkRat t b).den = b / Nat.gcd t.natAbs b := by
  rw [Rat.den_mkRat, if_neg (by omega), Nat.gcd_comm]
theorem gcd_le {t : Int} {b : Nat} (hb : 0 < b) : 0 < Nat.gcd t.natAbs b ∧ Nat.gcd t.natAbs b ≤ b := ⟨Nat.gcd_pos_of_pos_right _ hb, Nat.gcd_le_right _ hb⟩
theorem den_one {t : Int} {b : Nat} (hb : 0 < b) : (mkRat t b).den = 1 ↔ Nat.gcd t.natAbs b = b := by
  rw [mk_den hb]
  obtain ⟨g0, g1⟩ := gcd_le (t := t) hb
  constructor
  · intro h
    have z := Nat.mul_div_cancel' (Nat.gcd_dvd_right t.natAbs b)
    rw [h, Nat.mul_one] at z
    exact z
  · intro h
    rw [h]
    exact Nat.div_self hb
/-- the values of top // g and (top // g, bottom // g), g the greatest common divisor -/
theorem mk_int {H : Hp} {t : Int} {b : Nat} (hb : 0 < b) (h : Nat.gcd t.natAbs b = b) : NumAt H (.int (t / (b : Int))) (mkRat t b) := .inl ⟨(den_one hb).mpr h, by rw [mk_num hb, h]⟩
theorem mk_tup {H : Hp} {t : Int} {b : Nat} {p : Addr} (hb : 0 < b) (h : Nat.gcd t.natAbs b ≠ b) (hp : H p = some (.tup [.int (t / ((Nat.gcd t.natAbs b : Nat) : Int)), .int ((b : Int) / ((Nat.gcd t.natAbs b : Nat) : Int))])) : NumAt H (.ref p) (mkRat t b) := by
  refine .inr ⟨fun e => h ((den_one hb).mp e), p, rfl, ?_⟩
  rw [mk_num hb, mk_den hb, Int.natCast_ediv]
  exact hp
def S2 : Nat := 2 ^ 200
def Sz (t : Int) (b : Nat) : Prop := t.natAbs < 2 ^ 98 ∧ 0 < b ∧ b < 2 ^ 98
theorem wm {i j : Int} (ha : i.natAbs < 2 ^ 98) (hb : j.natAbs < 2 ^ 98) : CMulW i j := wide_mul ha hb (by decide) (by decide) (by decide)
theorem wl {i j : Int} (ha : i.natAbs < 2 ^ 98) (hb : j.natAbs < 2 ^ 98) : (i * j).natAbs < 2 ^ 196 := wide_lt ha hb
theorem Sz.bot {t t' : Int} {b b' : Nat} (h : Sz t b) (h' : Sz t' b') : 0 < b * b' ∧ b * b' < 2 ^ 199 := by
  refine ⟨Nat.mul_pos h.2.1 h'.2.1, ?_⟩
  have : b * b' < 2 ^ 98 * 2 ^ 98 := Nat.mul_lt_mul'' h.2.2 h'.2.2
  exact Nat.lt_trans this (by decide)
theorem Sz.top {t t' : Int} {b b' : Nat} (h : Sz t b) (h' : Sz t' b') : (t * b' + t' * b).natAbs < 2 ^ 199 := by
  have h1 : (t * (b' : Int)).natAbs < 2 ^ 196 := wl h.1 h'.2.2
  have h2 : (t' * (b : Int)).natAbs < 2 ^ 196 := wl h'.1 h.2.2
  have h3 := Int.natAbs_add_le (t * (b' : Int)) (t' * (b : Int))
  omega
theorem Sz.prod {t t' : Int} {b b' : Nat} (h : Sz t b) (h' : Sz t' b') : (t * t').natAbs < 2 ^ 199 := Nat.lt_trans (wl h.1 h'.1) (by decide)
/-! ### Euclid, turn by turn -/
def eu : Nat → Nat → Nat → Nat × Nat
  | 0, a, b => (a, b)
  | n + 1, a, b => if b = 0 then eu n a b else eu n b (a % b)
theorem eu_zero : ∀ n a, eu n a 0 = (a, 0)
  | 0, _ => rfl
  | n + 1, a => by
    show (if 0 = 0 then eu n a 0 else _) = _
    rw [if_pos rfl]
    exact eu_zero n a
theorem eu_gcd : ∀ n m a b, b < 2 ^ n → eu (2 * n + 1 + m) a b = (Nat.gcd a b, 0) := by
  intro n
  induction n with
  | zero =>
    intro m a b h
    have : b = 0 := by omega
    subst this
    rw [eu_zero, Nat.gcd_zero_right]
  | succ n ih =>
    intro m a b h
    by_cases hb : b = 0
    · subst hb
      rw [eu_zero, Nat.gcd_zero_right]
    · have e : 2 * (n + 1) + 1 + m = (2 * n + 1 + m) + 1 + 1 := by omega
      rw [e]
      show (if b = 0 then _ else eu (2 * n + 1 + m + 1) b (a % b)) = _
      rw [if_neg hb]
      have hr := Nat.mod_lt a (Nat.pos_of_ne_zero hb)
      by_cases h0 : a % b = 0
      · rw [h0, eu_zero, Nat.gcd_comm, Nat.gcd_rec, h0, Nat.gcd_zero_left]
      · show (if a % b = 0 then _ else eu (2 * n + 1 + m) (a % b) (b % (a % b))) = _
        rw [if_neg h0]
        have h2 := Nat.mod_lt b (Nat.pos_of_ne_zero h0)
        have h3 : a % b + b % (a % b) ≤ b := by
          have h4 := Nat.div_add_mod b (a % b)
          have h5 : 1 ≤ b / (a % b) := (Nat.le_div_iff_mul_le (Nat.pos_of_ne_zero h0)).mpr (by omega)
          have h6 : a % b * 1 ≤ a % b * (b / (a % b)) := Nat.mul_le_mul_left _ h5
          omega
        have h7 : 2 ^ (n + 1) = 2 * 2 ^ n := by rw [Nat.pow_succ, Nat.mul_comm]
        rw [ih m _ _ (by omega), Nat.gcd_comm (a % b), ← Nat.gcd_rec, ← Nat.gcd_rec, Nat.gcd_comm b a]
section
variable {P : Program} {w : World} {K : PySem.W.Frag} {mg : Str → Option Value} {base : Heap}
structure Nm (mg : Str → Option Value) : Prop where
  isi : mg "isinstance" = none
  tint : mg "int" = none
  tbool : mg "bool" = none
  ttup : mg "tuple" = none
  tlst : mg "list" = none
  len : mg "len" = none
  abs : mg "abs" = none
  rng : mg "range" = none
  enu : mg "enumerate" = none
  zip : mg "zip" = none
  gcd : mg "gcd" = some (.builtin "math.gcd")
/-! ### the program's numbers -/
def spInt : Sp := fun vs H Q _ => ∃ i : Int, vs = [.int i] ∧ Q (.bl true) H
theorem scInt : FnScope ["value"] ["value"] (defScope (top 26)) := ⟨rfl, rfl, rfl, by decide +kernel, rfl, by decide +kernel, by decide +kernel⟩
theorem ok_int {f : Addr} {fd : FuncData} (F : FnP K "is_integer" (top 26) f fd) (N : Nm mg) : FnOk P w K mg base CX0 1 f fd ["value"] spInt := by
  refine F.ok scInt (fun vs H Q E h => ?_) (fun cdv A outer s H vs Q E hr h => ?_)
  · obtain ⟨i, rfl, _⟩ := h
    rfl
  · obtain ⟨i, rfl, k⟩ := h
    refine ⟨_, PSs.nox (pss_one (ps_ret (pe_and (pe_callB call_isi (by rfl) N.isi (by decide +kernel) (pa_cons (pv 0) (pa_cons (pe_bltn (v := .ty "int") (u := .type "int") rfl N.tint (by decide +kernel) rfl) pa_nil)))
      (pe_one (pe_not (pe_callB call_isi (by rfl) N.isi (by decide +kernel) (pa_cons (pv 0) (pa_cons (pe_bltn (v := .ty "bool") (u := .type "bool") rfl N.tbool (by decide +kernel) rfl) pa_nil)))))))), ?_⟩
    refine ⟨_, rfl, _, _, _, _, true, rfl, .ty _, .base (.int i), kit_ty (by decide +kernel), true, rfl, iteT ?_⟩
    exact ⟨_, rfl, _, _, _, _, false, rfl, .ty _, .base (.int i), kit_ty (by decide +kernel), false, rfl, k⟩
theorem bi1 {x p : Str} {i : Nat} {f : Addr} {fd : FuncData} (F : FnP K x (top i) f fd) (h : ∀ (kV doc pm : Value) (an : Option Addr) (cdv ct : Value) (u : Value), bindArgs (PySem.W.fnOf x x (defArgs (top i)) (defBody (top i)) (defScope (top i)) .none kV doc pm an cdv ct) ⟨[u], []⟩ = pure [(p, u)] := by intros; rfl) : Binds K fd [p] [] := F.bindsN fun _ _ _ _ _ _ us hl => match us, hl with | [_], _ => h _ _ _ _ _ _ _
end
end K1

set_option Elab.async false
set_option linter.all false
set_option maxRecDepth 100000
set_option maxHeartbeats 4000000
namespace K5
open PySem PySem.Spec PyProof.Rows L2 K1
/-! ### any data: what the program's questions answer -/
theorem tyT {K : PySem.W.Frag} {H : Hp} {a : Addr} {xs : List V} (h : SqT K H a xs) : TyX K H (.ref a) (.type "tuple") := by
  rcases h with (h | ⟨o, h⟩) | ⟨o, its, n, h, c, _⟩
  · exact .base (.tup h)
  · exact .fTuple h
  · exact .kTuple h c
theorem tyL {K : PySem.W.Frag} {H : Hp} {a : Addr} {xs : List V} (h : SqL K H a xs) : TyX K H (.ref a) (.type "list") := by
  rcases h with (h | ⟨o, h⟩) | ⟨o, its, n, h, c, _⟩
  · exact .base (.lst h)
  · exact .base (.frz h)
  · exact .kList h c
theorem Same.seqT {K : PySem.W.Frag} {H H' : Hp} {a : Addr} {xs : List V} (e : Same H H') (h : SqT K H a xs) : SqT K H' a xs := by
  rcases h with (h | ⟨o, h⟩) | h
  · exact .inl (.inl (e _ _ h))
  · exact .inl (.inr ⟨o, e _ _ h⟩)
  · exact .inr h
mutual
theorem dpS {K : PySem.W.Frag} {H H' : Hp} (e : Same H H') : ∀ {d : PyData} {v : V}, Dp K H v d → Dp K H' v d
  | .none, _, h => by cases h; exact .non
  | .bool _, _, h => by cases h; exact .bl _
  | .int _, _, h => by cases h; exact .int _
  | .str _, _, h => by cases h; exact .str _
  | .list ds, _, h => by
    cases h with
    | lst h1 h2 => exact .lst (Same.seq e h1) (dpSA e h2)
  | .tuple ds, _, h => by
    cases h with
    | tup h1 h2 => exact .tup (Same.seqT e h1) (dpSA e h2)
  | .dict _, _, h => nomatch h
theorem dpSA {K : PySem.W.Frag} {H H' : Hp} (e : Same H H') : ∀ {ds : List PyData} {vs : List V}, DpAll K H vs ds → DpAll K H' vs ds
  | [], _, h => by cases h; exact .nil
  | _ :: _, _, h => by
    cases h with
    | cons h1 h2 => exact .cons (dpS e h1) (dpSA e h2)
end
theorem dpLen {K : PySem.W.Frag} {H : Hp} : ∀ {vs : List V} {ds : List PyData}, DpAll K H vs ds → vs.length = ds.length
  | _, _, .nil => rfl
  | _, _, .cons _ h => congrArg (· + 1) (dpLen h)
theorem dpAt {K : PySem.W.Frag} {H : Hp} : ∀ {vs : List V} {ds : List PyData} (i : Nat) {d : PyData}, DpAll K H vs ds → ds[i]? = some d → ∃ v, vs[i]? = some v ∧ Dp K H v d
  | _, _, 0, _, .cons h _, e => by cases e; exact ⟨_, rfl, h⟩
  | _, _, i + 1, _, .cons _ h, e => dpAt i h e
  | _, _, 0, _, .nil, e => nomatch e
  | _, _, _ + 1, _, .nil, e => nomatch e
def tyN : PyData → String
  | .none => "NoneType" | .bool _ => "bool" | .int _ => "int" | .str _ => "str" | .list _ => "list" | .tuple _ => "tuple" | .dict _ => "dict"
theorem dpTy {K : PySem.W.Frag} {H : Hp} {v : V} {d : PyData} (h : Dp K H v d) : TyX K H v (.type (tyN d)) := by
  cases h with
  | non => exact .base .non
  | bl b => exact .base (.bl b)
  | int i => exact .base (.int i)
  | str x => exact .base (.str x)
  | lst h1 h2 => exact tyL h1
  | tup h1 h2 => exact tyT h1
def isTy (d : PyData) (t : String) : Bool := match d with
  | .bool _ => t == "bool" || t == "int"
  | d => t == tyN d
def tys : List String := ["int", "bool", "str", "tuple", "list"]
theorem kitD {K : PySem.W.Frag} (d : PyData) {t : String} (ht : t ∈ tys) : PySem.W.kitOne K (.type (tyN d)) (.type t) = some (isTy d t) := by
  refine kit_ty ?_
  simp only [tys, List.mem_cons, List.not_mem_nil, or_false] at ht
  rcases ht with rfl | rfl | rfl | rfl | rfl <;> cases d <;> (first | rfl | (simp only [tyN, isTy]; decide +kernel))
def isInt : PyData → Bool
  | .int _ => true
  | _ => false
def isNum : PyData → Bool
  | .int _ => true
  | .tuple [.int t, .int b] => decide (2 ≤ b) && decide (Nat.gcd t.natAbs b.natAbs = 1)
  | _ => false
def topOf : PyData → Int
  | .int i => i
  | .tuple [.int t, .int _] => t
  | _ => 0
def isLen (d : PyData) : Bool := isNum d && decide (0 ≤ topOf d)
section
variable {P : Program} {w : World} {K : PySem.W.Frag} {mg : Str → Option Value} {base : Heap}
/-- a question about a value: ans d for the data d, where ok d -/
def spQ (K : PySem.W.Frag) (ok : PyData → Prop) (ans : PyData → Bool) : Sp := fun vs H Q _ => ∃ (v : V) (d : PyData), vs = [v] ∧ Dp K H v d ∧ ok d ∧ ∀ H', Same H H' → Q (.bl (ans d)) H'
def any (_ : PyData) : Prop := True
theorem scInt : FnScope ["value"] ["value"] (defScope (top 26)) := ⟨rfl, rfl, rfl, by decide +kernel, rfl, by decide +kernel, by decide +kernel⟩
theorem ok_int {f : Addr} {fd : FuncData} (F : FnP K "is_integer" (top 26) f fd) (N : Nm mg) : FnOk P w K mg base CX0 1 f fd ["value"] (spQ K any isInt) := by
  refine F.ok scInt (fun vs H Q E h => ?_) (fun cdv A outer s H vs Q E hr h => ?_)
  · obtain ⟨v, d, rfl, _⟩ := h
    rfl
  · obtain ⟨v, d, rfl, hd, _, k⟩ := h
    refine ⟨_, PSs.nox (pss_one (ps_ret (pe_and (pe_callB call_isi (by rfl) N.isi (by decide +kernel) (pa_cons (pv 0) (pa_cons (pe_bltn (v := .ty "int") (u := .type "int") (by rfl) N.tint (by decide +kernel) rfl) pa_nil))) (pe_one (pe_not (pe_callB call_isi (by rfl) N.isi (by decide +kernel) (pa_cons (pv 0) (pa_cons (pe_bltn (v := .ty "bool") (u := .type "bool") (by rfl) N.tbool (by decide +kernel) rfl) pa_nil)))))))), ?_⟩
    refine ⟨_, rfl, _, _, _, _, _, rfl, .ty _, dpTy hd, kitD d (by decide), _, rfl, ite2 (fun c => ?_) (fun c => ?_)⟩
    · refine ⟨_, rfl, _, _, _, _, _, rfl, .ty _, dpTy hd, kitD d (by decide), _, rfl, ?_⟩
      have e : (!isTy d "bool") = isInt d := by
        cases d with
        | int i => rfl
        | bool b => rfl
        | _ => exact absurd c (by simp only [isTy, tyN]; decide)
      rw [e]
      exact k _ (Same.refl _)
    · have e : isInt d = false := by
        cases d with
        | int i => exact absurd (show isTy (.int i) "int" = true by simp only [isTy, tyN]; decide) c
        | _ => rfl
      have := k _ (Same.refl H)
      rw [e] at this
      exact this
end
end K5

set_option Elab.async false
set_option linter.all false
set_option maxRecDepth 100000
set_option maxHeartbeats 4000000
namespace K5
open PySem PySem.Spec PyProof.Rows L2
open K1 (FnP top Nm Sz wm)
structure D1 (P : Program) (w : World) (K : PySem.W.Frag) (mg : Str → Option Value) (base : Heap) (x p : Str) (k : Nat) (sp : Sp) (f : Addr) (fd : FuncData) : Prop where
  G : FnOk P w K mg base CX0 k f fd [p] sp
  g : mg x = some (.ref f)
  kp : PySem.W.keepIn K (.ref f) = true
  b : Binds K fd [p] []
structure D2 (P : Program) (w : World) (K : PySem.W.Frag) (mg : Str → Option Value) (base : Heap) (x p q : Str) (k : Nat) (sp : Sp) (f : Addr) (fd : FuncData) : Prop where
  G : FnOk P w K mg base CX0 k f fd [p, q] sp
  g : mg x = some (.ref f)
  kp : PySem.W.keepIn K (.ref f) = true
  b : Binds K fd [p, q] []
structure D3 (P : Program) (w : World) (K : PySem.W.Frag) (mg : Str → Option Value) (base : Heap) (x p q r : Str) (k : Nat) (sp : Sp) (f : Addr) (fd : FuncData) : Prop where
  G : FnOk P w K mg base CX0 k f fd [p, q, r] sp
  g : mg x = some (.ref f)
  kp : PySem.W.keepIn K (.ref f) = true
  b : Binds K fd [p, q, r] []
section
variable {P : Program} {w : World} {K : PySem.W.Frag} {mg : Str → Option Value} {base : Heap}
theorem scNum : FnScope ["value"] ["value"] (defScope (top 27)) := ⟨rfl, rfl, rfl, by decide +kernel, rfl, by decide +kernel, by decide +kernel⟩
theorem isNum_len {ds : List PyData} (h : ds.length ≠ 2) : isNum (.tuple ds) = false := by
  match ds, h with
  | [], _ => rfl
  | [_], _ => cases ‹PyData› <;> rfl
  | [_, _], h => exact absurd rfl h
  | a :: b :: _ :: _, _ => cases a <;> (try rfl) <;> cases b <;> rfl
theorem isInt_of {d : PyData} (h : isInt d = true) : ∃ i, d = .int i := by
  cases d with
  | int i => exact ⟨i, rfl⟩
  | _ => exact absurd h Bool.false_ne_true
theorem isNum_no1 {x y : PyData} (h : isInt x = false) : isNum (.tuple [x, y]) = false := by
  cases x with
  | int i => exact absurd h.symm Bool.false_ne_true
  | _ => rfl
theorem isNum_no2 {x y : PyData} (h : isInt y = false) : isNum (.tuple [x, y]) = false := by
  cases y with
  | int i => exact absurd h.symm Bool.false_ne_true
  | _ => cases x <;> rfl
theorem isNum_no {d : PyData} (h : isTy d "tuple" = false) : isNum d = isInt d := by
  cases d with
  | tuple ds => exact absurd h (by simp only [isTy, tyN]; decide)
  | _ => rfl
theorem isTy_tup {d : PyData} (h : isTy d "tuple" = true) : ∃ ds, d = .tuple ds := by
  cases d with
  | tuple ds => exact ⟨ds, rfl⟩
  | _ => exact absurd h (by simp only [isTy, tyN]; decide)
/-- the class of numbers that move: no data is of it -/
structure Mom (K : PySem.W.Frag) (mg : Str → Option Value) (CM : Addr) : Prop where
  g : mg "Moment" = some (.ref CM)
  k : ∀ d : PyData, PySem.W.kitOne K (.type (tyN d)) (.ref CM) = some false
theorem ok_num {f fI CM : Addr} {fd dI : FuncData} (F : FnP K "is_number" (top 27) f fd) (N : Nm mg) (Mo : Mom K mg CM) (d_is_integer : D1 P w K mg base "is_integer" "value" 1 (spQ K any isInt) fI dI) : FnOk P w K mg base CX0 2 f fd ["value"] (spQ K any isNum) := by
  refine F.ok scNum (fun vs H Q E h => ?_) (fun cdv A outer s H vs Q E hr h => ?_)
  · obtain ⟨v, d, rfl, _⟩ := h
    rfl
  · obtain ⟨v, d, rfl, hd, _, k⟩ := h
    refine ⟨_, PSs.nox (pss_cons (ps_if (pt_not (pt_val (pe_callB call_isi (by rfl) N.isi (by decide +kernel) (pa_cons (pv 0) (pa_cons (pe_bltn (v := .ty "tuple") (u := .type "tuple") (by rfl) N.ttup (by decide +kernel) rfl) pa_nil)))))
    (pss_one (ps_ret (pe_call d_is_integer.G (hr.mono (by decide)) (by rfl) d_is_integer.g d_is_integer.kp d_is_integer.b .nil pass0 (pa_cons (pv 0) pa_nil))))
    pss_nil)
  (pss_cons (ps_if (PW.pt (pw_and (pt_cmpR op_eq (pe_callB call_len_seq (by rfl) N.len PySem.boot_len (pa_cons (pv 0) pa_nil)) pe_int (nomark _)) (pw_and1 (pt_val (pe_callB call_isi (by rfl) N.isi (by decide +kernel) (pa_cons (pe_ix ix_tup (pv 0) pe_int (fun _ _ => rfl)) (pa_cons (pe_glob (by rfl) Mo.g (v := .ref CM) rfl) pa_nil)))))))
    (pss_one (ps_ret pe_bl))
    pss_nil)
  (pss_cons (ps_if (PW.pt (pw_or (pt_cmpR op_ne (pe_callB call_len_seq (by rfl) N.len PySem.boot_len (pa_cons (pv 0) pa_nil)) pe_int (nomark _)) (pw_or (pt_not (pt_val (pe_call d_is_integer.G (hr.mono (by decide)) (by rfl) d_is_integer.g d_is_integer.kp d_is_integer.b .nil pass0 (pa_cons (pe_ix ix_tup (pv 0) pe_int (fun _ _ => rfl)) pa_nil)))) (pw_or1 (pt_not (pt_val (pe_call d_is_integer.G (hr.mono (by decide)) (by rfl) d_is_integer.g d_is_integer.kp d_is_integer.b .nil pass0 (pa_cons (pe_ix ix_tup (pv 0) pe_int (fun _ _ => rfl)) pa_nil))))))))
    (pss_one (ps_ret pe_bl))
    pss_nil)
  (pss_one (ps_ret (pe_and (pe_cmpR op_ge (pe_ix ix_tup (pv 0) pe_int (fun _ _ => rfl)) pe_int (nomark _)) (pe_one (pe_cmpR op_eq (pe_callBfun cr_gcd (by rfl) N.gcd (pa_cons (pe_ix ix_tup (pv 0) pe_int (fun _ _ => rfl)) (pa_cons (pe_ix ix_tup (pv 0) pe_int (fun _ _ => rfl)) pa_nil))) pe_int (nomark _))))))))), ?_⟩
    refine ⟨_, rfl, _, _, _, _, _, rfl, .ty _, dpTy hd, kitD d (by decide), _, rfl, ite2 (fun c => ?_) (fun c => ?_)⟩
    · have c : isTy d "tuple" = false := Bool.not_eq_true' _ ▸ c
      refine ⟨_, rfl, v, d, rfl, hd, trivial, fun H' s => ?_⟩
      rw [← isNum_no c]
      exact k _ s
    · have c : isTy d "tuple" = true := by
        cases h : isTy d "tuple" with
        | true => rfl
        | false =>
          rw [h] at c
          exact absurd rfl c
      obtain ⟨ds, rfl⟩ := isTy_tup c
      cases hd with
      | tup ht hx =>
        rename_i p xs
        have hl := dpLen hx
        refine ⟨_, rfl, p, _, rfl, .inr ht, rfl, _, rfl, ite2 (fun c4 => ?_) (fun c4 => iteF ?_)⟩
        · have c4 : V.int (xs.length : Nat) = V.int 4 := of_decide_eq_true c4
          have l4 : ds.length = 4 := by
            injection c4 with c4
            omega
          obtain ⟨x3, e3⟩ : ∃ x3, ds[3]? = some x3 := ⟨_, List.getElem?_eq_getElem (by omega)⟩
          obtain ⟨u, eu, hu⟩ := dpAt 3 hx e3
          refine ⟨_, rfl, p, _, _, u, rfl, rfl, ht, atI_nat (j := 3) eu, _, _, _, _, false, rfl, .own _, dpTy hu, Mo.k _, false, rfl, iteF ?_⟩
          have e := isNum_len (ds := ds) (by omega)
          have q := k H (Same.refl H)
          rw [e] at q
          refine ⟨_, rfl, p, _, rfl, .inr ht, rfl, _, rfl, ite2 (fun _ => iteT q) (fun c2 => absurd ?_ c2)⟩
          show (!decide (V.int (xs.length : Nat) = V.int 2)) = true
          rw [decide_eq_false (fun e => by injection e with e; omega)]
          rfl
        refine ⟨_, rfl, p, _, rfl, .inr ht, rfl, _, rfl, ite2 (fun c2 => ?_) (fun c2 => ?_)⟩
        · have : ds.length ≠ 2 := fun z => by
            rw [hl, z] at c2
            exact absurd c2 (by decide)
          have e := isNum_len this
          have q := k H (Same.refl H)
          rw [e] at q
          exact iteT q
        · have h2 : ds.length = 2 := by
            apply Classical.byContradiction
            intro z
            apply c2
            show (!decide (V.int (xs.length : Nat) = V.int 2)) = true
            rw [decide_eq_false (fun e => by injection e with e; omega)]
            rfl
          obtain ⟨x, y, rfl⟩ : ∃ x y, ds = [x, y] := by
            match ds, h2 with
            | [x, y], _ => exact ⟨x, y, rfl⟩
          obtain ⟨u, eu, hu⟩ := dpAt 0 hx rfl
          obtain ⟨u2, eu2, hu2⟩ := dpAt 1 hx rfl
          refine ⟨_, rfl, p, _, _, u, rfl, rfl, ht, atI_nat (j := 0) eu, u, x, rfl, hu, trivial, fun H1 s1 => ⟨_, rfl, ite2 (fun c3 => ?_) (fun c3 => ?_)⟩⟩
          · have c3 : isInt x = false := Bool.not_eq_true' _ ▸ c3
            have q := k H1 s1
            rw [isNum_no1 c3] at q
            exact iteT q
          · have c3 : isInt x = true := by
              cases h : isInt x with
              | true => rfl
              | false =>
                rw [h] at c3
                exact absurd rfl c3
            refine ⟨_, rfl, p, _, _, u2, rfl, rfl, Same.seqT s1 ht, atI_nat (j := 1) eu2, u2, y, rfl, dpS s1 hu2, trivial, fun H2 s2 => ⟨_, rfl, ite2 (fun c4 => ?_) (fun c4 => ?_)⟩⟩
            · have c4 : isInt y = false := Bool.not_eq_true' _ ▸ c4
              have q := k H2 (s1.trans s2)
              rw [isNum_no2 c4] at q
              exact q
            · have c4 : isInt y = true := by
                cases h : isInt y with
                | true => rfl
                | false =>
                  rw [h] at c4
                  exact absurd rfl c4
              obtain ⟨t, rfl⟩ := isInt_of c3
              obtain ⟨b, rfl⟩ := isInt_of c4
              cases hu
              cases hu2
              have s12 := s1.trans s2
              have q := k H2 s12
              refine ⟨_, rfl, p, _, _, _, rfl, rfl, Same.seqT s12 ht, atI_nat (j := 1) eu2, _, _, rfl, rfl, _, rfl, ite2 (fun c5 => ?_) (fun c5 => ?_)⟩
              · refine ⟨_, rfl, p, _, _, _, rfl, rfl, Same.seqT s12 ht, atI_nat (j := 0) eu, _, rfl, p, _, _, _, rfl, rfl, Same.seqT s12 ht, atI_nat (j := 1) eu2, _, _, rfl, rfl, ?_⟩
                have e : isNum (.tuple [.int t, .int b]) = decide (V.int ((Nat.gcd t.natAbs b.natAbs : Nat) : Int) = V.int 1) := by
                  show (decide (2 ≤ b) && decide (Nat.gcd t.natAbs b.natAbs = 1)) = _
                  have c5 : 2 ≤ b := of_decide_eq_true c5
                  rw [decide_eq_true c5, Bool.true_and]
                  exact decide_eq_decide.mpr ⟨fun z => by rw [z] <;> rfl, fun z => by injection z with z; omega⟩
                rw [e] at q
                exact q
              · have e : isNum (.tuple [.int t, .int b]) = false := by
                  show (decide (2 ≤ b) && decide (Nat.gcd t.natAbs b.natAbs = 1)) = false
                  rw [decide_eq_false (fun z => c5 (decide_eq_true z))]
                  rfl
                rw [e] at q
                exact q
end
end K5

set_option Elab.async false
set_option linter.all false
set_option maxRecDepth 100000
set_option maxHeartbeats 4000000
namespace K5
open PySem PySem.Spec PyProof.Rows L2
open K1 (FnP top Nm Sz wm)
def NumD (K : PySem.W.Frag) (H : Hp) (v : V) (t : Int) (b : Nat) : Prop := (v = .int t ∧ b = 1) ∨ ∃ p, v = .ref p ∧ SqT K H p [.int t, .int (b : Int)]
theorem NumD.same {K : PySem.W.Frag} {H H' : Hp} {v : V} {t : Int} {b : Nat} (h : NumD K H v t b) (s : Same H H') : NumD K H' v t b := by
  rcases h with h | ⟨p, e, h⟩
  · exact .inl h
  · exact .inr ⟨p, e, Same.seqT s h⟩
def botOf : PyData → Int
  | .tuple [.int _, .int b] => b
  | _ => 1
/-- numbers of no great size -/
def okL (d : PyData) : Prop := isNum d = true → (topOf d).natAbs < 2 ^ 98 ∧ (botOf d).natAbs < 2 ^ 98
theorem num_shape {d : PyData} (h : isNum d = true) : (∃ i, d = .int i) ∨ ∃ t b, d = .tuple [.int t, .int b] ∧ 2 ≤ b := by
  unfold isNum at h
  split at h
  · exact .inl ⟨_, rfl⟩
  · rename_i t b
    exact .inr ⟨t, b, rfl, of_decide_eq_true (Bool.and_eq_true_iff.mp h).1⟩
  · cases h
theorem dpNum {K : PySem.W.Frag} {H : Hp} {v : V} {d : PyData} (h : isNum d = true) (hd : Dp K H v d) : ∃ b : Nat, 0 < b ∧ (b : Int) = botOf d ∧ NumD K H v (topOf d) b := by
  rcases num_shape h with ⟨i, rfl⟩ | ⟨t, b, rfl, hb⟩
  · cases hd
    exact ⟨1, by decide, rfl, .inl ⟨rfl, rfl⟩⟩
  · obtain ⟨n, rfl⟩ := Int.eq_ofNat_of_zero_le (show 0 ≤ b by omega)
    have n0 : 0 < n := by omega
    cases hd with
    | tup ht hx =>
      cases hx with
      | cons h1 h2 =>
        cases h1
        cases h2 with
        | cons h3 h4 =>
          cases h3
          cases h4
          exact ⟨n, n0, rfl, .inr ⟨_, rfl, ht⟩⟩
section
variable {P : Program} {w : World} {K : PySem.W.Frag} {mg : Str → Option Value} {base : Heap}
def spPair (K : PySem.W.Frag) : Sp := fun vs H Q _ => ∃ (v : V) (t : Int) (b : Nat), vs = [v] ∧ NumD K H v t b ∧ ∀ H' p, Same H H' → SqT K H' p [.int t, .int (b : Int)] → Q (.ref p) H'
theorem scFrac : FnScope ["number"] ["number"] (defScope (top 29)) := ⟨rfl, rfl, rfl, by decide +kernel, rfl, by decide +kernel, by decide +kernel⟩
theorem ok_frac {f : Addr} {fd : FuncData} (F : FnP K "fraction_of" (top 29) f fd) (N : Nm mg) : FnOk P w K mg base CX0 1 f fd ["number"] (spPair K) := by
  refine F.ok scFrac (fun vs H Q E h => ?_) (fun cdv A outer s H vs Q E hr h => ?_)
  · obtain ⟨v, t, b, rfl, _⟩ := h
    rfl
  · obtain ⟨v, t, b, rfl, hv, k⟩ := h
    refine ⟨_, PSs.nox (pss_cons (ps_if (pt_val (pe_callB call_isi (by rfl) N.isi (by decide +kernel) (pa_cons (pv 0) (pa_cons (pe_bltn (v := .ty "tuple") (u := .type "tuple") (by rfl) N.ttup (by decide +kernel) rfl) pa_nil))))
    (pss_one (ps_ret (pv 0)))
    pss_nil)
  (pss_one (ps_ret (pe_tup (pa_cons (pv 0) (pa_cons pe_int pa_nil)))))), ?_⟩
    rcases hv with ⟨rfl, rfl⟩ | ⟨p, rfl, hp⟩
    · refine ⟨_, rfl, _, _, _, _, false, rfl, .ty _, .base (.int _), kit_ty (by decide +kernel), false, rfl, iteF ?_⟩
      exact ⟨_, rfl, (by show 2 ≤ sizeLine; decide), fun q nq => k _ _ (same_upd nq) (SqT.of upd_same)⟩
    · refine ⟨_, rfl, _, _, _, _, true, rfl, .ty _, tyT hp, kit_ty (by decide +kernel), true, rfl, iteT ?_⟩
      exact ⟨_, rfl, k _ _ (Same.refl H) hp⟩
def spLe (K : PySem.W.Frag) : Sp := fun vs H Q _ => ∃ (v v' : V) (t t' : Int) (b b' : Nat), vs = [v, v'] ∧ NumD K H v t b ∧ NumD K H v' t' b' ∧ Sz t b ∧ Sz t' b' ∧ ∀ H', Same H H' → Q (.bl (decide (t * b' ≤ t' * b))) H'
def spMov (K : PySem.W.Frag) : Sp := fun vs H Q _ => ∃ (v : V) (t : Int) (b : Nat), vs = [v] ∧ NumD K H v t b ∧ Q (.bl false) H
theorem scMov : FnScope ["number"] ["number"] (defScope (top 31)) := ⟨rfl, rfl, rfl, by decide +kernel, rfl, by decide +kernel, by decide +kernel⟩
theorem ok_mov {f : Addr} {fd : FuncData} (F : FnP K "is_moving" (top 31) f fd) (N : Nm mg) : FnOk P w K mg base CX0 1 f fd ["number"] (spMov K) := by
  refine F.ok scMov (fun vs H Q E h => ?_) (fun cdv A outer s H vs Q E hr h => ?_)
  · obtain ⟨v, t, b, rfl, _⟩ := h
    rfl
  · obtain ⟨v, t, b, rfl, hv, k⟩ := h
    refine ⟨_, PSs.nox (pss_one (ps_ret (pe_and (pe_callB call_isi (by rfl) N.isi (by decide +kernel) (pa_cons (pv 0) (pa_cons (pe_bltn (v := .ty "tuple") (u := .type "tuple") (by rfl) N.ttup (by decide +kernel) rfl) pa_nil))) (pe_one (pe_cmpR op_eq (pe_callB call_len_seq (by rfl) N.len PySem.boot_len (pa_cons (pv 0) pa_nil)) pe_int (nomark _)))))), ?_⟩
    rcases hv with ⟨rfl, rfl⟩ | ⟨p, rfl, hp⟩
    · exact ⟨_, rfl, _, _, _, _, false, rfl, .ty _, .base (.int _), kit_ty (by decide +kernel), false, rfl, iteF k⟩
    · refine ⟨_, rfl, _, _, _, _, true, rfl, .ty _, tyT hp, kit_ty (by decide +kernel), true, rfl, iteT ?_⟩
      exact ⟨_, rfl, p, _, rfl, .inr hp, rfl, k⟩
theorem scLe : FnScope ["one", "other", "one_top", "one_bottom", "other_top", "other_bottom"] ["one", "other"] (defScope (top 37)) := ⟨rfl, rfl, rfl, by decide +kernel, rfl, by decide +kernel, by decide +kernel⟩
theorem ok_le {f fM fP : Addr} {fd dM dP : FuncData} (F : FnP K "at_most" (top 37) f fd) (N : Nm mg) (d_is_moving : D1 P w K mg base "is_moving" "number" 1 (spMov K) fM dM) (d_fraction_of : D1 P w K mg base "fraction_of" "number" 1 (spPair K) fP dP) : FnOk P w K mg base CX0 2 f fd ["one", "other"] (spLe K) := by
  refine F.ok scLe (fun vs H Q E h => ?_) (fun cdv A outer s H vs Q E hr h => ?_)
  · obtain ⟨v, v', t, t', b, b', rfl, _⟩ := h
    rfl
  · obtain ⟨v, v', t, t', b, b', rfl, hv, hv', z, z', k⟩ := h
    refine ⟨_, PSs.nox (pss_cons (ps_if (PW.pt (pw_and (pt_val (pe_callB call_isi (by rfl) N.isi (by decide +kernel) (pa_cons (pv 0) (pa_cons (pe_bltn (v := .ty "int") (u := .type "int") (by rfl) N.tint (by decide +kernel) rfl) pa_nil)))) (pw_and1 (pt_val (pe_callB call_isi (by rfl) N.isi (by decide +kernel) (pa_cons (pv 1) (pa_cons (pe_bltn (v := .ty "int") (u := .type "int") (by rfl) N.tint (by decide +kernel) rfl) pa_nil)))))))
    (pss_one (ps_ret (pe_cmpR op_le (pv 0) (pv 1) (nomark _))))
    pss_nil)
  (pss_cons (ps_if (PW.pt (pw_or (pt_val (pe_call d_is_moving.G (hr.mono (by decide)) (by rfl) d_is_moving.g d_is_moving.kp d_is_moving.b .nil pass0 (pa_cons (pv 0) pa_nil))) (pw_or1 (pt_val (pe_call d_is_moving.G (hr.mono (by decide)) (by rfl) d_is_moving.g d_is_moving.kp d_is_moving.b .nil pass0 (pa_cons (pv 1) pa_nil))))))
    pss_never
    pss_nil)
  (pss_cons (ps_asg (pe_call d_fraction_of.G (hr.mono (by decide)) (by rfl) d_fraction_of.g d_fraction_of.kp d_fraction_of.b .nil pass0 (pa_cons (pv 0) pa_nil)) (pg_tup rfl (pgs_cons (pg_name (i := 2) scLe.nd rfl (Or.inl rfl)) (pgs_cons (pg_name (i := 3) scLe.nd rfl (Or.inl rfl)) pgs_nil))))
  (pss_cons (ps_asg (pe_call d_fraction_of.G (hr.mono (by decide)) (by rfl) d_fraction_of.g d_fraction_of.kp d_fraction_of.b .nil pass0 (pa_cons (pv 1) pa_nil)) (pg_tup rfl (pgs_cons (pg_name (i := 4) scLe.nd rfl (Or.inl rfl)) (pgs_cons (pg_name (i := 5) scLe.nd rfl (Or.inl rfl)) pgs_nil))))
  (pss_one (ps_ret (pe_cmpR op_le (pe_op op_mulW (pv 2) (pv 5)) (pe_op op_mulW (pv 4) (pv 3)) (nomark _)))))))), ?_⟩
    have hw := hv
    have hw' := hv'
    rcases hv with ⟨rfl, rfl⟩ | ⟨p, rfl, hp⟩
    · refine ⟨_, rfl, _, _, _, _, true, rfl, .ty _, .base (.int _), kit_ty (by decide +kernel), true, rfl, iteT ?_⟩
      rcases hv' with ⟨rfl, rfl⟩ | ⟨p', rfl, hp'⟩
      · refine ⟨_, rfl, _, _, _, _, true, rfl, .ty _, .base (.int _), kit_ty (by decide +kernel), true, rfl, iteT ?_⟩
        refine ⟨_, rfl, _, rfl, _, _, rfl, rfl, ?_⟩
        have q := k H (Same.refl H)
        rw [show decide (t * ((1 : Nat) : Int) ≤ t' * ((1 : Nat) : Int)) = decide (t ≤ t') from decide_eq_decide.mpr (by omega)] at q
        exact q
      · refine ⟨_, rfl, _, _, _, _, false, rfl, .ty _, tyT hp', kit_ty (by decide +kernel), false, rfl, iteF ?_⟩
        refine ⟨_, rfl, _, _, _, rfl, hw, false, rfl, iteF ?_⟩
        refine ⟨_, rfl, _, _, _, rfl, hw', false, rfl, iteF ?_⟩
        refine ⟨_, rfl, _, _, _, rfl, hw, fun H1 p1 s1 e1 => ⟨p1, _, rfl, e1, rfl, _, _, rfl, _, _, rfl, rfl, ?_⟩⟩
        refine ⟨_, rfl, _, _, _, rfl, hw'.same s1, fun H2 p2 s2 e2 => ⟨p2, _, rfl, e2, rfl, _, _, rfl, _, _, rfl, rfl, ?_⟩⟩
        exact ⟨_, rfl, _, rfl, _, _, rfl, rfl, wm z.1 z'.2.2, _, rfl, _, rfl, _, _, rfl, rfl, wm z'.1 z.2.2, _, _, rfl, rfl, k _ (s1.trans s2)⟩
    · refine ⟨_, rfl, _, _, _, _, false, rfl, .ty _, tyT hp, kit_ty (by decide +kernel), false, rfl, iteF (iteF ?_)⟩
      refine ⟨_, rfl, _, _, _, rfl, hw, false, rfl, iteF ?_⟩
      refine ⟨_, rfl, _, _, _, rfl, hw', false, rfl, iteF ?_⟩
      refine ⟨_, rfl, _, _, _, rfl, hw, fun H1 p1 s1 e1 => ⟨p1, _, rfl, e1, rfl, _, _, rfl, _, _, rfl, rfl, ?_⟩⟩
      refine ⟨_, rfl, _, _, _, rfl, hw'.same s1, fun H2 p2 s2 e2 => ⟨p2, _, rfl, e2, rfl, _, _, rfl, _, _, rfl, rfl, ?_⟩⟩
      exact ⟨_, rfl, _, rfl, _, _, rfl, rfl, wm z.1 z'.2.2, _, rfl, _, rfl, _, _, rfl, rfl, wm z'.1 z.2.2, _, _, rfl, rfl, k _ (s1.trans s2)⟩
theorem scLen : FnScope ["value"] ["value"] (defScope (top 28)) := ⟨rfl, rfl, rfl, by decide +kernel, rfl, by decide +kernel, by decide +kernel⟩
theorem ok_len {f fN fL : Addr} {fd dN dL : FuncData} (F : FnP K "is_length" (top 28) f fd) (d_is_number : D1 P w K mg base "is_number" "value" 2 (spQ K any isNum) fN dN) (d_at_most : D2 P w K mg base "at_most" "one" "other" 2 (spLe K) fL dL) : FnOk P w K mg base CX0 3 f fd ["value"] (spQ K okL isLen) := by
  refine F.ok scLen (fun vs H Q E h => ?_) (fun cdv A outer s H vs Q E hr h => ?_)
  · obtain ⟨v, d, rfl, _⟩ := h
    rfl
  · obtain ⟨v, d, rfl, hd, hl, k⟩ := h
    refine ⟨_, PSs.nox (pss_one (ps_ret (pe_and (pe_call d_is_number.G (hr.mono (by decide)) (by rfl) d_is_number.g d_is_number.kp d_is_number.b .nil pass0 (pa_cons (pv 0) pa_nil)) (pe_one (pe_call d_at_most.G (hr.mono (by decide)) (by rfl) d_at_most.g d_at_most.kp d_at_most.b .nil pass0 (pa_cons pe_int (pa_cons (pv 0) pa_nil))))))), ?_⟩
    refine ⟨_, rfl, v, d, rfl, hd, trivial, fun H1 s1 => ⟨_, rfl, ite2 (fun c => ?_) (fun c => ?_)⟩⟩
    · obtain ⟨b, b0, eb, hn⟩ := dpNum c (dpS s1 hd)
      obtain ⟨l1, l2⟩ := hl c
      refine ⟨_, rfl, .int 0, v, 0, topOf d, 1, b, rfl, .inl ⟨rfl, rfl⟩, hn, ⟨by decide, by decide, by decide⟩, ⟨l1, b0, by omega⟩, fun H2 s2 => ?_⟩
      have q := k H2 (s1.trans s2)
      have e : isLen d = decide ((0 : Int) * (b : Int) ≤ topOf d * ((1 : Nat) : Int)) := by
        unfold isLen
        rw [c, Bool.true_and]
        exact decide_eq_decide.mpr (by constructor <;> intro z <;> omega)
      rw [e] at q
      exact q
    · have e : isLen d = false := by
        unfold isLen
        cases h : isNum d with
        | true => exact absurd h c
        | false => rfl
      have q := k H1 s1
      rw [e] at q
      exact q
/-! ### words, marks, names -/
def isStr : PyData → Option Str
  | .str z => some z
  | _ => none
def isWord (d : PyData) (ws : List Str) : Bool := match d with
  | .str z => ws.any fun w => w == z
  | _ => false
def spWord (K : PySem.W.Frag) : Sp := fun vs H Q _ => ∃ (v : V) (d : PyData) (p : Addr) (ws : List Str), vs = [v, .ref p] ∧ Dp K H v d ∧ SqT K H p (ws.map V.str) ∧ Q (.bl (isWord d ws)) H
theorem scWord : FnScope ["value", "words"] ["value", "words"] (defScope (top 11)) := ⟨rfl, rfl, rfl, by decide +kernel, rfl, by decide +kernel, by decide +kernel⟩
theorem inV_str (z : Str) (ws : List Str) : inV (.str z) (ws.map V.str) = ws.any fun w => w == z := by
  unfold inV
  rw [List.any_map]
  rfl
theorem ok_word {f : Addr} {fd : FuncData} (F : FnP K "is_word" (top 11) f fd) (N : Nm mg) (hs : mg "str" = none) : FnOk P w K mg base CX0 1 f fd ["value", "words"] (spWord K) := by
  refine F.ok scWord (fun vs H Q E h => ?_) (fun cdv A outer s H vs Q E hr h => ?_)
  · obtain ⟨v, d, p, ws, rfl, _⟩ := h
    rfl
  · obtain ⟨v, d, p, ws, rfl, hd, hp, k⟩ := h
    refine ⟨_, PSs.nox (pss_one (ps_ret (pe_and (pe_callB call_isi (by rfl) N.isi (by decide +kernel) (pa_cons (pv 0) (pa_cons (pe_bltn (v := .ty "str") (u := .type "str") (by rfl) hs (by decide +kernel) rfl) pa_nil))) (pe_one (pe_cmpR op_in_seq (pv 0) (pv 1) (by rfl)))))), ?_⟩
    refine ⟨_, rfl, _, _, _, _, _, rfl, .ty _, dpTy hd, kitD d (by decide), _, rfl, ite2 (fun c => ?_) (fun c => ?_)⟩
    · obtain ⟨z, rfl⟩ : ∃ z, d = .str z := by
        cases d with
        | str z => exact ⟨z, rfl⟩
        | _ => exact absurd c (by simp only [isTy, tyN]; decide)
      cases hd
      refine ⟨_, rfl, _, rfl, p, _, rfl, .inr hp, rfl, ?_, ?_⟩
      · rw [List.all_eq_true]
        intro x hx
        obtain ⟨y, _, rfl⟩ := List.mem_map.mp hx
        rfl
      · have q := k
        rw [show isWord (.str z) ws = inV (.str z) (ws.map V.str) from (inV_str z ws).symm] at q
        exact q
    · have e : isWord d ws = false := by
        cases d with
        | str z => exact absurd (show isTy (.str z) "str" = true by simp only [isTy, tyN]; decide) c
        | _ => rfl
      rw [e] at k
      exact k
def isMark (d : PyData) (z : Str) (n : Int) : Bool := match d with
  | .tuple ds => decide ((ds.length : Int) = n) && isWord (ds.headD .none) [z]
  | _ => false
/-- is_marked(value, word, many), many from 1 on -/
def spMark (K : PySem.W.Frag) : Sp := fun vs H Q _ => ∃ (v : V) (d : PyData) (z : Str) (n : Int), vs = [v, .str z, .int n] ∧ Dp K H v d ∧ 1 ≤ n ∧ ∀ H', Same H H' → Q (.bl (isMark d z n)) H'
theorem scMark : FnScope ["value", "word", "many"] ["value", "word", "many"] (defScope (top 12)) := ⟨rfl, rfl, rfl, by decide +kernel, rfl, by decide +kernel, by decide +kernel⟩
theorem ok_mark {f fW : Addr} {fd dW : FuncData} (F : FnP K "is_marked" (top 12) f fd) (N : Nm mg) (d_is_word : D2 P w K mg base "is_word" "value" "words" 1 (spWord K) fW dW) : FnOk P w K mg base CX0 2 f fd ["value", "word", "many"] (spMark K) := by
  refine F.ok scMark (fun vs H Q E h => ?_) (fun cdv A outer s H vs Q E hr h => ?_)
  · obtain ⟨v, d, z, n, rfl, _⟩ := h
    rfl
  · obtain ⟨v, d, z, n, rfl, hd, hn, k⟩ := h
    refine ⟨_, PSs.nox (pss_one (ps_ret (pe_and (pe_callB call_isi (by rfl) N.isi (by decide +kernel) (pa_cons (pv 0) (pa_cons (pe_bltn (v := .ty "tuple") (u := .type "tuple") (by rfl) N.ttup (by decide +kernel) rfl) pa_nil))) (pe_and (pe_cmpR op_eq (pe_callB call_len_seq (by rfl) N.len PySem.boot_len (pa_cons (pv 0) pa_nil)) (pv 2) (nomark _)) (pe_one (pe_call d_is_word.G (hr.mono (by decide)) (by rfl) d_is_word.g d_is_word.kp d_is_word.b .nil pass0 (pa_cons (pe_ix ix_tup (pv 0) pe_int (fun _ _ => rfl)) (pa_cons (pe_tup (pa_cons (pv 1) pa_nil)) pa_nil)))))))), ?_⟩
    refine ⟨_, rfl, _, _, _, _, _, rfl, .ty _, dpTy hd, kitD d (by decide), _, rfl, ite2 (fun c => ?_) (fun c => ?_)⟩
    · obtain ⟨ds, rfl⟩ := isTy_tup c
      cases hd with
      | tup ht hx =>
        rename_i p xs
        have hl := dpLen hx
        refine ⟨_, rfl, p, _, rfl, .inr ht, _, rfl, rfl, _, rfl, ite2 (fun c2 => ?_) (fun c2 => ?_)⟩
        · have c2 : ((xs.length : Nat) : Int) = n := by
            have c2 : V.int ((xs.length : Nat) : Int) = V.int n := of_decide_eq_true c2
            injection c2
          cases hx with
          | nil => exact absurd c2 (by show ((0 : Nat) : Int) ≠ n; omega)
          | @cons y ys e es hy hys =>
            refine ⟨_, rfl, p, _, _, y, rfl, rfl, ht, atI_nat (j := 0) rfl, _, rfl, (by show 1 ≤ sizeLine; decide), fun q nq => ?_⟩
            have s1 := same_upd (o := .tup [.str z]) nq
            refine ⟨y, e, q, [z], rfl, dpS s1 hy, SqT.of upd_same, ?_⟩
            have r := k _ s1
            have ee : isMark (.tuple (e :: es)) z n = isWord e [z] := by
              show (decide (((e :: es).length : Int) = n) && isWord e [z]) = _
              rw [← hl, decide_eq_true c2, Bool.true_and]
            rw [ee] at r
            exact r
        · have r := k _ (Same.refl H)
          have ee : isMark (.tuple ds) z n = false := by
            show (decide ((ds.length : Int) = n) && isWord (ds.headD .none) [z]) = false
            rw [← hl, decide_eq_false (fun e => c2 (decide_eq_true (show V.int ((xs.length : Nat) : Int) = V.int n by rw [e])))]
            rfl
          rw [ee] at r
          exact r
    · have e : isMark d z n = false := by
        cases d with
        | tuple ds => exact absurd (show isTy (.tuple ds) "tuple" = true by simp only [isTy, tyN]; decide) c
        | _ => rfl
      have r := k _ (Same.refl H)
      rw [e] at r
      exact r
end
end K5

set_option Elab.async false
set_option linter.all false
set_option maxRecDepth 100000
set_option maxHeartbeats 4000000
namespace K5
open PySem PySem.Spec PyProof.Rows L2
open K1 (FnP top Nm)
/-! ### questions that only put others together -/
def itemAt (d : PyData) (i : Nat) : PyData := match d with
  | .tuple ds => ds.getD i .none
  | _ => .none
def isPart (d : PyData) : Bool := isMark d "part" 2 && isLen (itemAt d 1)
def isShare (d : PyData) : Bool := isMark d "share" 2 && isLen (itemAt d 1)
def isFixed (d : PyData) : Bool := isLen d || isPart d
def sizeWords : List Str := ["least", "most", "auto"]
def isPlain (d : PyData) : Bool := isFixed d || isWord d sizeWords
def isBetw (d : PyData) : Bool := isMark d "between" 3 && (isPlain (itemAt d 1) && (isPlain (itemAt d 2) || isShare (itemAt d 2)))
def isUpto (d : PyData) : Bool := isMark d "upto" 2 && isFixed (itemAt d 1)
def isSize (d : PyData) : Bool := isPlain d || (isShare d || (isBetw d || isUpto d))
/-- numbers in it, two deep, of no great size -/
def okS (d : PyData) : Prop := okL d ∧ ∀ i, okL (itemAt d i)
def okB (d : PyData) : Prop := okS d ∧ ∀ i, okS (itemAt d i)
theorem mark_tup {d : PyData} {z : Str} {n : Nat} (h : isMark d z (n : Int) = true) : ∃ ds, d = .tuple ds ∧ ds.length = n := by
  cases d with
  | tuple ds =>
    refine ⟨ds, rfl, ?_⟩
    have h' : (decide ((ds.length : Int) = (n : Int)) && isWord (ds.headD .none) [z]) = true := h
    have := of_decide_eq_true (Bool.and_eq_true_iff.mp h').1
    omega
  | _ => exact absurd h Bool.false_ne_true
/-- value[i], where value is marked -/
theorem dpItem {K : PySem.W.Frag} {H : Hp} {v : V} {d : PyData} {z : Str} {n : Nat} (hd : Dp K H v d) (h : isMark d z (n : Int) = true) (i : Nat) (hi : i < n) : ∃ p xs u, v = .ref p ∧ SqT K H p xs ∧ xs[i]? = some u ∧ Dp K H u (itemAt d i) := by
  obtain ⟨ds, rfl, hl⟩ := mark_tup h
  cases hd with
  | @tup p xs _ ht hx =>
    have e : ds[i]? = some (itemAt (.tuple ds) i) := by
      show ds[i]? = some (ds.getD i .none)
      rw [List.getD_eq_getElem?_getD, List.getElem?_eq_getElem (by omega)]
      rfl
    obtain ⟨u, eu, hu⟩ := dpAt i hx e
    exact ⟨p, xs, u, rfl, ht, eu, hu⟩
section
variable {P : Program} {w : World} {K : PySem.W.Frag} {mg : Str → Option Value} {base : Heap}
theorem bq {A : Prop} {a b : Bool} {Q : VK} {H : Hp} (e : a = b) (h : Q (.bl a) H) : Q (.bl b) H := e ▸ h
theorem scPart : FnScope ["value"] ["value"] (defScope (top 43)) := ⟨rfl, rfl, rfl, by decide +kernel, rfl, by decide +kernel, by decide +kernel⟩
theorem ok_part {f fM fL : Addr} {fd dM dL : FuncData} (F : FnP K "is_part" (top 43) f fd) (d_is_marked : D3 P w K mg base "is_marked" "value" "word" "many" 2 (spMark K) fM dM) (d_is_length : D1 P w K mg base "is_length" "value" 3 (spQ K okL isLen) fL dL) : FnOk P w K mg base CX0 4 f fd ["value"] (spQ K okS isPart) := by
  refine F.ok scPart (fun vs H Q E h => ?_) (fun cdv A outer s H vs Q E hr h => ?_)
  · obtain ⟨v, d, rfl, _⟩ := h
    rfl
  · obtain ⟨v, d, rfl, hd, ho, k⟩ := h
    refine ⟨_, PSs.nox (pss_one (ps_ret (pe_and (pe_call d_is_marked.G (hr.mono (by decide)) (by rfl) d_is_marked.g d_is_marked.kp d_is_marked.b .nil pass0 (pa_cons (pv 0) (pa_cons pe_str (pa_cons pe_int pa_nil)))) (pe_one (pe_call d_is_length.G (hr.mono (by decide)) (by rfl) d_is_length.g d_is_length.kp d_is_length.b .nil pass0 (pa_cons (pe_ix ix_tup (pv 0) pe_int (fun _ _ => rfl)) pa_nil)))))), ?_⟩
    refine ⟨_, rfl, v, d, "part", 2, rfl, hd, by decide, fun H1 s1 => ⟨_, rfl, ite2 (fun c => ?_) (fun c => ?_)⟩⟩
    · obtain ⟨p, xs, u, rfl, ht, eu, hu⟩ := dpItem (n := 2) (dpS s1 hd) c 1 (by decide)
      refine ⟨_, rfl, p, xs, 1, u, rfl, rfl, ht, atI_nat (j := 1) eu, u, _, rfl, hu, ho.2 1, fun H2 s2 => bq (A := True) ?_ (k H2 (s1.trans s2))⟩
      show (isMark d "part" 2 && isLen (itemAt d 1)) = _
      rw [c, Bool.true_and]
    · refine bq (A := True) ?_ (k H1 s1)
      show (isMark d "part" 2 && isLen (itemAt d 1)) = _
      rw [Bool.eq_false_iff.mpr c, Bool.false_and]
theorem scShare : FnScope ["value"] ["value"] (defScope (top 44)) := ⟨rfl, rfl, rfl, by decide +kernel, rfl, by decide +kernel, by decide +kernel⟩
theorem ok_share {f fM fL : Addr} {fd dM dL : FuncData} (F : FnP K "is_share" (top 44) f fd) (d_is_marked : D3 P w K mg base "is_marked" "value" "word" "many" 2 (spMark K) fM dM) (d_is_length : D1 P w K mg base "is_length" "value" 3 (spQ K okL isLen) fL dL) : FnOk P w K mg base CX0 4 f fd ["value"] (spQ K okS isShare) := by
  refine F.ok scShare (fun vs H Q E h => ?_) (fun cdv A outer s H vs Q E hr h => ?_)
  · obtain ⟨v, d, rfl, _⟩ := h
    rfl
  · obtain ⟨v, d, rfl, hd, ho, k⟩ := h
    refine ⟨_, PSs.nox (pss_one (ps_ret (pe_and (pe_call d_is_marked.G (hr.mono (by decide)) (by rfl) d_is_marked.g d_is_marked.kp d_is_marked.b .nil pass0 (pa_cons (pv 0) (pa_cons pe_str (pa_cons pe_int pa_nil)))) (pe_one (pe_call d_is_length.G (hr.mono (by decide)) (by rfl) d_is_length.g d_is_length.kp d_is_length.b .nil pass0 (pa_cons (pe_ix ix_tup (pv 0) pe_int (fun _ _ => rfl)) pa_nil)))))), ?_⟩
    refine ⟨_, rfl, v, d, "share", 2, rfl, hd, by decide, fun H1 s1 => ⟨_, rfl, ite2 (fun c => ?_) (fun c => ?_)⟩⟩
    · obtain ⟨p, xs, u, rfl, ht, eu, hu⟩ := dpItem (n := 2) (dpS s1 hd) c 1 (by decide)
      refine ⟨_, rfl, p, xs, 1, u, rfl, rfl, ht, atI_nat (j := 1) eu, u, _, rfl, hu, ho.2 1, fun H2 s2 => bq (A := True) ?_ (k H2 (s1.trans s2))⟩
      show (isMark d "share" 2 && isLen (itemAt d 1)) = _
      rw [c, Bool.true_and]
    · refine bq (A := True) ?_ (k H1 s1)
      show (isMark d "share" 2 && isLen (itemAt d 1)) = _
      rw [Bool.eq_false_iff.mpr c, Bool.false_and]
theorem scFixed : FnScope ["value"] ["value"] (defScope (top 45)) := ⟨rfl, rfl, rfl, by decide +kernel, rfl, by decide +kernel, by decide +kernel⟩
theorem ok_fixed {f fM fL : Addr} {fd dM dL : FuncData} (F : FnP K "is_fixed" (top 45) f fd) (d_is_length : D1 P w K mg base "is_length" "value" 3 (spQ K okL isLen) fL dL) (d_is_part : D1 P w K mg base "is_part" "value" 4 (spQ K okS isPart) fM dM) : FnOk P w K mg base CX0 5 f fd ["value"] (spQ K okS isFixed) := by
  refine F.ok scFixed (fun vs H Q E h => ?_) (fun cdv A outer s H vs Q E hr h => ?_)
  · obtain ⟨v, d, rfl, _⟩ := h
    rfl
  · obtain ⟨v, d, rfl, hd, ho, k⟩ := h
    refine ⟨_, PSs.nox (pss_one (ps_ret (pe_or (pe_call d_is_length.G (hr.mono (by decide)) (by rfl) d_is_length.g d_is_length.kp d_is_length.b .nil pass0 (pa_cons (pv 0) pa_nil)) (pe_one (pe_call d_is_part.G (hr.mono (by decide)) (by rfl) d_is_part.g d_is_part.kp d_is_part.b .nil pass0 (pa_cons (pv 0) pa_nil)))))), ?_⟩
    refine ⟨_, rfl, v, d, rfl, hd, ho.1, fun H1 s1 => ⟨_, rfl, ite2 (fun c => ?_) (fun c => ?_)⟩⟩
    · refine bq (A := True) ?_ (k H1 s1)
      show (isLen d || isPart d) = _
      rw [c, Bool.true_or]
    · refine ⟨_, rfl, v, d, rfl, dpS s1 hd, ho, fun H2 s2 => bq (A := True) ?_ (k H2 (s1.trans s2))⟩
      show (isLen d || isPart d) = _
      rw [Bool.eq_false_iff.mpr c, Bool.false_or]
theorem scPlain : FnScope ["value"] ["value"] (defScope (top 46)) := ⟨rfl, rfl, rfl, by decide +kernel, rfl, by decide +kernel, by decide +kernel⟩
theorem ok_plain {f fM fL aS : Addr} {fd dM dL : FuncData} (F : FnP K "is_plain_size" (top 46) f fd) (d_is_fixed : D1 P w K mg base "is_fixed" "value" 5 (spQ K okS isFixed) fL dL) (d_is_word : D2 P w K mg base "is_word" "value" "words" 1 (spWord K) fM dM) (gS : mg "SIZE_WORDS" = some (.ref aS)) (hS : ∀ H, SqT K H aS (sizeWords.map V.str)) :
    FnOk P w K mg base CX0 6 f fd ["value"] (spQ K okS isPlain) := by
  refine F.ok scPlain (fun vs H Q E h => ?_) (fun cdv A outer s H vs Q E hr h => ?_)
  · obtain ⟨v, d, rfl, _⟩ := h
    rfl
  · obtain ⟨v, d, rfl, hd, ho, k⟩ := h
    refine ⟨_, PSs.nox (pss_one (ps_ret (pe_or (pe_call d_is_fixed.G (hr.mono (by decide)) (by rfl) d_is_fixed.g d_is_fixed.kp d_is_fixed.b .nil pass0 (pa_cons (pv 0) pa_nil)) (pe_one (pe_call d_is_word.G (hr.mono (by decide)) (by rfl) d_is_word.g d_is_word.kp d_is_word.b .nil pass0 (pa_cons (pv 0) (pa_cons (pe_glob (by rfl) gS (v := .ref aS) rfl) pa_nil))))))), ?_⟩
    refine ⟨_, rfl, v, d, rfl, hd, ho, fun H1 s1 => ⟨_, rfl, ite2 (fun c => ?_) (fun c => ?_)⟩⟩
    · refine bq (A := True) ?_ (k H1 s1)
      show (isFixed d || isWord d sizeWords) = _
      rw [c, Bool.true_or]
    · refine ⟨_, rfl, v, d, aS, sizeWords, rfl, dpS s1 hd, hS _, bq (A := True) ?_ (k H1 s1)⟩
      show (isFixed d || isWord d sizeWords) = _
      rw [Bool.eq_false_iff.mpr c, Bool.false_or]
theorem scUpto : FnScope ["value"] ["value"] (defScope (top 48)) := ⟨rfl, rfl, rfl, by decide +kernel, rfl, by decide +kernel, by decide +kernel⟩
theorem ok_upto {f fM fL : Addr} {fd dM dL : FuncData} (F : FnP K "is_upto" (top 48) f fd) (d_is_marked : D3 P w K mg base "is_marked" "value" "word" "many" 2 (spMark K) fM dM) (d_is_fixed : D1 P w K mg base "is_fixed" "value" 5 (spQ K okS isFixed) fL dL) : FnOk P w K mg base CX0 6 f fd ["value"] (spQ K okB isUpto) := by
  refine F.ok scUpto (fun vs H Q E h => ?_) (fun cdv A outer s H vs Q E hr h => ?_)
  · obtain ⟨v, d, rfl, _⟩ := h
    rfl
  · obtain ⟨v, d, rfl, hd, ho, k⟩ := h
    refine ⟨_, PSs.nox (pss_one (ps_ret (pe_and (pe_call d_is_marked.G (hr.mono (by decide)) (by rfl) d_is_marked.g d_is_marked.kp d_is_marked.b .nil pass0 (pa_cons (pv 0) (pa_cons pe_str (pa_cons pe_int pa_nil)))) (pe_one (pe_call d_is_fixed.G (hr.mono (by decide)) (by rfl) d_is_fixed.g d_is_fixed.kp d_is_fixed.b .nil pass0 (pa_cons (pe_ix ix_tup (pv 0) pe_int (fun _ _ => rfl)) pa_nil)))))), ?_⟩
    refine ⟨_, rfl, v, d, "upto", 2, rfl, hd, by decide, fun H1 s1 => ⟨_, rfl, ite2 (fun c => ?_) (fun c => ?_)⟩⟩
    · obtain ⟨p, xs, u, rfl, ht, eu, hu⟩ := dpItem (n := 2) (dpS s1 hd) c 1 (by decide)
      refine ⟨_, rfl, p, xs, 1, u, rfl, rfl, ht, atI_nat (j := 1) eu, u, _, rfl, hu, ho.2 1, fun H2 s2 => bq (A := True) ?_ (k H2 (s1.trans s2))⟩
      show (isMark d "upto" 2 && isFixed (itemAt d 1)) = _
      rw [c, Bool.true_and]
    · refine bq (A := True) ?_ (k H1 s1)
      show (isMark d "upto" 2 && isFixed (itemAt d 1)) = _
      rw [Bool.eq_false_iff.mpr c, Bool.false_and]
theorem scBetw : FnScope ["value"] ["value"] (defScope (top 47)) := ⟨rfl, rfl, rfl, by decide +kernel, rfl, by decide +kernel, by decide +kernel⟩
theorem ok_betw {f fM fL fS : Addr} {fd dM dL dS : FuncData} (F : FnP K "is_between" (top 47) f fd) (d_is_marked : D3 P w K mg base "is_marked" "value" "word" "many" 2 (spMark K) fM dM) (d_is_plain_size : D1 P w K mg base "is_plain_size" "value" 6 (spQ K okS isPlain) fL dL) (d_is_share : D1 P w K mg base "is_share" "value" 4 (spQ K okS isShare) fS dS) :
    FnOk P w K mg base CX0 7 f fd ["value"] (spQ K okB isBetw) := by
  refine F.ok scBetw (fun vs H Q E h => ?_) (fun cdv A outer s H vs Q E hr h => ?_)
  · obtain ⟨v, d, rfl, _⟩ := h
    rfl
  · obtain ⟨v, d, rfl, hd, ho, k⟩ := h
    refine ⟨_, PSs.nox (pss_cons (ps_if (PW.pt (pw_or (pt_not (pt_val (pe_call d_is_marked.G (hr.mono (by decide)) (by rfl) d_is_marked.g d_is_marked.kp d_is_marked.b .nil pass0 (pa_cons (pv 0) (pa_cons pe_str (pa_cons pe_int pa_nil)))))) (pw_or1 (pt_not (pt_val (pe_call d_is_plain_size.G (hr.mono (by decide)) (by rfl) d_is_plain_size.g d_is_plain_size.kp d_is_plain_size.b .nil pass0 (pa_cons (pe_ix ix_tup (pv 0) pe_int (fun _ _ => rfl)) pa_nil)))))))
    (pss_one (ps_ret pe_bl))
    pss_nil)
  (pss_one (ps_ret (pe_or (pe_call d_is_plain_size.G (hr.mono (by decide)) (by rfl) d_is_plain_size.g d_is_plain_size.kp d_is_plain_size.b .nil pass0 (pa_cons (pe_ix ix_tup (pv 0) pe_int (fun _ _ => rfl)) pa_nil)) (pe_one (pe_call d_is_share.G (hr.mono (by decide)) (by rfl) d_is_share.g d_is_share.kp d_is_share.b .nil pass0 (pa_cons (pe_ix ix_tup (pv 0) pe_int (fun _ _ => rfl)) pa_nil))))))), ?_⟩
    have ed : isBetw d = (isMark d "between" 3 && (isPlain (itemAt d 1) && (isPlain (itemAt d 2) || isShare (itemAt d 2)))) := rfl
    refine ⟨_, rfl, v, d, "between", 3, rfl, hd, by decide, fun H1 s1 => ⟨_, rfl, ite2 (fun c => ?_) (fun c => ?_)⟩⟩
    · have c : isMark d "between" 3 = false := Bool.not_eq_true' _ ▸ c
      exact iteT (bq (A := True) (by rw [ed, c, Bool.false_and]) (k H1 s1))
    · have c : isMark d "between" 3 = true := by
        cases h : isMark d "between" 3 with
        | true => rfl
        | false =>
          rw [h] at c
          exact absurd rfl c
      obtain ⟨p, xs, u, rfl, ht, eu, hu⟩ := dpItem (n := 3) (dpS s1 hd) c 1 (by decide)
      obtain ⟨p', xs', u2, e2, ht', eu2, hu2⟩ := dpItem (n := 3) (dpS s1 hd) c 2 (by decide)
      cases e2
      refine ⟨_, rfl, p, xs, 1, u, rfl, rfl, ht, atI_nat (j := 1) eu, u, _, rfl, hu, ho.2 1, fun H2 s2 => ⟨_, rfl, ite2 (fun c2 => ?_) (fun c2 => ?_)⟩⟩
      · have c2 : isPlain (itemAt d 1) = false := Bool.not_eq_true' _ ▸ c2
        exact bq (A := True) (by rw [ed, c, c2, Bool.false_and, Bool.and_false]) (k H2 (s1.trans s2))
      · have c2 : isPlain (itemAt d 1) = true := by
          cases h : isPlain (itemAt d 1) with
          | true => rfl
          | false =>
            rw [h] at c2
            exact absurd rfl c2
        refine ⟨_, rfl, p, xs', 2, u2, rfl, rfl, Same.seqT s2 ht', atI_nat (j := 2) eu2, u2, _, rfl, dpS s2 hu2, ho.2 2, fun H3 s3 => ⟨_, rfl, ite2 (fun c3 => ?_) (fun c3 => ?_)⟩⟩
        · exact bq (A := True) (by rw [ed, c, c2, c3]; rfl) (k H3 ((s1.trans s2).trans s3))
        · refine ⟨_, rfl, p, xs', 2, u2, rfl, rfl, Same.seqT (s2.trans s3) ht', atI_nat (j := 2) eu2, u2, _, rfl, dpS (s2.trans s3) hu2, ho.2 2, fun H4 s4 => bq (A := True) ?_ (k H4 (((s1.trans s2).trans s3).trans s4))⟩
          rw [ed, c, c2, Bool.eq_false_iff.mpr c3]
          rfl
theorem scSize : FnScope ["value"] ["value"] (defScope (top 49)) := ⟨rfl, rfl, rfl, by decide +kernel, rfl, by decide +kernel, by decide +kernel⟩
theorem ok_size {f f1 f2 f3 f4 : Addr} {fd d1 d2 d3 d4 : FuncData} (F : FnP K "is_size" (top 49) f fd) (d_is_plain_size : D1 P w K mg base "is_plain_size" "value" 6 (spQ K okS isPlain) f1 d1) (d_is_share : D1 P w K mg base "is_share" "value" 4 (spQ K okS isShare) f2 d2) (d_is_between : D1 P w K mg base "is_between" "value" 7 (spQ K okB isBetw) f3 d3) (d_is_upto : D1 P w K mg base "is_upto" "value" 6 (spQ K okB isUpto) f4 d4) :
    FnOk P w K mg base CX0 8 f fd ["value"] (spQ K okB isSize) := by
  refine F.ok scSize (fun vs H Q E h => ?_) (fun cdv A outer s H vs Q E hr h => ?_)
  · obtain ⟨v, d, rfl, _⟩ := h
    rfl
  · obtain ⟨v, d, rfl, hd, ho, k⟩ := h
    refine ⟨_, PSs.nox (pss_one (ps_ret (pe_or (pe_call d_is_plain_size.G (hr.mono (by decide)) (by rfl) d_is_plain_size.g d_is_plain_size.kp d_is_plain_size.b .nil pass0 (pa_cons (pv 0) pa_nil)) (pe_or (pe_call d_is_share.G (hr.mono (by decide)) (by rfl) d_is_share.g d_is_share.kp d_is_share.b .nil pass0 (pa_cons (pv 0) pa_nil)) (pe_or (pe_call d_is_between.G (hr.mono (by decide)) (by rfl) d_is_between.g d_is_between.kp d_is_between.b .nil pass0 (pa_cons (pv 0) pa_nil)) (pe_one (pe_call d_is_upto.G (hr.mono (by decide)) (by rfl) d_is_upto.g d_is_upto.kp d_is_upto.b .nil pass0 (pa_cons (pv 0) pa_nil)))))))), ?_⟩
    have ed : isSize d = (isPlain d || (isShare d || (isBetw d || isUpto d))) := rfl
    refine ⟨_, rfl, v, d, rfl, hd, ho.1, fun H1 s1 => ⟨_, rfl, ite2 (fun c => bq (A := True) (by rw [ed, c, Bool.true_or]) (k H1 s1)) (fun c => ?_)⟩⟩
    refine ⟨_, rfl, v, d, rfl, dpS s1 hd, ho.1, fun H2 s2 => ⟨_, rfl, ite2 (fun c2 => bq (A := True) (by rw [ed, c2, Bool.true_or, Bool.or_true]) (k H2 (s1.trans s2))) (fun c2 => ?_)⟩⟩
    have s12 := s1.trans s2
    refine ⟨_, rfl, v, d, rfl, dpS s12 hd, ho, fun H3 s3 => ⟨_, rfl, ite2 (fun c3 => bq (A := True) (by rw [ed, c3, Bool.true_or, Bool.or_true, Bool.or_true]) (k H3 (s12.trans s3))) (fun c3 => ?_)⟩⟩
    have s13 := s12.trans s3
    exact ⟨_, rfl, v, d, rfl, dpS s13 hd, ho, fun H4 s4 => bq (A := True) (by rw [ed, Bool.eq_false_iff.mpr c, Bool.eq_false_iff.mpr c2, Bool.eq_false_iff.mpr c3]; rfl) (k H4 (s13.trans s4))⟩
end
end K5

set_option Elab.async false
set_option linter.all false
set_option maxRecDepth 100000
set_option maxHeartbeats 4000000
namespace K5
open PySem PySem.Spec PyProof.Rows L2
open K1 (FnP top Nm)
/-! ### names -/
theorem for_str {x : Str} {g : TG} {tb : TS} {D : Ends} {σ : L2.St} {H : Hp} (Pv : Nat → L2.St → Hp → Prop) (h0 : Pv 0 σ H)
    (hs : ∀ i c σ H, x.cps[i]? = some c → Pv i σ H → g (.str ⟨#[c]⟩) σ H fun σ2 H2 => tb { D with nx := Pv (i + 1), ct := Pv (i + 1), bk := D.nx } σ2 H2) (hd : ∀ σ H, Pv x.cps.size σ H → D.nx σ H) :
    ∃ W : Nat → Nat → L2.St → Hp → Prop, (∃ m, W 0 m σ H) ∧ ∀ i m σ H, W i m σ H →
      ((Its x).stop i H ∧ D.nx σ H) ∨ ((Its x).go i H ∧ ∃ N : L2.St → Hp → Prop, (∀ σ' H', N σ' H' → ∃ m', m' < m ∧ W (i + 1) m' σ' H') ∧ ∀ v H', (Its x).yld i H v H' → g v σ H' fun σ2 H2 => tb { D with nx := N, ct := N, bk := D.nx } σ2 H2) := by
  refine ⟨fun i m σ H => m = x.cps.size - i ∧ i ≤ x.cps.size ∧ Pv i σ H, ⟨x.cps.size, by simp, Nat.zero_le _, h0⟩, ?_⟩
  rintro i m σ H ⟨rfl, hi, p⟩
  by_cases hlt : i < x.cps.size
  · refine .inr ⟨hlt, Pv (i + 1), fun σ' H' p' => ⟨x.cps.size - (i + 1), by omega, rfl, hlt, p'⟩, fun v H' y => ?_⟩
    obtain ⟨e, c, ec, ev⟩ := y
    subst e ev
    exact hs i c σ _ ec p
  · have e : i = x.cps.size := by omega
    subst e
    exact .inl ⟨Nat.le_refl _, hd σ H p⟩
def signs : Str := "abcdefghijklmnopqrstuvwxyz0123456789-"
def letters : Str := "abcdefghijklmnopqrstuvwxyz"
def nameB (z : Str) : Bool := decide (1 ≤ z.cps.size) && (decide (z.cps.size ≤ 16) && (!decide (z = "span") && (z.cps.toList.all (fun c => decide (c ∈ signs.cps.toList)) && (match z.cps.toList with | c :: _ => decide (c ∈ letters.cps.toList) | [] => false))))
def isName (d : PyData) : Bool := match d with
  | .str z => nameB z
  | _ => false
def okZ (d : PyData) : Prop := ∀ z, d = .str z → z.length ≤ 1000
section
variable {P : Program} {w : World} {K : PySem.W.Frag} {mg : Str → Option Value} {base : Heap}
theorem scName : FnScope ["value", "sign"] ["value"] (defScope (top 13)) := ⟨rfl, rfl, rfl, by decide +kernel, rfl, by decide +kernel, by decide +kernel⟩
theorem ok_name {f : Addr} {fd : FuncData} {t1 t2 t3 : Tok} (F : FnP K "is_name" (top 13) f fd) (N : Nm mg) (hs : mg "str" = none) (gL : mg "LETTERS" = some (.str letters t1)) (gS : mg "NAME_SIGNS" = some (.str signs t2)) (gM : mg "LONGEST_NAME" = some (.int 16 t3)) :
    FnOk P w K mg base CX0 1 f fd ["value"] (spQ K okZ isName) := by
  refine F.ok scName (fun vs H Q E h => ?_) (fun cdv A outer s H vs Q E hr h => ?_)
  · obtain ⟨v, d, rfl, _⟩ := h
    rfl
  · obtain ⟨v, d, rfl, hd, ho, k⟩ := h
    have k := k H (Same.refl H)
    refine ⟨_, PSs.nox (pss_cons (ps_if (PW.pt (pw_or (pt_not (pt_val (pe_callB call_isi (by rfl) N.isi (by decide +kernel) (pa_cons (pv 0) (pa_cons (pe_bltn (v := .ty "str") (u := .type "str") (by rfl) hs (by decide +kernel) rfl) pa_nil))))) (pw_or (pt_not (pt_chain op_le op_le pe_int (pe_callB call_len_str (by rfl) N.len PySem.boot_len (pa_cons (pv 0) pa_nil)) (pe_glob (by rfl) gM (v := .int 16) ⟨_, rfl⟩))) (pw_or1 (pt_cmpR op_eq (pv 0) pe_str (nomark _))))))
    (pss_one (ps_ret pe_bl))
    pss_nil)
  (pss_cons (ps_for PassesOwn.never rfl (pi_str (pv 0))
    (pg_name (i := 1) scName.nd rfl (Or.inl rfl))
    (pss_one (ps_if (pt_cmpR op_notIn_sign (pv 1) (pe_glob (by rfl) gS (v := .str signs) ⟨_, rfl⟩) (by rfl))
    (pss_one (ps_ret pe_bl))
    pss_nil)))
  (pss_one (ps_ret (pe_cmpR op_in_sign (pe_ix ix_str (pv 0) pe_int (fun _ _ => rfl)) (pe_glob (by rfl) gL (v := .str letters) ⟨_, rfl⟩) (by rfl)))))), ?_⟩
    refine ⟨_, rfl, _, _, _, _, _, rfl, .ty _, dpTy hd, kitD d (by decide), _, rfl, ite2 (fun c => ?_) (fun c => ?_)⟩
    · have e : isName d = false := by
        cases d with
        | str z => exact absurd c (by simp only [isTy, tyN]; decide)
        | _ => rfl
      rw [e] at k
      exact iteT k
    · obtain ⟨z, rfl⟩ : ∃ z, d = .str z := by
        cases d with
        | str z => exact ⟨z, rfl⟩
        | _ => exact absurd (by simp only [isTy, tyN]; decide) c
      cases hd
      have hz := ho z rfl
      have hl : z.length = z.cps.size := rfl
      have ek : isName (.str z) = nameB z := rfl
      rw [ek] at k
      have z1 : z.length ≤ sizeLine := Nat.le_trans hz (by decide)
      have no : ∀ {A : Prop}, (nameB z = false → A) → ¬ (1 ≤ z.cps.size ∧ z.cps.size ≤ 16) → A := fun h n => h (by
        unfold nameB
        by_cases h1 : 1 ≤ z.cps.size
        · rw [decide_eq_false (fun h2 : z.cps.size ≤ 16 => n ⟨h1, h2⟩), Bool.false_and, Bool.and_false]
        · rw [decide_eq_false h1, Bool.false_and])
      have kf : nameB z = false → Q (.bl false) H := fun e => by
        rw [e] at k
        exact k
      refine ⟨_, rfl, z, rfl, z1, _, _, rfl, rfl, _, rfl, ite2 (fun c1 => ⟨_, _, rfl, rfl, _, rfl, ite2 (fun c2 => iteT (no kf fun h => ?_)) (fun c2 => ?_)⟩) (fun c1 => ⟨_, rfl, iteT (iteT (no kf fun h => c1 (decide_eq_true (show (1 : Int) ≤ (z.length : Int) by omega))))⟩)⟩
      · have c2 : decide ((z.length : Int) ≤ 16) = false := Bool.not_eq_true' _ ▸ c2
        have := of_decide_eq_false c2
        omega
      · have c1 : (1 : Int) ≤ (z.length : Int) := of_decide_eq_true c1
        have c2 : (z.length : Int) ≤ 16 := by
          apply Classical.byContradiction
          intro n
          apply c2
          show (!decide ((z.length : Int) ≤ 16)) = true
          rw [decide_eq_false n]
          rfl
        have h1 : 1 ≤ z.cps.size := by omega
        have h2 : z.cps.size ≤ 16 := by omega
        refine ⟨_, rfl, rfl, _, rfl, ite2 (fun c3 => kf ?_) (fun c3 => ?_)⟩
        · have c3 : V.str z = V.str "span" := of_decide_eq_true c3
          injection c3 with c3
          unfold nameB
          rw [decide_eq_true c3]
          simp
        · have c3 : z ≠ "span" := fun e => c3 (decide_eq_true (show V.str z = V.str "span" by rw [e]))
          refine ⟨_, rfl, z, rfl, for_str (x := z) (fun i σ H' => H' = H ∧ (∀ j c, j < i → z.cps[j]? = some c → c ∈ signs.cps.toList) ∧ ∃ u, σ = [some (.str z), u]) ⟨rfl, fun j c h => absurd h (Nat.not_lt_zero _), _, rfl⟩ ?_ ?_⟩
          · rintro i c σ H' hi ⟨rfl, ha, u, rfl⟩
            refine ⟨_, rfl, c, signs, rfl, rfl, _, rfl, ite2 (fun d => kf ?_) (fun d => ?_)⟩
            · have d : decide (c ∈ signs.cps.toList) = false := Bool.not_eq_true' _ ▸ d
              have hm : c ∈ z.cps.toList := Array.mem_toList_iff.mpr (Array.mem_of_getElem? hi)
              have : z.cps.toList.all (fun c => decide (c ∈ signs.cps.toList)) = false := List.all_eq_false.mpr ⟨c, hm, by rw [d]; decide⟩
              unfold nameB
              rw [this]
              simp
            · have d : c ∈ signs.cps.toList := by
                apply Classical.byContradiction
                intro n
                apply d
                show (!decide (c ∈ signs.cps.toList)) = true
                rw [decide_eq_false n]
                rfl
              refine ⟨rfl, fun j c' hj e => ?_, _, rfl⟩
              by_cases hji : j = i
              · subst hji
                rw [hi] at e
                cases e
                exact d
              · exact ha j c' (by omega) e
          · rintro σ H' ⟨rfl, ha, u, rfl⟩
            have hall : z.cps.toList.all (fun c => decide (c ∈ signs.cps.toList)) = true := by
              rw [List.all_eq_true]
              intro c hc
              obtain ⟨j, hj⟩ := List.getElem?_of_mem hc
              have hj' : z.cps[j]? = some c := by rw [← Array.getElem?_toList]; exact hj
              exact decide_eq_true (ha j c (by
                obtain ⟨q, _⟩ := List.getElem?_eq_some_iff.mp hj
                simpa using q) hj')
            have hlen : 0 < z.cps.toList.length := by
              rw [Array.length_toList]
              omega
            cases hL : z.cps.toList with
            | nil =>
              rw [hL] at hlen
              exact absurd hlen (by decide)
            | cons c cs =>
              refine ⟨_, rfl, z, 0, c, rfl, rfl, z1, ?_, c, letters, rfl, rfl, ?_⟩
              · rw [hL]
                exact atI_nat (j := 0) rfl
              · have e : nameB z = decide (c ∈ letters.cps.toList) := by
                  unfold nameB
                  rw [decide_eq_true h1, decide_eq_true h2, decide_eq_false c3, hall, hL]
                  simp
                rw [e] at k
                exact k
end
end K5

set_option Elab.async false
set_option linter.all false
set_option maxRecDepth 100000
set_option maxHeartbeats 4000000
namespace K5
open PySem PySem.Spec PyProof.Rows L2
open K1 (FnP top Nm)
/-! ### tuples of names, entries -/
def areNames (d : PyData) : Bool := match d with
  | .tuple ds => ds.all isName
  | _ => false
def okNs (d : PyData) : Prop := ∀ ds, d = .tuple ds → ds.length ≤ 1000 ∧ ∀ e ∈ ds, okZ e
def isNamesE (d : PyData) : Bool := isMark d "names" 2 && areNames (itemAt d 1)
section
variable {P : Program} {w : World} {K : PySem.W.Frag} {mg : Str → Option Value} {base : Heap}
theorem same_upd' {H0 H : Hp} {p : Addr} {o : HO} (n : H0 p = none) (s : Same H0 H) : Same H0 (upd H p o) := fun b x e => by
  rw [upd_ne (ne_of_none e n)]
  exact s b x e
theorem take_snoc {ds : List PyData} {i : Nat} {e : PyData} (h : ds[i]? = some e) (f : PyData → V) : (ds.take (i + 1)).map f = (ds.take i).map f ++ [f e] := by
  rw [List.take_succ, h, List.map_append]
  rfl
theorem scNames : FnScope ["value", "name"] ["value"] (defScope (top 14)) := ⟨rfl, rfl, rfl, by decide +kernel, rfl, by decide +kernel, by decide +kernel⟩
theorem ok_names {f fN : Addr} {fd dN : FuncData} (F : FnP K "are_names" (top 14) f fd) (N : Nm mg) (hall : mg "all" = none) (d_is_name : D1 P w K mg base "is_name" "value" 1 (spQ K okZ isName) fN dN) : FnOk P w K mg base CX0 2 f fd ["value"] (spQ K okNs areNames) := by
  refine F.ok scNames (fun vs H Q E h => ?_) (fun cdv A outer s H vs Q E hr h => ?_)
  · obtain ⟨v, d, rfl, _⟩ := h
    rfl
  · obtain ⟨v, d, rfl, hd, ho, k⟩ := h
    refine ⟨_, PSs.nox (pss_one (ps_ret (pe_and (pe_callB call_isi (by rfl) N.isi (by decide +kernel) (pa_cons (pv 0) (pa_cons (pe_bltn (v := .ty "tuple") (u := .type "tuple") (by rfl) N.ttup (by decide +kernel) rfl) pa_nil))) (pe_one (pe_callB (cr_all rfl) (by rfl) hall (by decide +kernel) (pa_cons (pe_lc (own := [("name", 1)]) (g := gName 1) (tt := tYes) rfl scNames.nd (pi_tup (pv 0)) (blkOk_by (own := [("name", 1)]) (N := ["value", "name"]) (sc := defScope (top 14)) (by decide +kernel)) (fun _ _ _ _ _ => (pg_name (i := 1) scNames.nd rfl (Or.inl rfl))) (fun _ _ _ _ _ => pts_nil) (fun _ _ _ _ _ => (pe_call d_is_name.G (hr.mono (by decide)) (by rfl) d_is_name.g d_is_name.kp d_is_name.b .nil pass0 (pa_cons (pv 1) pa_nil)))) pa_nil)))))), ?_⟩
    refine ⟨_, rfl, _, _, _, _, _, rfl, .ty _, dpTy hd, kitD d (by decide), _, rfl, ite2 (fun c => ?_) (fun c => ?_)⟩
    · obtain ⟨ds, rfl⟩ := isTy_tup c
      cases hd with
      | @tup p xs _ ht hx =>
        have hl := dpLen hx
        refine ⟨_, rfl, p, rfl, ⟨xs, ht⟩, fun D nD => ?_⟩
        have ln : ∀ i, ((ds.take i).map fun e => V.bl (isName e)).length < sizeLine := fun i => by
          rw [List.length_map, List.length_take]
          exact Nat.lt_of_le_of_lt (Nat.le_trans (Nat.min_le_right _ _) (ho ds rfl).1) (by decide)
        refine lc_tup (K := K) (a := p) (xs := xs) (fun i H' => Same H H' ∧ H' D = some (.lst ((ds.take i).map fun e => V.bl (isName e)))) ⟨same_upd nD, upd_same⟩ (fun i H' _ h => Same.seqT h.1 ht) ?_ ?_
        · rintro i x H2 hi ⟨s2, hD⟩
          have hi' := (List.getElem?_eq_some_iff.mp hi).1
          have he : ds[i]? = some (ds[i]'(by omega)) := List.getElem?_eq_getElem _
          obtain ⟨u, eu, hu⟩ := dpAt i hx he
          rw [hi] at eu
          cases eu
          refine ⟨rfl, iteT (B := Same H H2 ∧ H2 D = some (.lst ((ds.take (i + 1)).map fun e => V.bl (isName e)))) ?_⟩
          refine ⟨_, rfl, x, _, rfl, dpS s2 hu, (ho ds rfl).2 _ (List.getElem_mem _), fun H3 s3 => ⟨_, s3 _ _ hD, ln _, same_upd' nD (s2.trans s3), by rw [upd_same, take_snoc he]⟩⟩
        · rintro H2 ⟨s2, hD⟩
          rw [hl, List.take_length] at hD
          refine ⟨D, ds.map isName, rfl, SqL.of (by rw [List.map_map]; exact hD), bq (A := True) ?_ (k H2 s2)⟩
          show ds.all isName = (ds.map isName).all id
          rw [List.all_map]
          rfl
    · have e : areNames d = false := by
        cases d with
        | tuple ds => exact absurd (show isTy (.tuple ds) "tuple" = true by simp only [isTy, tyN]; decide) c
        | _ => rfl
      exact bq (A := True) e (k H (Same.refl H))
end
end K5

set_option Elab.async false
set_option linter.all false
set_option maxRecDepth 100000
set_option maxHeartbeats 4000000
namespace K5
open PySem PySem.Spec PyProof.Rows L2
open K1 (FnP top Nm)
/-! ### entries within a repeat, a fill, a fit -/
def areInner (d : PyData) : Bool := match d with
  | .tuple ds => ds.all (fun e => isSize e || isNamesE e) && ds.any isSize
  | _ => false
/-- numbers, names, lengths of no great size -/
def okE (d : PyData) : Prop := okB d ∧ okNs (itemAt d 1)
def okIn (d : PyData) : Prop := ∀ ds, d = .tuple ds → ds.length ≤ 1000 ∧ ∀ e ∈ ds, okE e
section
variable {P : Program} {w : World} {K : PySem.W.Frag} {mg : Str → Option Value} {base : Heap}
theorem scNE : FnScope ["value"] ["value"] (defScope (top 52)) := ⟨rfl, rfl, rfl, by decide +kernel, rfl, by decide +kernel, by decide +kernel⟩
theorem ok_namesE {f fM fN : Addr} {fd dM dN : FuncData} (F : FnP K "is_names_entry" (top 52) f fd) (d_is_marked : D3 P w K mg base "is_marked" "value" "word" "many" 2 (spMark K) fM dM) (d_are_names : D1 P w K mg base "are_names" "value" 2 (spQ K okNs areNames) fN dN) : FnOk P w K mg base CX0 3 f fd ["value"] (spQ K okE isNamesE) := by
  refine F.ok scNE (fun vs H Q E h => ?_) (fun cdv A outer s H vs Q E hr h => ?_)
  · obtain ⟨v, d, rfl, _⟩ := h
    rfl
  · obtain ⟨v, d, rfl, hd, ho, k⟩ := h
    refine ⟨_, PSs.nox (pss_one (ps_ret (pe_and (pe_call d_is_marked.G (hr.mono (by decide)) (by rfl) d_is_marked.g d_is_marked.kp d_is_marked.b .nil pass0 (pa_cons (pv 0) (pa_cons pe_str (pa_cons pe_int pa_nil)))) (pe_one (pe_call d_are_names.G (hr.mono (by decide)) (by rfl) d_are_names.g d_are_names.kp d_are_names.b .nil pass0 (pa_cons (pe_ix ix_tup (pv 0) pe_int (fun _ _ => rfl)) pa_nil)))))), ?_⟩
    refine ⟨_, rfl, v, d, "names", 2, rfl, hd, by decide, fun H1 s1 => ⟨_, rfl, ite2 (fun c => ?_) (fun c => ?_)⟩⟩
    · obtain ⟨p, xs, u, rfl, ht, eu, hu⟩ := dpItem (n := 2) (dpS s1 hd) c 1 (by decide)
      refine ⟨_, rfl, p, xs, 1, u, rfl, rfl, ht, atI_nat (j := 1) eu, u, _, rfl, hu, ho.2, fun H2 s2 => bq (A := True) ?_ (k H2 (s1.trans s2))⟩
      show (isMark d "names" 2 && areNames (itemAt d 1)) = _
      rw [c, Bool.true_and]
    · refine bq (A := True) ?_ (k H1 s1)
      show (isMark d "names" 2 && areNames (itemAt d 1)) = _
      rw [Bool.eq_false_iff.mpr c, Bool.false_and]
theorem scIn : FnScope ["value", "entry"] ["value"] (defScope (top 53)) := ⟨rfl, rfl, rfl, by decide +kernel, rfl, by decide +kernel, by decide +kernel⟩
theorem ok_inner {f fS fN : Addr} {fd dS dN : FuncData} (F : FnP K "are_inner_entries" (top 53) f fd) (N : Nm mg) (hany : mg "any" = none) (d_is_size : D1 P w K mg base "is_size" "value" 8 (spQ K okB isSize) fS dS) (d_is_names_entry : D1 P w K mg base "is_names_entry" "value" 3 (spQ K okE isNamesE) fN dN) : FnOk P w K mg base CX0 9 f fd ["value"] (spQ K okIn areInner) := by
  refine F.ok scIn (fun vs H Q E h => ?_) (fun cdv A outer s H vs Q E hr h => ?_)
  · obtain ⟨v, d, rfl, _⟩ := h
    rfl
  · obtain ⟨v, d, rfl, hd, ho, k⟩ := h
    refine ⟨_, PSs.nox (pss_cons (ps_if (pt_not (pt_val (pe_callB call_isi (by rfl) N.isi (by decide +kernel) (pa_cons (pv 0) (pa_cons (pe_bltn (v := .ty "tuple") (u := .type "tuple") (by rfl) N.ttup (by decide +kernel) rfl) pa_nil)))))
    (pss_one (ps_ret pe_bl))
    pss_nil)
  (pss_cons (ps_for PassesOwn.never rfl (pi_tup (pv 0))
    (pg_name (i := 1) scIn.nd rfl (Or.inl rfl))
    (pss_one (ps_if (PW.pt (pw_and (pt_not (pt_val (pe_call d_is_size.G (hr.mono (by decide)) (by rfl) d_is_size.g d_is_size.kp d_is_size.b .nil pass0 (pa_cons (pv 1) pa_nil)))) (pw_and1 (pt_not (pt_val (pe_call d_is_names_entry.G (hr.mono (by decide)) (by rfl) d_is_names_entry.g d_is_names_entry.kp d_is_names_entry.b .nil pass0 (pa_cons (pv 1) pa_nil)))))))
    (pss_one (ps_ret pe_bl))
    pss_nil)))
  (pss_one (ps_ret (pe_callB (cr_any rfl) (by rfl) hany (by decide +kernel) (pa_cons (pe_lc (own := [("entry", 1)]) (g := gName 1) (tt := tYes) rfl scIn.nd (pi_tup (pv 0)) (blkOk_by (own := [("entry", 1)]) (N := ["value", "entry"]) (sc := defScope (top 53)) (by decide +kernel)) (fun _ _ _ _ _ => (pg_name (i := 1) scIn.nd rfl (Or.inl rfl))) (fun _ _ _ _ _ => pts_nil) (fun _ _ _ _ _ => (pe_call d_is_size.G (hr.mono (by decide)) (by rfl) d_is_size.g d_is_size.kp d_is_size.b .nil pass0 (pa_cons (pv 1) pa_nil)))) pa_nil)))))), ?_⟩
    refine ⟨_, rfl, _, _, _, _, _, rfl, .ty _, dpTy hd, kitD d (by decide), _, rfl, ite2 (fun c => ?_) (fun c => ?_)⟩
    · have c : isTy d "tuple" = false := Bool.not_eq_true' _ ▸ c
      have e : areInner d = false := by
        cases d with
        | tuple ds => exact absurd c (by simp only [isTy, tyN]; decide)
        | _ => rfl
      exact bq (A := True) e (k H (Same.refl H))
    · have c : isTy d "tuple" = true := by
        cases h : isTy d "tuple" with
        | true => rfl
        | false =>
          rw [h] at c
          exact absurd rfl c
      obtain ⟨ds, rfl⟩ := isTy_tup c
      cases hd with
      | @tup p xs _ ht hx =>
        have hl := dpLen hx
        have at_ : ∀ i x, xs[i]? = some x → ∃ e, ds[i]? = some e ∧ Dp K H x e ∧ e ∈ ds := fun i x hi => by
          have hi' := (List.getElem?_eq_some_iff.mp hi).1
          have he : ds[i]? = some (ds[i]'(by omega)) := List.getElem?_eq_getElem _
          obtain ⟨u, eu, hu⟩ := dpAt i hx he
          rw [hi] at eu
          cases eu
          exact ⟨_, he, hu, List.getElem_mem _⟩
        have ed : areInner (.tuple ds) = (ds.all (fun e => isSize e || isNamesE e) && ds.any isSize) := rfl
        refine ⟨_, rfl, p, rfl, ⟨xs, ht⟩, for_tup (K := K) (a := p) (xs := xs) (fun i σ H' => Same H H' ∧ (∀ j e, j < i → ds[j]? = some e → (isSize e || isNamesE e) = true) ∧ ∃ u, σ = [some (.ref p), u]) ⟨Same.refl H, fun j e h => absurd h (Nat.not_lt_zero _), _, rfl⟩ (fun i σ H' _ h => Same.seqT h.1 ht) ?_ ?_⟩
        · rintro i x σ H2 hi ⟨s2, ha, u, rfl⟩
          obtain ⟨e, he, hu, hm⟩ := at_ i x hi
          have oe := (ho ds rfl).2 e hm
          have next : ∀ H', Same H H' → (isSize e || isNamesE e) = true → Same H H' ∧ (∀ j e, j < i + 1 → ds[j]? = some e → (isSize e || isNamesE e) = true) ∧ ∃ u', [some (V.ref p), some x] = [some (.ref p), u'] := fun H' s' h => ⟨s', fun j e' hj e'' => by
            by_cases hji : j = i
            · subst hji
              rw [he] at e''
              cases e''
              exact h
            · exact ha j e' (by omega) e'', _, rfl⟩
          refine ⟨_, rfl, x, e, rfl, dpS s2 hu, oe.1, fun H3 s3 => ⟨_, rfl, ite2 (fun c2 => ?_) (fun c2 => ?_)⟩⟩
          · have c2 : isSize e = false := Bool.not_eq_true' _ ▸ c2
            refine ⟨_, rfl, x, e, rfl, dpS (s2.trans s3) hu, oe, fun H4 s4 => ⟨_, rfl, ite2 (fun c3 => ?_) (fun c3 => ?_)⟩⟩
            · have c3 : isNamesE e = false := Bool.not_eq_true' _ ▸ c3
              refine bq (A := True) ?_ (k H4 ((s2.trans s3).trans s4))
              rw [ed, List.all_eq_false.mpr ⟨e, hm, by rw [c2, c3]; decide⟩, Bool.false_and]
            · refine next _ ((s2.trans s3).trans s4) ?_
              cases h : isNamesE e with
              | true => rw [Bool.or_true]
              | false =>
                rw [h] at c3
                exact absurd rfl c3
          · refine iteF (next _ (s2.trans s3) ?_)
            cases h : isSize e with
            | true => rw [Bool.true_or]
            | false =>
              rw [h] at c2
              exact absurd rfl c2
        · rintro σ H2 ⟨s2, ha, u, rfl⟩
          have hall : ds.all (fun e => isSize e || isNamesE e) = true := by
            rw [List.all_eq_true]
            intro e he
            obtain ⟨j, hj⟩ := List.getElem?_of_mem he
            exact ha j e (by
              have := (List.getElem?_eq_some_iff.mp hj).1
              omega) hj
          refine ⟨_, rfl, p, rfl, ⟨xs, Same.seqT s2 ht⟩, fun D nD => ?_⟩
          have ln : ∀ i, ((ds.take i).map fun e => V.bl (isSize e)).length < sizeLine := fun i => by
            rw [List.length_map, List.length_take]
            exact Nat.lt_of_le_of_lt (Nat.le_trans (Nat.min_le_right _ _) (ho ds rfl).1) (by decide)
          refine lc_tup (K := K) (a := p) (xs := xs) (fun i H' => Same H2 H' ∧ H' D = some (.lst ((ds.take i).map fun e => V.bl (isSize e)))) ⟨same_upd nD, upd_same⟩ (fun i H' _ h => Same.seqT (s2.trans h.1) ht) ?_ ?_
          · rintro i x H3 hi ⟨s3, hD⟩
            obtain ⟨e, he, hu, hm⟩ := at_ i x hi
            refine ⟨rfl, iteT (B := Same H2 H3 ∧ H3 D = some (.lst ((ds.take (i + 1)).map fun e => V.bl (isSize e)))) ?_⟩
            exact ⟨_, rfl, x, e, rfl, dpS (s2.trans s3) hu, ((ho ds rfl).2 e hm).1, fun H4 s4 => ⟨_, s4 _ _ hD, ln _, same_upd' nD (s3.trans s4), by rw [upd_same, take_snoc he]⟩⟩
          · rintro H3 ⟨s3, hD⟩
            rw [hl, List.take_length] at hD
            refine ⟨D, ds.map isSize, rfl, SqL.of (by rw [List.map_map]; exact hD), bq (A := True) ?_ (k H3 (s2.trans s3))⟩
            rw [ed, hall, Bool.true_and, List.any_map]
            rfl
end
end K5

set_option Elab.async false
set_option linter.all false
set_option maxRecDepth 100000
set_option maxHeartbeats 4000000
namespace K5
open PySem PySem.Spec PyProof.Rows L2
open K1 (FnP top Nm)
/-! ### repeats, fills and fits, entries -/
def isRepeat (d : PyData) : Bool := isMark d "repeat" 3 && (isInt (itemAt d 1) && ((decide (1 ≤ topOf (itemAt d 1)) && decide (topOf (itemAt d 1) ≤ 20)) && areInner (itemAt d 2)))
def isFill (d : PyData) : Bool := (isMark d "fill" 2 || isMark d "fit" 2) && areInner (itemAt d 1)
def isEntry (d : PyData) : Bool := isSize d || (isNamesE d || (isRepeat d || isFill d))
def okR (d : PyData) : Prop := okE d ∧ okIn (itemAt d 1) ∧ okIn (itemAt d 2)
theorem fB {b : Bool} (c : ¬ (!b) = true) : b = true := by
  cases b with
  | true => rfl
  | false => exact absurd rfl c
theorem tB {b : Bool} (c : (!b) = true) : b = false := by
  cases b with
  | false => rfl
  | true => exact absurd c Bool.false_ne_true
section
variable {P : Program} {w : World} {K : PySem.W.Frag} {mg : Str → Option Value} {base : Heap}
theorem scRep : FnScope ["value"] ["value"] (defScope (top 54)) := ⟨rfl, rfl, rfl, by decide +kernel, rfl, by decide +kernel, by decide +kernel⟩
theorem ok_repeat {f fM fI fA : Addr} {fd dM dI dA : FuncData} {tk : Tok} (F : FnP K "is_repeat" (top 54) f fd) (gM : mg "MOST_REPEATS" = some (.int 20 tk)) (d_is_marked : D3 P w K mg base "is_marked" "value" "word" "many" 2 (spMark K) fM dM) (d_is_integer : D1 P w K mg base "is_integer" "value" 1 (spQ K any isInt) fI dI) (d_are_inner_entries : D1 P w K mg base "are_inner_entries" "value" 9 (spQ K okIn areInner) fA dA) :
    FnOk P w K mg base CX0 10 f fd ["value"] (spQ K okR isRepeat) := by
  refine F.ok scRep (fun vs H Q E h => ?_) (fun cdv A outer s H vs Q E hr h => ?_)
  · obtain ⟨v, d, rfl, _⟩ := h
    rfl
  · obtain ⟨v, d, rfl, hd, ho, k⟩ := h
    refine ⟨_, PSs.nox (pss_cons (ps_if (PW.pt (pw_or (pt_not (pt_val (pe_call d_is_marked.G (hr.mono (by decide)) (by rfl) d_is_marked.g d_is_marked.kp d_is_marked.b .nil pass0 (pa_cons (pv 0) (pa_cons pe_str (pa_cons pe_int pa_nil)))))) (pw_or1 (pt_not (pt_val (pe_call d_is_integer.G (hr.mono (by decide)) (by rfl) d_is_integer.g d_is_integer.kp d_is_integer.b .nil pass0 (pa_cons (pe_ix ix_tup (pv 0) pe_int (fun _ _ => rfl)) pa_nil)))))))
    (pss_one (ps_ret pe_bl))
    pss_nil)
  (pss_one (ps_ret (pe_and (pe_chain op_le op_le pe_int (pe_ix ix_tup (pv 0) pe_int (fun _ _ => rfl)) (pe_glob (by rfl) gM (v := .int 20) ⟨_, rfl⟩)) (pe_one (pe_call d_are_inner_entries.G (hr.mono (by decide)) (by rfl) d_are_inner_entries.g d_are_inner_entries.kp d_are_inner_entries.b .nil pass0 (pa_cons (pe_ix ix_tup (pv 0) pe_int (fun _ _ => rfl)) pa_nil))))))), ?_⟩
    have ed : isRepeat d = (isMark d "repeat" 3 && (isInt (itemAt d 1) && ((decide (1 ≤ topOf (itemAt d 1)) && decide (topOf (itemAt d 1) ≤ 20)) && areInner (itemAt d 2)))) := rfl
    refine ⟨_, rfl, v, d, "repeat", 3, rfl, hd, by decide, fun H1 s1 => ⟨_, rfl, ite2 (fun c => ?_) (fun c => ?_)⟩⟩
    · exact iteT (bq (A := True) (by rw [ed, tB c, Bool.false_and]) (k H1 s1))
    · have c := fB c
      obtain ⟨p, xs, u, rfl, ht, eu, hu⟩ := dpItem (n := 3) (dpS s1 hd) c 1 (by decide)
      obtain ⟨p', xs', u2, e2, ht', eu2, hu2⟩ := dpItem (n := 3) (dpS s1 hd) c 2 (by decide)
      cases e2
      refine ⟨_, rfl, p, xs, 1, u, rfl, rfl, ht, atI_nat (j := 1) eu, u, _, rfl, hu, trivial, fun H2 s2 => ⟨_, rfl, ite2 (fun c2 => ?_) (fun c2 => ?_)⟩⟩
      · exact bq (A := True) (by rw [ed, c, tB c2, Bool.false_and, Bool.and_false]) (k H2 (s1.trans s2))
      · have c2 := fB c2
        obtain ⟨n, en⟩ := isInt_of c2
        rw [en] at hu
        cases hu
        have et : topOf (itemAt d 1) = n := by rw [en]; rfl
        have s12 := s1.trans s2
        refine ⟨_, rfl, p, xs, 1, _, rfl, rfl, Same.seqT s2 ht, atI_nat (j := 1) eu, _, _, rfl, rfl, _, rfl, ite2 (fun c3 => ⟨_, _, rfl, rfl, _, rfl, ite2 (fun c4 => ?_) (fun c4 => ?_)⟩) (fun c3 => ?_)⟩
        · refine ⟨_, rfl, p, xs', 2, u2, rfl, rfl, Same.seqT s2 ht', atI_nat (j := 2) eu2, u2, _, rfl, dpS s2 hu2, ho.2.2, fun H3 s3 => bq (A := True) ?_ (k H3 (s12.trans s3))⟩
          have c3 : 1 ≤ n := of_decide_eq_true c3
          have c4 : n ≤ 20 := of_decide_eq_true c4
          rw [ed, c, c2, et, decide_eq_true c3, decide_eq_true c4]
          rfl
        · refine bq (A := True) ?_ (k H2 s12)
          rw [ed, c, c2, et, decide_eq_false (fun z => c4 (decide_eq_true z)), Bool.and_false, Bool.false_and]
          rfl
        · refine ⟨_, rfl, iteF (bq (A := True) ?_ (k H2 s12))⟩
          rw [ed, c, c2, et, decide_eq_false (fun z => c3 (decide_eq_true z)), Bool.false_and, Bool.false_and]
          rfl
theorem scFill : FnScope ["value"] ["value"] (defScope (top 55)) := ⟨rfl, rfl, rfl, by decide +kernel, rfl, by decide +kernel, by decide +kernel⟩
theorem ok_filler {f fM fA : Addr} {fd dM dA : FuncData} (F : FnP K "is_filler" (top 55) f fd) (d_is_marked : D3 P w K mg base "is_marked" "value" "word" "many" 2 (spMark K) fM dM) (d_are_inner_entries : D1 P w K mg base "are_inner_entries" "value" 9 (spQ K okIn areInner) fA dA) :
    FnOk P w K mg base CX0 10 f fd ["value"] (spQ K okR isFill) := by
  refine F.ok scFill (fun vs H Q E h => ?_) (fun cdv A outer s H vs Q E hr h => ?_)
  · obtain ⟨v, d, rfl, _⟩ := h
    rfl
  · obtain ⟨v, d, rfl, hd, ho, k⟩ := h
    refine ⟨_, PSs.nox (pss_one (ps_ret (pe_and (pe_or (pe_call d_is_marked.G (hr.mono (by decide)) (by rfl) d_is_marked.g d_is_marked.kp d_is_marked.b .nil pass0 (pa_cons (pv 0) (pa_cons pe_str (pa_cons pe_int pa_nil)))) (pe_one (pe_call d_is_marked.G (hr.mono (by decide)) (by rfl) d_is_marked.g d_is_marked.kp d_is_marked.b .nil pass0 (pa_cons (pv 0) (pa_cons pe_str (pa_cons pe_int pa_nil)))))) (pe_one (pe_call d_are_inner_entries.G (hr.mono (by decide)) (by rfl) d_are_inner_entries.g d_are_inner_entries.kp d_are_inner_entries.b .nil pass0 (pa_cons (pe_ix ix_tup (pv 0) pe_int (fun _ _ => rfl)) pa_nil)))))), ?_⟩
    have ed : isFill d = ((isMark d "fill" 2 || isMark d "fit" 2) && areInner (itemAt d 1)) := rfl
    have go : ∀ H1, Same H H1 → (∃ z : Str, isMark d z 2 = true) → (isMark d "fill" 2 || isMark d "fit" 2) = true → ∃ p xs u, v = .ref p ∧ SqT K H1 p xs ∧ xs[1]? = some u ∧ Dp K H1 u (itemAt d 1) := fun H1 s1 ⟨z, hz⟩ _ => dpItem (n := 2) (dpS s1 hd) hz 1 (by decide)
    refine ⟨_, rfl, v, d, "fill", 2, rfl, hd, by decide, fun H1 s1 => ⟨_, rfl, ite2 (fun c => ?_) (fun c => ?_)⟩⟩
    · have e : (isMark d "fill" 2 || isMark d "fit" 2) = true := by rw [c, Bool.true_or]
      obtain ⟨p, xs, u, rfl, ht, eu, hu⟩ := go H1 s1 ⟨_, c⟩ e
      exact ⟨_, rfl, iteT ⟨_, rfl, p, xs, 1, u, rfl, rfl, ht, atI_nat (j := 1) eu, u, _, rfl, hu, ho.2.1, fun H2 s2 => bq (A := True) (by rw [ed, e, Bool.true_and]) (k H2 (s1.trans s2))⟩⟩
    · refine ⟨_, rfl, v, d, "fit", 2, rfl, dpS s1 hd, by decide, fun H2 s2 => ⟨_, rfl, ite2 (fun c2 => ?_) (fun c2 => ?_)⟩⟩
      · have e : (isMark d "fill" 2 || isMark d "fit" 2) = true := by rw [c2, Bool.or_true]
        obtain ⟨p, xs, u, rfl, ht, eu, hu⟩ := go H2 (s1.trans s2) ⟨_, c2⟩ e
        exact ⟨_, rfl, p, xs, 1, u, rfl, rfl, ht, atI_nat (j := 1) eu, u, _, rfl, hu, ho.2.1, fun H3 s3 => bq (A := True) (by rw [ed, e, Bool.true_and]) (k H3 ((s1.trans s2).trans s3))⟩
      · refine bq (A := True) ?_ (k H2 (s1.trans s2))
        rw [ed, Bool.eq_false_iff.mpr c, Bool.eq_false_iff.mpr c2]
        rfl
theorem scEnt : FnScope ["value"] ["value"] (defScope (top 56)) := ⟨rfl, rfl, rfl, by decide +kernel, rfl, by decide +kernel, by decide +kernel⟩
theorem ok_entry {f f1 f2 f3 f4 : Addr} {fd d1 d2 d3 d4 : FuncData} (F : FnP K "is_entry" (top 56) f fd) (d_is_size : D1 P w K mg base "is_size" "value" 8 (spQ K okB isSize) f1 d1) (d_is_names_entry : D1 P w K mg base "is_names_entry" "value" 3 (spQ K okE isNamesE) f2 d2) (d_is_repeat : D1 P w K mg base "is_repeat" "value" 10 (spQ K okR isRepeat) f3 d3) (d_is_filler : D1 P w K mg base "is_filler" "value" 10 (spQ K okR isFill) f4 d4) :
    FnOk P w K mg base CX0 11 f fd ["value"] (spQ K okR isEntry) := by
  refine F.ok scEnt (fun vs H Q E h => ?_) (fun cdv A outer s H vs Q E hr h => ?_)
  · obtain ⟨v, d, rfl, _⟩ := h
    rfl
  · obtain ⟨v, d, rfl, hd, ho, k⟩ := h
    refine ⟨_, PSs.nox (pss_one (ps_ret (pe_or (pe_call d_is_size.G (hr.mono (by decide)) (by rfl) d_is_size.g d_is_size.kp d_is_size.b .nil pass0 (pa_cons (pv 0) pa_nil)) (pe_or (pe_call d_is_names_entry.G (hr.mono (by decide)) (by rfl) d_is_names_entry.g d_is_names_entry.kp d_is_names_entry.b .nil pass0 (pa_cons (pv 0) pa_nil)) (pe_or (pe_call d_is_repeat.G (hr.mono (by decide)) (by rfl) d_is_repeat.g d_is_repeat.kp d_is_repeat.b .nil pass0 (pa_cons (pv 0) pa_nil)) (pe_one (pe_call d_is_filler.G (hr.mono (by decide)) (by rfl) d_is_filler.g d_is_filler.kp d_is_filler.b .nil pass0 (pa_cons (pv 0) pa_nil)))))))), ?_⟩
    have ed : isEntry d = (isSize d || (isNamesE d || (isRepeat d || isFill d))) := rfl
    refine ⟨_, rfl, v, d, rfl, hd, ho.1.1, fun H1 s1 => ⟨_, rfl, ite2 (fun c => bq (A := True) (by rw [ed, c, Bool.true_or]) (k H1 s1)) (fun c => ?_)⟩⟩
    refine ⟨_, rfl, v, d, rfl, dpS s1 hd, ho.1, fun H2 s2 => ⟨_, rfl, ite2 (fun c2 => bq (A := True) (by rw [ed, c2, Bool.true_or, Bool.or_true]) (k H2 (s1.trans s2))) (fun c2 => ?_)⟩⟩
    have s12 := s1.trans s2
    refine ⟨_, rfl, v, d, rfl, dpS s12 hd, ho, fun H3 s3 => ⟨_, rfl, ite2 (fun c3 => bq (A := True) (by rw [ed, c3, Bool.true_or, Bool.or_true, Bool.or_true]) (k H3 (s12.trans s3))) (fun c3 => ?_)⟩⟩
    have s13 := s12.trans s3
    exact ⟨_, rfl, v, d, rfl, dpS s13 hd, ho, fun H4 s4 => bq (A := True) (by rw [ed, Bool.eq_false_iff.mpr c, Bool.eq_false_iff.mpr c2, Bool.eq_false_iff.mpr c3]; rfl) (k H4 (s13.trans s4))⟩
end
end K5

set_option Elab.async false
set_option linter.all false
set_option maxRecDepth 100000
set_option maxHeartbeats 4000000
namespace K5
open PySem PySem.Spec PyProof.Rows L2
open K1 (FnP top Nm)
/-! ### lows and highs -/
def lowOf (d : PyData) : PyData := if isBetw d = true then itemAt d 1 else if (isShare d || isUpto d) = true then .str "auto" else d
def highOf (d : PyData) : PyData := if isBetw d = true then itemAt d 2 else if isUpto d = true then .str "most" else d
def mayFill (d : PyData) : Bool := isFixed (lowOf d) || isFixed (highOf d)
section
variable {P : Program} {w : World} {K : PySem.W.Frag} {mg : Str → Option Value} {base : Heap}
/-- a value of a value -/
def spV (K : PySem.W.Frag) (ok : PyData → Prop) (f : PyData → PyData) : Sp := fun vs H Q _ => ∃ (v : V) (d : PyData), vs = [v] ∧ Dp K H v d ∧ ok d ∧ ∀ H' u, Same H H' → Dp K H' u (f d) → Q u H'
theorem betw_mark {d : PyData} (h : isBetw d = true) : isMark d "between" ((3 : Nat) : Int) = true := (Bool.and_eq_true_iff.mp h).1
theorem scLow : FnScope ["size"] ["size"] (defScope (top 50)) := ⟨rfl, rfl, rfl, by decide +kernel, rfl, by decide +kernel, by decide +kernel⟩
theorem ok_low {f f1 f2 f3 : Addr} {fd d1 d2 d3 : FuncData} (F : FnP K "low_of" (top 50) f fd) (d_is_between : D1 P w K mg base "is_between" "value" 7 (spQ K okB isBetw) f1 d1) (d_is_share : D1 P w K mg base "is_share" "value" 4 (spQ K okS isShare) f2 d2) (d_is_upto : D1 P w K mg base "is_upto" "value" 6 (spQ K okB isUpto) f3 d3) : FnOk P w K mg base CX0 8 f fd ["size"] (spV K okB lowOf) := by
  refine F.ok scLow (fun vs H Q E h => ?_) (fun cdv A outer s H vs Q E hr h => ?_)
  · obtain ⟨v, d, rfl, _⟩ := h
    rfl
  · obtain ⟨v, d, rfl, hd, ho, k⟩ := h
    refine ⟨_, PSs.nox (pss_cons (ps_if (pt_val (pe_call d_is_between.G (hr.mono (by decide)) (by rfl) d_is_between.g d_is_between.kp d_is_between.b .nil pass0 (pa_cons (pv 0) pa_nil)))
    (pss_one (ps_ret (pe_ix ix_tup (pv 0) pe_int (fun _ _ => rfl))))
    pss_nil)
  (pss_cons (ps_if (PW.pt (pw_or (pt_val (pe_call d_is_share.G (hr.mono (by decide)) (by rfl) d_is_share.g d_is_share.kp d_is_share.b .nil pass0 (pa_cons (pv 0) pa_nil))) (pw_or1 (pt_val (pe_call d_is_upto.G (hr.mono (by decide)) (by rfl) d_is_upto.g d_is_upto.kp d_is_upto.b .nil pass0 (pa_cons (pv 0) pa_nil))))))
    (pss_one (ps_ret pe_str))
    pss_nil)
  (pss_one (ps_ret (pv 0))))), ?_⟩
    refine ⟨_, rfl, v, d, rfl, hd, ho, fun H1 s1 => ⟨_, rfl, ite2 (fun c => ?_) (fun c => ?_)⟩⟩
    · obtain ⟨p, xs, u, rfl, ht, eu, hu⟩ := dpItem (n := 3) (dpS s1 hd) (betw_mark c) 1 (by decide)
      refine ⟨_, rfl, p, xs, 1, u, rfl, rfl, ht, atI_nat (j := 1) eu, k H1 u s1 ?_⟩
      unfold lowOf
      rw [if_pos c]
      exact hu
    · have fin : ∀ H', Same H H' → (isShare d || isUpto d) = true → Q (.str "auto") H' := fun H' s' e => k H' _ s' (by
        unfold lowOf
        rw [if_neg c, if_pos e]
        exact .str _)
      refine ⟨_, rfl, v, d, rfl, dpS s1 hd, ho.1, fun H2 s2 => ⟨_, rfl, ite2 (fun c2 => iteT (fin H2 (s1.trans s2) (by rw [c2, Bool.true_or]))) (fun c2 => ?_)⟩⟩
      have s12 := s1.trans s2
      refine ⟨_, rfl, v, d, rfl, dpS s12 hd, ho, fun H3 s3 => ⟨_, rfl, ite2 (fun c3 => fin H3 (s12.trans s3) (by rw [c3, Bool.or_true])) (fun c3 => ?_)⟩⟩
      refine ⟨_, rfl, k H3 v (s12.trans s3) ?_⟩
      unfold lowOf
      rw [if_neg c, if_neg (by rw [Bool.eq_false_iff.mpr c2, Bool.eq_false_iff.mpr c3]; decide)]
      exact dpS (s12.trans s3) hd
theorem scHigh : FnScope ["size"] ["size"] (defScope (top 51)) := ⟨rfl, rfl, rfl, by decide +kernel, rfl, by decide +kernel, by decide +kernel⟩
theorem ok_high {f f1 f3 : Addr} {fd d1 d3 : FuncData} (F : FnP K "high_of" (top 51) f fd) (d_is_between : D1 P w K mg base "is_between" "value" 7 (spQ K okB isBetw) f1 d1) (d_is_upto : D1 P w K mg base "is_upto" "value" 6 (spQ K okB isUpto) f3 d3) : FnOk P w K mg base CX0 8 f fd ["size"] (spV K okB highOf) := by
  refine F.ok scHigh (fun vs H Q E h => ?_) (fun cdv A outer s H vs Q E hr h => ?_)
  · obtain ⟨v, d, rfl, _⟩ := h
    rfl
  · obtain ⟨v, d, rfl, hd, ho, k⟩ := h
    refine ⟨_, PSs.nox (pss_cons (ps_if (pt_val (pe_call d_is_between.G (hr.mono (by decide)) (by rfl) d_is_between.g d_is_between.kp d_is_between.b .nil pass0 (pa_cons (pv 0) pa_nil)))
    (pss_one (ps_ret (pe_ix ix_tup (pv 0) pe_int (fun _ _ => rfl))))
    pss_nil)
  (pss_cons (ps_if (pt_val (pe_call d_is_upto.G (hr.mono (by decide)) (by rfl) d_is_upto.g d_is_upto.kp d_is_upto.b .nil pass0 (pa_cons (pv 0) pa_nil)))
    (pss_one (ps_ret pe_str))
    pss_nil)
  (pss_one (ps_ret (pv 0))))), ?_⟩
    refine ⟨_, rfl, v, d, rfl, hd, ho, fun H1 s1 => ⟨_, rfl, ite2 (fun c => ?_) (fun c => ?_)⟩⟩
    · obtain ⟨p, xs, u, rfl, ht, eu, hu⟩ := dpItem (n := 3) (dpS s1 hd) (betw_mark c) 2 (by decide)
      refine ⟨_, rfl, p, xs, 2, u, rfl, rfl, ht, atI_nat (j := 2) eu, k H1 u s1 ?_⟩
      unfold highOf
      rw [if_pos c]
      exact hu
    · refine ⟨_, rfl, v, d, rfl, dpS s1 hd, ho, fun H3 s3 => ⟨_, rfl, ite2 (fun c3 => k H3 _ (s1.trans s3) ?_) (fun c3 => ⟨_, rfl, k H3 v (s1.trans s3) ?_⟩)⟩⟩
      · unfold highOf
        rw [if_neg c, if_pos c3]
        exact .str _
      · unfold highOf
        rw [if_neg c, if_neg c3]
        exact dpS (s1.trans s3) hd
theorem okS_str (z : Str) : okS (.str z) := ⟨fun h => (nomatch h), fun i h => (nomatch h)⟩
theorem okS_low {d : PyData} (h : okB d) : okS (lowOf d) := by
  unfold lowOf
  split
  · exact h.2 1
  · split
    · exact okS_str _
    · exact h.1
theorem okS_high {d : PyData} (h : okB d) : okS (highOf d) := by
  unfold highOf
  split
  · exact h.2 2
  · split
    · exact okS_str _
    · exact h.1
theorem scMay : FnScope ["size"] ["size"] (defScope (top 58)) := ⟨rfl, rfl, rfl, by decide +kernel, rfl, by decide +kernel, by decide +kernel⟩
theorem ok_may {f f1 f2 f3 : Addr} {fd d1 d2 d3 : FuncData} (F : FnP K "may_be_filled" (top 58) f fd) (d_is_fixed : D1 P w K mg base "is_fixed" "value" 5 (spQ K okS isFixed) f1 d1) (d_low_of : D1 P w K mg base "low_of" "size" 8 (spV K okB lowOf) f2 d2) (d_high_of : D1 P w K mg base "high_of" "size" 8 (spV K okB highOf) f3 d3) : FnOk P w K mg base CX0 9 f fd ["size"] (spQ K okB mayFill) := by
  refine F.ok scMay (fun vs H Q E h => ?_) (fun cdv A outer s H vs Q E hr h => ?_)
  · obtain ⟨v, d, rfl, _⟩ := h
    rfl
  · obtain ⟨v, d, rfl, hd, ho, k⟩ := h
    refine ⟨_, PSs.nox (pss_one (ps_ret (pe_or (pe_call d_is_fixed.G (hr.mono (by decide)) (by rfl) d_is_fixed.g d_is_fixed.kp d_is_fixed.b .nil pass0 (pa_cons (pe_call d_low_of.G (hr.mono (by decide)) (by rfl) d_low_of.g d_low_of.kp d_low_of.b .nil pass0 (pa_cons (pv 0) pa_nil)) pa_nil)) (pe_one (pe_call d_is_fixed.G (hr.mono (by decide)) (by rfl) d_is_fixed.g d_is_fixed.kp d_is_fixed.b .nil pass0 (pa_cons (pe_call d_high_of.G (hr.mono (by decide)) (by rfl) d_high_of.g d_high_of.kp d_high_of.b .nil pass0 (pa_cons (pv 0) pa_nil)) pa_nil)))))), ?_⟩
    have ed : mayFill d = (isFixed (lowOf d) || isFixed (highOf d)) := rfl
    refine ⟨_, rfl, v, d, rfl, hd, ho, fun H1 u s1 hu => ⟨u, _, rfl, hu, okS_low ho, fun H2 s2 => ⟨_, rfl, ite2 (fun c => bq (A := True) (by rw [ed, c, Bool.true_or]) (k H2 (s1.trans s2))) (fun c => ?_)⟩⟩⟩
    have s12 := s1.trans s2
    exact ⟨_, rfl, v, d, rfl, dpS s12 hd, ho, fun H3 u3 s3 hu3 => ⟨u3, _, rfl, hu3, okS_high ho, fun H4 s4 => bq (A := True) (by rw [ed, Bool.eq_false_iff.mpr c, Bool.false_or]) (k H4 ((s12.trans s3).trans s4))⟩⟩
end
end K5

set_option Elab.async false
set_option linter.all false
set_option maxRecDepth 100000
set_option maxHeartbeats 4000000
namespace K5
open PySem PySem.Spec PyProof.Rows L2
open K1 (FnP top Nm)
/-! ### inherited templates -/
def itemsOf : PyData → List PyData
  | .tuple ds => ds
  | _ => []
def isInh (d : PyData) : Bool := isMark d "inherited" 2 && (isTy (itemAt d 1) "tuple" && (decide ((itemsOf (itemAt d 1)).length ≤ 40) && (itemsOf (itemAt d 1)).all areNames))
def okInh (d : PyData) : Prop := ∀ ds, itemAt d 1 = .tuple ds → ds.length ≤ 1000 ∧ ∀ e ∈ ds, okNs e
section
variable {P : Program} {w : World} {K : PySem.W.Frag} {mg : Str → Option Value} {base : Heap}
theorem scInh : FnScope ["value", "names"] ["value"] (defScope (top 60)) := ⟨rfl, rfl, rfl, by decide +kernel, rfl, by decide +kernel, by decide +kernel⟩
theorem ok_inh {f fM fN : Addr} {fd dM dN : FuncData} {tk : Tok} (F : FnP K "is_inherited" (top 60) f fd) (N : Nm mg) (hall : mg "all" = none) (gM : mg "MOST_INHERITED_NAMES" = some (.int 40 tk)) (d_is_marked : D3 P w K mg base "is_marked" "value" "word" "many" 2 (spMark K) fM dM) (d_are_names : D1 P w K mg base "are_names" "value" 2 (spQ K okNs areNames) fN dN) :
    FnOk P w K mg base CX0 3 f fd ["value"] (spQ K okInh isInh) := by
  refine F.ok scInh (fun vs H Q E h => ?_) (fun cdv A outer s H vs Q E hr h => ?_)
  · obtain ⟨v, d, rfl, _⟩ := h
    rfl
  · obtain ⟨v, d, rfl, hd, ho, k⟩ := h
    refine ⟨_, PSs.nox (pss_cons (ps_if (PW.pt (pw_or (pt_not (pt_val (pe_call d_is_marked.G (hr.mono (by decide)) (by rfl) d_is_marked.g d_is_marked.kp d_is_marked.b .nil pass0 (pa_cons (pv 0) (pa_cons pe_str (pa_cons pe_int pa_nil)))))) (pw_or1 (pt_not (pt_val (pe_callB call_isi (by rfl) N.isi (by decide +kernel) (pa_cons (pe_ix ix_tup (pv 0) pe_int (fun _ _ => rfl)) (pa_cons (pe_bltn (v := .ty "tuple") (u := .type "tuple") (by rfl) N.ttup (by decide +kernel) rfl) pa_nil))))))))
    (pss_one (ps_ret pe_bl))
    pss_nil)
  (pss_one (ps_ret (pe_and (pe_cmpR op_le (pe_callB call_len_seq (by rfl) N.len PySem.boot_len (pa_cons (pe_ix ix_tup (pv 0) pe_int (fun _ _ => rfl)) pa_nil)) (pe_glob (by rfl) gM (v := .int 40) ⟨_, rfl⟩) (nomark _)) (pe_one (pe_callB (cr_all rfl) (by rfl) hall (by decide +kernel) (pa_cons (pe_lc (own := [("names", 1)]) (g := gName 1) (tt := tYes) rfl scInh.nd (pi_tup (pe_ix ix_tup (pv 0) pe_int (fun _ _ => rfl))) (blkOk_by (own := [("names", 1)]) (N := ["value", "names"]) (sc := defScope (top 60)) (by decide +kernel)) (fun _ _ _ _ _ => (pg_name (i := 1) scInh.nd rfl (Or.inl rfl))) (fun _ _ _ _ _ => pts_nil) (fun _ _ _ _ _ => (pe_call d_are_names.G (hr.mono (by decide)) (by rfl) d_are_names.g d_are_names.kp d_are_names.b .nil pass0 (pa_cons (pv 1) pa_nil)))) pa_nil))))))), ?_⟩
    have ed : isInh d = (isMark d "inherited" 2 && (isTy (itemAt d 1) "tuple" && (decide ((itemsOf (itemAt d 1)).length ≤ 40) && (itemsOf (itemAt d 1)).all areNames))) := rfl
    refine ⟨_, rfl, v, d, "inherited", 2, rfl, hd, by decide, fun H1 s1 => ⟨_, rfl, ite2 (fun c => ?_) (fun c => ?_)⟩⟩
    · exact iteT (bq (A := True) (by rw [ed, tB c, Bool.false_and]) (k H1 s1))
    · have c := fB c
      obtain ⟨p, xs, u, rfl, ht, eu, hu⟩ := dpItem (n := 2) (dpS s1 hd) c 1 (by decide)
      refine ⟨_, rfl, p, xs, 1, u, rfl, rfl, ht, atI_nat (j := 1) eu, _, _, _, _, _, rfl, .ty _, dpTy hu, kitD _ (by decide), _, rfl, ite2 (fun c2 => ?_) (fun c2 => ?_)⟩
      · exact bq (A := True) (by rw [ed, c, tB c2, Bool.false_and, Bool.and_false]) (k H1 s1)
      · have c2 := fB c2
        obtain ⟨ds, eds⟩ := isTy_tup c2
        have hoo := ho ds eds
        rw [eds] at hu
        have ei : itemsOf (itemAt d 1) = ds := by rw [eds]; rfl
        cases hu with
        | @tup q ys _ hq hy =>
          have hl := dpLen hy
          refine ⟨_, rfl, p, xs, 1, _, rfl, rfl, ht, atI_nat (j := 1) eu, q, _, rfl, .inr hq, _, _, rfl, rfl, _, rfl, ite2 (fun c3 => ?_) (fun c3 => ?_)⟩
          · have c3 : ((ys.length : Nat) : Int) ≤ 40 := of_decide_eq_true c3
            refine ⟨_, rfl, p, xs, 1, _, rfl, rfl, ht, atI_nat (j := 1) eu, q, rfl, ⟨ys, hq⟩, fun D nD => ?_⟩
            have ln : ∀ i, ((ds.take i).map fun e => V.bl (areNames e)).length < sizeLine := fun i => by
              rw [List.length_map, List.length_take]
              exact Nat.lt_of_le_of_lt (Nat.le_trans (Nat.min_le_right _ _) hoo.1) (by decide)
            refine lc_tup (K := K) (a := q) (xs := ys) (fun i H' => Same H1 H' ∧ H' D = some (.lst ((ds.take i).map fun e => V.bl (areNames e)))) ⟨same_upd nD, upd_same⟩ (fun i H' _ h => Same.seqT h.1 hq) ?_ ?_
            · rintro i x H2 hi ⟨s2, hD⟩
              have hi' := (List.getElem?_eq_some_iff.mp hi).1
              have he : ds[i]? = some (ds[i]'(by omega)) := List.getElem?_eq_getElem _
              obtain ⟨u, eu', hu⟩ := dpAt i hy he
              rw [hi] at eu'
              cases eu'
              refine ⟨rfl, iteT (B := Same H1 H2 ∧ H2 D = some (.lst ((ds.take (i + 1)).map fun e => V.bl (areNames e)))) ?_⟩
              exact ⟨_, rfl, x, _, rfl, dpS s2 hu, hoo.2 _ (List.getElem_mem _), fun H3 s3 => ⟨_, s3 _ _ hD, ln _, same_upd' nD (s2.trans s3), by rw [upd_same, take_snoc he]⟩⟩
            · rintro H2 ⟨s2, hD⟩
              rw [hl, List.take_length] at hD
              refine ⟨D, ds.map areNames, rfl, SqL.of (by rw [List.map_map]; exact hD), bq (A := True) ?_ (k H2 (s1.trans s2))⟩
              rw [ed, c, c2, ei, decide_eq_true (by omega : ds.length ≤ 40), List.all_map]
              rfl
          · refine bq (A := True) ?_ (k H1 s1)
            rw [ed, c, c2, ei, decide_eq_false (fun z : ds.length ≤ 40 => c3 (decide_eq_true (show ((ys.length : Nat) : Int) ≤ 40 by omega)))]
            rfl
end
end K5

set_option Elab.async false
set_option linter.all false
set_option maxRecDepth 100000
set_option maxHeartbeats 4000000
namespace K5
open PySem PySem.Spec PyProof.Rows L2
open K1 (FnP top Nm)
/-! ### the sizes in entries -/
theorem mark_uniq {d : PyData} {z z' : Str} {n n' : Int} (h : isMark d z n = true) (h' : isMark d z' n' = true) : z = z' := by
  cases d with
  | tuple ds =>
    have a := (Bool.and_eq_true_iff.mp (show (decide ((ds.length : Int) = n) && isWord (ds.headD .none) [z]) = true from h)).2
    have b := (Bool.and_eq_true_iff.mp (show (decide ((ds.length : Int) = n') && isWord (ds.headD .none) [z']) = true from h')).2
    cases hd : ds.headD .none with
    | str y =>
      rw [hd] at a b
      have a' : (z == y || false) = true := a
      have b' : (z' == y || false) = true := b
      rw [Bool.or_false] at a' b'
      rw [beq_iff_eq.mp a', beq_iff_eq.mp b']
    | _ =>
      rw [hd] at a
      exact absurd a Bool.false_ne_true
  | _ => exact absurd h Bool.false_ne_true
theorem mark_len {d : PyData} {z : Str} {n : Int} (h : isMark d z n = true) : isLen d = false := by
  cases hl : isLen d with
  | false => rfl
  | true =>
    have hn : isNum d = true := (Bool.and_eq_true_iff.mp hl).1
    rcases num_shape hn with ⟨i, rfl⟩ | ⟨t, b, rfl, _⟩
    · exact absurd h Bool.false_ne_true
    · have a := (Bool.and_eq_true_iff.mp (show (decide ((([PyData.int t, .int b].length : Nat) : Int) = n) && isWord (.int t) [z]) = true from h)).2
      exact absurd a Bool.false_ne_true
theorem mark_word {d : PyData} {z : Str} {n : Int} {ws : List Str} (h : isMark d z n = true) : isWord d ws = false := by
  cases d with
  | tuple ds => rfl
  | _ => exact absurd h Bool.false_ne_true
/-- what is marked otherwise is no size -/
theorem mark_size {d : PyData} {z : Str} {n : Int} (h : isMark d z n = true) (h1 : z ≠ "part") (h2 : z ≠ "share") (h3 : z ≠ "between") (h4 : z ≠ "upto") : isSize d = false := by
  have no : ∀ (z' : Str) (m : Int), z ≠ z' → isMark d z' m = false := fun z' m hz => by
    cases e : isMark d z' m with
    | false => rfl
    | true => exact absurd (mark_uniq h e) hz
  unfold isSize isPlain isFixed isPart isShare isBetw isUpto
  rw [mark_len h, mark_word h, no _ _ h1, no _ _ h2, no _ _ h3, no _ _ h4]
  rfl
theorem rep_mark {d : PyData} (h : isRepeat d = true) : isMark d "repeat" ((3 : Nat) : Int) = true := (Bool.and_eq_true_iff.mp h).1
theorem fill_mark {d : PyData} (h : isFill d = true) : ∃ z : Str, (z = "fill" ∨ z = "fit") ∧ isMark d z ((2 : Nat) : Int) = true := by
  have a := (Bool.and_eq_true_iff.mp h).1
  rcases Bool.or_eq_true_iff.mp a with a | a
  · exact ⟨_, .inl rfl, a⟩
  · exact ⟨_, .inr rfl, a⟩
/-- sizes and names repeat nothing -/
theorem flat_rep {e : PyData} (h : (isSize e || isNamesE e) = true) : isRepeat e = false := by
  cases hr : isRepeat e with
  | false => rfl
  | true =>
    have m := rep_mark hr
    rcases Bool.or_eq_true_iff.mp h with a | a
    · rw [mark_size m (by decide) (by decide) (by decide) (by decide)] at a
      cases a
    · have := mark_uniq m (Bool.and_eq_true_iff.mp a).1
      exact absurd this (by decide)
theorem flat_fill {e : PyData} (h : (isSize e || isNamesE e) = true) : isFill e = false := by
  cases hr : isFill e with
  | false => rfl
  | true =>
    obtain ⟨z, hz, m⟩ := fill_mark hr
    rcases Bool.or_eq_true_iff.mp h with a | a
    · rw [mark_size m (by rcases hz with rfl | rfl <;> decide) (by rcases hz with rfl | rfl <;> decide) (by rcases hz with rfl | rfl <;> decide) (by rcases hz with rfl | rfl <;> decide)] at a
      cases a
    · have := mark_uniq m (Bool.and_eq_true_iff.mp a).1
      exact absurd this (by rcases hz with rfl | rfl <;> decide)
theorem dpSnoc {K : PySem.W.Frag} {H : Hp} : ∀ {vs us : List V} {ds es : List PyData}, DpAll K H vs ds → DpAll K H us es → DpAll K H (vs ++ us) (ds ++ es)
  | _, _, _, _, .nil, h => h
  | _, _, _, _, .cons a b, h => .cons a (dpSnoc b h)
section
variable {P : Program} {w : World} {K : PySem.W.Frag} {mg : Str → Option Value} {base : Heap}
/-- sizes_in of what repeats nothing -/
def spSz0 (K : PySem.W.Frag) : Sp := fun vs H Q _ => ∃ (v : V) (ds : List PyData) (H0 : Hp), vs = [v] ∧ Same H0 H ∧ Dp K H0 v (.tuple ds) ∧ ds.length ≤ 100 ∧ (∀ e ∈ ds, okR e ∧ (isSize e || isNamesE e) = true) ∧
  ∀ H' p us, Same H H' → H p = none → H' p = some (.lst us) → DpAll K H0 us (ds.filter isSize) → Q (.ref p) H'
theorem scSz : FnScope ["entries", "sizes", "entry"] ["entries"] (defScope (top 57)) := ⟨rfl, rfl, rfl, by decide +kernel, rfl, by decide +kernel, by decide +kernel⟩
theorem filter_snoc {ds : List PyData} {i : Nat} {e : PyData} (h : ds[i]? = some e) : (ds.take (i + 1)).filter isSize = (ds.take i).filter isSize ++ (if isSize e = true then [e] else []) := by
  rw [List.take_succ, h, List.filter_append]
  congr 1
  show List.filter isSize [e] = _
  by_cases hs : isSize e = true
  · rw [if_pos hs, List.filter_cons_of_pos hs]
    rfl
  · rw [if_neg hs, List.filter_cons_of_neg hs]
    rfl
theorem ok_sz0 {f f1 f2 f3 : Addr} {fd d1 d2 d3 : FuncData} (F : FnP K "sizes_in" (top 57) f fd) (d_is_size : D1 P w K mg base "is_size" "value" 8 (spQ K okB isSize) f1 d1) (d_is_repeat : D1 P w K mg base "is_repeat" "value" 10 (spQ K okR isRepeat) f2 d2) (d_is_filler : D1 P w K mg base "is_filler" "value" 10 (spQ K okR isFill) f3 d3) :
    FnOk P w K mg base CX0 11 f fd ["entries"] (spSz0 K) := by
  refine F.ok scSz (fun vs H Q E h => ?_) (fun cdv A outer s H vs Q E hr h => ?_)
  · obtain ⟨v, ds, H0, rfl, _⟩ := h
    rfl
  · obtain ⟨v, ds, H0, rfl, s00, hd, hn, ho, k⟩ := h
    refine ⟨_, PSs.nox (pss_cons (ps_set (i := 1) scSz.nd rfl (Or.inl rfl) (pe_lst pa_nil))
  (pss_cons (ps_for PassesOwn.never rfl (pi_tup (pv 0))
    (pg_name (i := 2) scSz.nd rfl (Or.inl rfl))
    (pss_one (ps_if (pt_val (pe_call d_is_repeat.G (hr.mono (by decide)) (by rfl) d_is_repeat.g d_is_repeat.kp d_is_repeat.b .nil pass0 (pa_cons (pv 2) pa_nil)))
    pss_never
    (pss_one (ps_if (pt_val (pe_call d_is_filler.G (hr.mono (by decide)) (by rfl) d_is_filler.g d_is_filler.kp d_is_filler.b .nil pass0 (pa_cons (pv 2) pa_nil)))
    pss_never
    (pss_one (ps_if (pt_val (pe_call d_is_size.G (hr.mono (by decide)) (by rfl) d_is_size.g d_is_size.kp d_is_size.b .nil pass0 (pa_cons (pv 2) pa_nil)))
    (pss_one (ps_expr (pe_bm PySem.F.plainAttrs_list PySem.F.slot_list_append PySem.F.type_list_append mt_append (pv 1) (pa_cons (pv 2) pa_nil))))
    pss_nil)))))))
  (pss_one (ps_ret (pv 1))))), ?_⟩
    cases hd with
    | @tup p xs _ ht hx =>
      have ht := Same.seqT s00 ht
      have hl := dpLen hx
      refine ⟨(by show 0 ≤ sizeLine; decide), fun q nq => ?_⟩
      have s0 := same_upd (o := .lst []) nq
      refine ⟨_, rfl, p, rfl, ⟨xs, Same.seqT s0 ht⟩, for_tup (K := K) (a := p) (xs := xs) (fun i σ H' => Same H H' ∧ ∃ us u, H' q = some (.lst us) ∧ DpAll K H0 us ((ds.take i).filter isSize) ∧ σ = [some (.ref p), some (.ref q), u]) ⟨s0, [], _, upd_same, .nil, rfl⟩ (fun i σ H' _ h => Same.seqT h.1 ht) ?_ ?_⟩
      · rintro i x σ H2 hi ⟨s2, us, u, hq, hus, rfl⟩
        have hi' := (List.getElem?_eq_some_iff.mp hi).1
        have he : ds[i]? = some (ds[i]'(by omega)) := List.getElem?_eq_getElem _
        obtain ⟨u', eu, hu⟩ := dpAt i hx he
        rw [hi] at eu
        cases eu
        have hm : ds[i]'(by omega) ∈ ds := List.getElem_mem _
        generalize ds[i]'(by omega) = e at he hu hm
        obtain ⟨oe, fe⟩ := ho e hm
        refine ⟨_, rfl, x, e, rfl, dpS (s00.trans s2) hu, oe, fun H3 s3 => ⟨_, rfl, ite2 (fun c => absurd c (by rw [flat_rep fe]; decide)) (fun _ => ?_)⟩⟩
        refine ⟨_, rfl, x, e, rfl, dpS (s00.trans (s2.trans s3)) hu, oe, fun H4 s4 => ⟨_, rfl, ite2 (fun c => absurd c (by rw [flat_fill fe]; decide)) (fun _ => ?_)⟩⟩
        have s24 := (s2.trans s3).trans s4
        refine ⟨_, rfl, x, e, rfl, dpS (s00.trans s24) hu, oe.1.1, fun H5 s5 => ⟨_, rfl, ite2 (fun c => ?_) (fun c => ?_)⟩⟩
        · have hq5 := s5 _ _ (s4 _ _ (s3 _ _ hq))
          have lus : us.length ≤ 100 := by
            rw [dpLen hus]
            exact Nat.le_trans (List.length_filter_le _ _) (Nat.le_trans (by rw [List.length_take]; exact Nat.min_le_right _ _) hn)
          refine ⟨_, rfl, .inl ⟨rfl, _, SqL.of hq5⟩, _, rfl, q, _, _, rfl, rfl, hq5, Nat.lt_of_le_of_lt lus (by decide), same_upd' nq (s24.trans s5), _, _, upd_same, ?_, rfl⟩
          rw [filter_snoc he, if_pos c]
          exact dpSnoc hus (.cons hu .nil)
        · refine ⟨s24.trans s5, us, _, s5 _ _ (s4 _ _ (s3 _ _ hq)), ?_, rfl⟩
          rw [filter_snoc he, if_neg c, List.append_nil]
          exact hus
      · rintro σ H2 ⟨s2, us, u, hq, hus, rfl⟩
        rw [hl, List.take_length] at hus
        exact ⟨_, rfl, k H2 q us s2 nq hq hus⟩
end
end K5

set_option Elab.async false
set_option linter.all false
set_option maxRecDepth 100000
set_option maxHeartbeats 4000000
namespace K5
open PySem PySem.Spec PyProof.Rows L2
open K1 (FnP top Nm)
def inner (d : PyData) : List PyData := (itemsOf d).filter isSize
def szOne (e : PyData) : List PyData := if isRepeat e = true then (List.replicate (topOf (itemAt e 1)).toNat (inner (itemAt e 2))).flatten else if isFill e = true then inner (itemAt e 1) else if isSize e = true then [e] else []
def szs (ds : List PyData) : List PyData := ds.flatMap szOne
/-- entries of no great size -/
def okT (ds : List PyData) : Prop := ds.length ≤ 100 ∧ ∀ e ∈ ds, okR e ∧ ∀ i, (itemsOf (itemAt e i)).length ≤ 100 ∧ ∀ e' ∈ itemsOf (itemAt e i), okR e'
theorem inner_of {d : PyData} (h : areInner d = true) : ∃ ds, d = .tuple ds ∧ ∀ e ∈ ds, (isSize e || isNamesE e) = true := by
  cases d with
  | tuple ds => exact ⟨ds, rfl, fun e he => List.all_eq_true.mp (Bool.and_eq_true_iff.mp h).1 e he⟩
  | _ => exact absurd h Bool.false_ne_true
theorem rep_parts {e : PyData} (h : isRepeat e = true) : (∃ n : Nat, itemAt e 1 = .int (n : Int) ∧ n ≤ 20) ∧ areInner (itemAt e 2) = true := by
  obtain ⟨_, h⟩ := Bool.and_eq_true_iff.mp h
  obtain ⟨h1, h⟩ := Bool.and_eq_true_iff.mp h
  obtain ⟨h2, h3⟩ := Bool.and_eq_true_iff.mp h
  obtain ⟨h4, h5⟩ := Bool.and_eq_true_iff.mp h2
  obtain ⟨n, en⟩ := isInt_of h1
  rw [en] at h4 h5
  have h4 : 1 ≤ n := of_decide_eq_true h4
  have h5 : n ≤ 20 := of_decide_eq_true h5
  obtain ⟨m, rfl⟩ := Int.eq_ofNat_of_zero_le (by omega : 0 ≤ n)
  exact ⟨⟨m, en, by omega⟩, h3⟩
theorem flat_len {α : Type} (l : List α) : ∀ n : Nat, (List.replicate n l).flatten.length = n * l.length
  | 0 => by simp
  | n + 1 => by
    rw [List.replicate_succ, List.flatten_cons, List.length_append, flat_len l n, Nat.succ_mul]
    omega
theorem inner_len (d : PyData) : (inner d).length ≤ (itemsOf d).length := List.length_filter_le _ _
theorem szOne_len {e : PyData} (h : ∀ i, (itemsOf (itemAt e i)).length ≤ 100) : (szOne e).length ≤ 2000 := by
  unfold szOne
  split
  · rename_i hr
    obtain ⟨⟨n, en, hn⟩, _⟩ := rep_parts hr
    rw [flat_len, en]
    show n * _ ≤ 2000
    have h1 := Nat.le_trans (inner_len (itemAt e 2)) (h 2)
    have := Nat.mul_le_mul hn h1
    omega
  · split
    · exact Nat.le_trans (inner_len _) (Nat.le_trans (h 1) (by decide))
    · split
      · exact Nat.le_trans (Nat.le_refl 1) (by decide)
      · exact Nat.zero_le _
theorem szs_len : ∀ ds : List PyData, (∀ e ∈ ds, ∀ i, (itemsOf (itemAt e i)).length ≤ 100) → (szs ds).length ≤ ds.length * 2000
  | [], _ => Nat.le_refl _
  | e :: ds, h => by
    have h1 := szOne_len (h e (List.mem_cons_self ..))
    have h2 := szs_len ds fun x hx => h x (List.mem_cons_of_mem _ hx)
    show (szOne e ++ szs ds).length ≤ (ds.length + 1) * 2000
    rw [List.length_append]
    omega
theorem szs_snoc {ds : List PyData} {i : Nat} {e : PyData} (h : ds[i]? = some e) : szs (ds.take (i + 1)) = szs (ds.take i) ++ szOne e := by
  unfold szs
  rw [List.take_succ, h, List.flatMap_append]
  show _ ++ (szOne e ++ []) = _
  rw [List.append_nil]
theorem dpRep {K : PySem.W.Frag} {H : Hp} {us : List V} {ds : List PyData} (h : DpAll K H us ds) : ∀ n : Nat, DpAll K H (List.replicate n us).flatten (List.replicate n ds).flatten
  | 0 => .nil
  | n + 1 => by
    rw [List.replicate_succ, List.flatten_cons, List.replicate_succ, List.flatten_cons]
    exact dpSnoc h (dpRep h n)
section
variable {P : Program} {w : World} {K : PySem.W.Frag} {mg : Str → Option Value} {base : Heap}
def spSz (K : PySem.W.Frag) : Sp := fun vs H Q _ => ∃ (v : V) (ds : List PyData), vs = [v] ∧ Dp K H v (.tuple ds) ∧ okT ds ∧ ∀ H' p us, Same H H' → H p = none → H' p = some (.lst us) → DpAll K H us (szs ds) → Q (.ref p) H'
theorem ok_sz {f f1 f2 f3 f0 : Addr} {fd d1 d2 d3 d0 : FuncData} (F : FnP K "sizes_in" (top 57) f fd) (d_is_size : D1 P w K mg base "is_size" "value" 8 (spQ K okB isSize) f1 d1) (d_is_repeat : D1 P w K mg base "is_repeat" "value" 10 (spQ K okR isRepeat) f2 d2) (d_is_filler : D1 P w K mg base "is_filler" "value" 10 (spQ K okR isFill) f3 d3)
    (d_sizes_in : D1 P w K mg base "sizes_in" "entries" 11 (spSz0 K) f0 d0) : FnOk P w K mg base CX0 12 f fd ["entries"] (spSz K) := by
  refine F.ok scSz (fun vs H Q E h => ?_) (fun cdv A outer s H vs Q E hr h => ?_)
  · obtain ⟨v, ds, rfl, _⟩ := h
    rfl
  · obtain ⟨v, ds, rfl, hd, ⟨hn, ho⟩, k⟩ := h
    refine ⟨_, PSs.nox (pss_cons (ps_set (i := 1) scSz.nd rfl (Or.inl rfl) (pe_lst pa_nil))
  (pss_cons (ps_for PassesOwn.never rfl (pi_tup (pv 0))
    (pg_name (i := 2) scSz.nd rfl (Or.inl rfl))
    (pss_one (ps_if (pt_val (pe_call d_is_repeat.G (hr.mono (by decide)) (by rfl) d_is_repeat.g d_is_repeat.kp d_is_repeat.b .nil pass0 (pa_cons (pv 2) pa_nil)))
    (pss_one (ps_expr (pe_bm PySem.F.plainAttrs_list PySem.F.slot_list_extend PySem.F.type_list_extend mt_extend (pv 1) (pa_cons (pe_op op_rep (pe_call d_sizes_in.G (hr.mono (by decide)) (by rfl) d_sizes_in.g d_sizes_in.kp d_sizes_in.b .nil pass0 (pa_cons (pe_ix ix_tup (pv 2) pe_int (fun _ _ => rfl)) pa_nil)) (pe_ix ix_tup (pv 2) pe_int (fun _ _ => rfl))) pa_nil))))
    (pss_one (ps_if (pt_val (pe_call d_is_filler.G (hr.mono (by decide)) (by rfl) d_is_filler.g d_is_filler.kp d_is_filler.b .nil pass0 (pa_cons (pv 2) pa_nil)))
    (pss_one (ps_expr (pe_bm PySem.F.plainAttrs_list PySem.F.slot_list_extend PySem.F.type_list_extend mt_extend (pv 1) (pa_cons (pe_call d_sizes_in.G (hr.mono (by decide)) (by rfl) d_sizes_in.g d_sizes_in.kp d_sizes_in.b .nil pass0 (pa_cons (pe_ix ix_tup (pv 2) pe_int (fun _ _ => rfl)) pa_nil)) pa_nil))))
    (pss_one (ps_if (pt_val (pe_call d_is_size.G (hr.mono (by decide)) (by rfl) d_is_size.g d_is_size.kp d_is_size.b .nil pass0 (pa_cons (pv 2) pa_nil)))
    (pss_one (ps_expr (pe_bm PySem.F.plainAttrs_list PySem.F.slot_list_append PySem.F.type_list_append mt_append (pv 1) (pa_cons (pv 2) pa_nil))))
    pss_nil)))))))
  (pss_one (ps_ret (pv 1))))), ?_⟩
    cases hd with
    | @tup p xs _ ht hx =>
      have hl := dpLen hx
      refine ⟨(by show 0 ≤ sizeLine; decide), fun q nq => ?_⟩
      have s0 := same_upd (o := .lst []) nq
      refine ⟨_, rfl, p, rfl, ⟨xs, Same.seqT s0 ht⟩, for_tup (K := K) (a := p) (xs := xs) (fun i σ H' => Same H H' ∧ ∃ us u, H' q = some (.lst us) ∧ DpAll K H us (szs (ds.take i)) ∧ σ = [some (.ref p), some (.ref q), u]) ⟨s0, [], _, upd_same, .nil, rfl⟩ (fun i σ H' _ h => Same.seqT h.1 ht) ?_ ?_⟩
      · rintro i x σ H2 hi ⟨s2, us, u, hq, hus, rfl⟩
        have hi' := (List.getElem?_eq_some_iff.mp hi).1
        have he : ds[i]? = some (ds[i]'(by omega)) := List.getElem?_eq_getElem _
        obtain ⟨u', eu, hu⟩ := dpAt i hx he
        rw [hi] at eu
        cases eu
        have hm : ds[i]'(by omega) ∈ ds := List.getElem_mem _
        generalize ds[i]'(by omega) = e at he hu hm
        obtain ⟨oe, oi⟩ := ho e hm
        have lus : us.length ≤ 200000 := by
          rw [dpLen hus]
          refine Nat.le_trans (szs_len _ fun e' he' i => ((ho e' (List.mem_of_mem_take he')).2 i).1) ?_
          have : (ds.take i).length ≤ 100 := by
            rw [List.length_take]
            omega
          omega
        refine ⟨_, rfl, x, e, rfl, dpS s2 hu, oe, fun H3 s3 => ⟨_, rfl, ite2 (fun c => ?_) (fun c => ?_)⟩⟩
        · -- a repeat
          have s23 := s2.trans s3
          obtain ⟨⟨n, en, hn20⟩, ha⟩ := rep_parts c
          obtain ⟨y, ys, z, rfl, hy, ez, hz⟩ := dpItem (n := 3) hu (rep_mark c) 2 (by decide)
          obtain ⟨y', ys', z', e2, hy', ez', hz'⟩ := dpItem (n := 3) hu (rep_mark c) 1 (by decide)
          cases e2
          rw [en] at hz'
          cases hz'
          obtain ⟨es, ees, hes⟩ := inner_of ha
          have oi2 := oi 2
          rw [ees] at oi2 hz
          have hq3 := s3 _ _ hq
          refine ⟨_, rfl, .inl ⟨rfl, _, SqL.of hq3⟩, _, rfl, y, ys, 2, z, rfl, rfl, Same.seqT s23 hy, atI_nat (j := 2) ez, z, es, H, rfl, s23, hz, oi2.1, fun e' he' => ⟨oi2.2 e' he', hes e' he'⟩, fun H4 p4 us4 s4 n4 h4 hus4 => ?_⟩
          have s24 := s23.trans s4
          have l4 : us4.length ≤ 100 := by
            rw [dpLen hus4]
            exact Nat.le_trans (List.length_filter_le _ _) oi2.1
          have lr : (List.replicate n us4).flatten.length ≤ 2000 := by
            rw [flat_len]
            have := Nat.mul_le_mul hn20 l4
            omega
          refine ⟨_, rfl, y, ys', 1, _, rfl, rfl, Same.seqT s24 hy', atI_nat (j := 1) ez', p4, n, us4, rfl, rfl, h4, by omega, by omega, ?_, fun p5 n5 => ?_⟩
          · have := Nat.mul_le_mul l4 hn20
            exact Nat.le_trans (show us4.length * n ≤ 2000 by omega) (by decide)
          · have s5 := same_upd (o := .lst (List.replicate (n : Int).toNat us4).flatten) n5
            have hq5 := s5 _ _ (s4 _ _ hq3)
            refine ⟨q, p5, us, _, rfl, rfl, hq5, upd_same, Nat.le_trans (show us.length + (List.replicate n us4).flatten.length ≤ 202000 by omega) (by decide), same_upd' nq (s24.trans s5), _, _, upd_same, ?_, rfl⟩
            rw [szs_snoc he]
            refine dpSnoc hus ?_
            unfold szOne inner
            rw [if_pos c, en, ees]
            exact dpRep hus4 n
        refine ⟨_, rfl, x, e, rfl, dpS (s2.trans s3) hu, oe, fun H4 s4 => ⟨_, rfl, ite2 (fun c2 => ?_) (fun c2 => ?_)⟩⟩
        · -- a fill, a fit
          have s24 := (s2.trans s3).trans s4
          obtain ⟨zz, _, hm2⟩ := fill_mark c2
          obtain ⟨y, ys, z, rfl, hy, ez, hz⟩ := dpItem (n := 2) hu hm2 1 (by decide)
          obtain ⟨es, ees, hes⟩ := inner_of (Bool.and_eq_true_iff.mp c2).2
          have oi1 := oi 1
          rw [ees] at oi1 hz
          have hq4 := s4 _ _ (s3 _ _ hq)
          refine ⟨_, rfl, .inl ⟨rfl, _, SqL.of hq4⟩, _, rfl, y, ys, 1, z, rfl, rfl, Same.seqT s24 hy, atI_nat (j := 1) ez, z, es, H, rfl, s24, hz, oi1.1, fun e' he' => ⟨oi1.2 e' he', hes e' he'⟩, fun H5 p5 us5 s5 n5 h5 hus5 => ?_⟩
          have l5 : us5.length ≤ 100 := by
            rw [dpLen hus5]
            exact Nat.le_trans (List.length_filter_le _ _) oi1.1
          refine ⟨q, p5, us, us5, rfl, rfl, s5 _ _ hq4, h5, Nat.le_trans (show us.length + us5.length ≤ 202000 by omega) (by decide), same_upd' nq (s24.trans s5), _, _, upd_same, ?_, rfl⟩
          rw [szs_snoc he]
          refine dpSnoc hus ?_
          unfold szOne inner
          rw [if_neg c, if_pos c2, ees]
          exact hus5
        · have s24 := (s2.trans s3).trans s4
          have eo : szOne e = if isSize e = true then [e] else [] := by
            unfold szOne
            rw [if_neg c, if_neg c2]
          refine ⟨_, rfl, x, e, rfl, dpS s24 hu, oe.1.1, fun H5 s5 => ⟨_, rfl, ite2 (fun c3 => ?_) (fun c3 => ?_)⟩⟩
          · have hq5 := s5 _ _ (s4 _ _ (s3 _ _ hq))
            refine ⟨_, rfl, .inl ⟨rfl, _, SqL.of hq5⟩, _, rfl, q, _, _, rfl, rfl, hq5, Nat.lt_of_le_of_lt lus (by decide), same_upd' nq (s24.trans s5), _, _, upd_same, ?_, rfl⟩
            rw [szs_snoc he, eo, if_pos c3]
            exact dpSnoc hus (.cons hu .nil)
          · refine ⟨s24.trans s5, us, _, s5 _ _ (s4 _ _ (s3 _ _ hq)), ?_, rfl⟩
            rw [szs_snoc he, eo, if_neg c3, List.append_nil]
            exact hus
      · rintro σ H2 ⟨s2, us, u, hq, hus, rfl⟩
        rw [hl, List.take_length] at hus
        exact ⟨_, rfl, k H2 q us s2 nq hq hus⟩
end
end K5

set_option Elab.async false
set_option linter.all false
set_option maxRecDepth 100000
set_option maxHeartbeats 4000000
namespace K5
open PySem PySem.Spec PyProof.Rows L2
open K1 (FnP top Nm)
/-! ### templates -/
def areEnt (d : PyData) : Bool := match d with
  | .tuple ds => ds.all isEntry && (!(decide (40 < (szs ds).length) || decide (1 < (ds.filter isFill).length)) && (decide ((ds.filter isFill).length = 0) || (szs ds).all mayFill))
  | _ => false
def okEnt (d : PyData) : Prop := ∀ ds, d = .tuple ds → okT ds
theorem szs_ok {ds : List PyData} (h : okT ds) {e : PyData} (he : e ∈ szs ds) : okB e := by
  obtain ⟨x, hx, hex⟩ := List.mem_flatMap.mp he
  obtain ⟨o1, o2⟩ := h.2 x hx
  unfold szOne at hex
  split at hex
  · obtain ⟨l, hl, hel⟩ := List.mem_flatten.mp hex
    rw [List.eq_of_mem_replicate hl] at hel
    exact ((o2 2).2 e (List.mem_filter.mp hel).1).1.1
  · split at hex
    · exact ((o2 1).2 e (List.mem_filter.mp hex).1).1.1
    · split at hex
      · rw [List.mem_singleton] at hex
        subst hex
        exact o1.1.1
      · exact nomatch hex
section
variable {P : Program} {w : World} {K : PySem.W.Frag} {mg : Str → Option Value} {base : Heap}
theorem scAE : FnScope ["value", "entry", "sizes", "fillers", "size"] ["value"] (defScope (top 59)) := ⟨rfl, rfl, rfl, by decide +kernel, rfl, by decide +kernel, by decide +kernel⟩
theorem filt_snoc {ds : List PyData} {i : Nat} {e : PyData} (h : ds[i]? = some e) : ((ds.take (i + 1)).filter isFill).length = ((ds.take i).filter isFill).length + (if isFill e = true then 1 else 0) := by
  rw [List.take_succ, h, List.filter_append, List.length_append]
  congr 1
  show (List.filter isFill [e]).length = _
  by_cases hs : isFill e = true
  · rw [if_pos hs, List.filter_cons_of_pos hs]
    rfl
  · rw [if_neg hs, List.filter_cons_of_neg hs]
    rfl
theorem ok_ae {f f1 f2 f3 f4 : Addr} {fd d1 d2 d3 d4 : FuncData} {tk : Tok} (F : FnP K "are_entries" (top 59) f fd) (N : Nm mg) (hall : mg "all" = none) (gM : mg "MOST_SIZES" = some (.int 40 tk)) (d_is_entry : D1 P w K mg base "is_entry" "value" 11 (spQ K okR isEntry) f1 d1) (d_sizes_in : D1 P w K mg base "sizes_in" "entries" 12 (spSz K) f2 d2)
    (d_is_filler : D1 P w K mg base "is_filler" "value" 10 (spQ K okR isFill) f3 d3) (d_may_be_filled : D1 P w K mg base "may_be_filled" "size" 9 (spQ K okB mayFill) f4 d4) : FnOk P w K mg base CX0 13 f fd ["value"] (spQ K okEnt areEnt) := by
  refine F.ok scAE (fun vs H Q E h => ?_) (fun cdv A outer s H vs Q E hr h => ?_)
  · obtain ⟨v, d, rfl, _⟩ := h
    rfl
  · obtain ⟨v, d, rfl, hd, ho, k⟩ := h
    refine ⟨_, PSs.nox (pss_cons (ps_if (PW.pt (pw_or (pt_not (pt_val (pe_callB call_isi (by rfl) N.isi (by decide +kernel) (pa_cons (pv 0) (pa_cons (pe_bltn (v := .ty "tuple") (u := .type "tuple") (by rfl) N.ttup (by decide +kernel) rfl) pa_nil))))) (pw_or1 (pt_not (pt_val (pe_callB (cr_all rfl) (by rfl) hall (by decide +kernel) (pa_cons (pe_lc (own := [("entry", 1)]) (g := gName 1) (tt := tYes) rfl scAE.nd (pi_tup (pv 0)) (blkOk_by (own := [("entry", 1)]) (N := ["value", "entry", "sizes", "fillers", "size"]) (sc := defScope (top 59)) (by decide +kernel)) (fun _ _ _ _ _ => (pg_name (i := 1) scAE.nd rfl (Or.inl rfl))) (fun _ _ _ _ _ => pts_nil) (fun _ _ _ _ _ => (pe_call d_is_entry.G (hr.mono (by decide)) (by rfl) d_is_entry.g d_is_entry.kp d_is_entry.b .nil pass0 (pa_cons (pv 1) pa_nil)))) pa_nil)))))))
    (pss_one (ps_ret pe_bl))
    pss_nil)
  (pss_cons (ps_set (i := 2) scAE.nd rfl (Or.inl rfl) (pe_call d_sizes_in.G (hr.mono (by decide)) (by rfl) d_sizes_in.g d_sizes_in.kp d_sizes_in.b .nil pass0 (pa_cons (pv 0) pa_nil)))
  (pss_cons (ps_setLc (i := 3) (own := [("entry", 1)]) (g := gName 1) rfl scAE.nd rfl rfl (sw_true rfl rfl rfl (by decide +kernel)) (pi_tup (pv 0)) (blkOk_by (own := [("entry", 1)]) (N := ["value", "entry", "sizes", "fillers", "size"]) (sc := defScope (top 59)) (by decide +kernel)) (fun _ _ _ _ _ => (pg_name (i := 1) scAE.nd rfl (Or.inl rfl))) (fun _ _ _ _ _ => pts_one (pt_val (pe_call d_is_filler.G (hr.mono (by decide)) (by rfl) d_is_filler.g d_is_filler.kp d_is_filler.b .nil pass0 (pa_cons (pv 1) pa_nil)))) (fun _ _ _ _ _ => (pv 1)))
  (pss_cons (ps_if (PW.pt (pw_or (pt_cmpR op_gt (pe_callB call_len_seq (by rfl) N.len PySem.boot_len (pa_cons (pv 2) pa_nil)) (pe_glob (by rfl) gM (v := .int 40) ⟨_, rfl⟩) (nomark _)) (pw_or1 (pt_cmpR op_gt (pe_callB call_len_seq (by rfl) N.len PySem.boot_len (pa_cons (pv 3) pa_nil)) pe_int (nomark _)))))
    (pss_one (ps_ret pe_bl))
    pss_nil)
  (pss_one (ps_ret (pe_or (pe_cmpR op_eq (pe_callB call_len_seq (by rfl) N.len PySem.boot_len (pa_cons (pv 3) pa_nil)) pe_int (nomark _)) (pe_one (pe_callB (cr_all rfl) (by rfl) hall (by decide +kernel) (pa_cons (pe_lc (own := [("size", 4)]) (g := gName 4) (tt := tYes) rfl scAE.nd (pi_list (pv 2)) (blkOk_by (own := [("size", 4)]) (N := ["value", "entry", "sizes", "fillers", "size"]) (sc := defScope (top 59)) (by decide +kernel)) (fun _ _ _ _ _ => (pg_name (i := 4) scAE.nd rfl (Or.inl rfl))) (fun _ _ _ _ _ => pts_nil) (fun _ _ _ _ _ => (pe_call d_may_be_filled.G (hr.mono (by decide)) (by rfl) d_may_be_filled.g d_may_be_filled.kp d_may_be_filled.b .nil pass0 (pa_cons (pv 4) pa_nil)))) pa_nil)))))))))), ?_⟩
    refine ⟨_, rfl, _, _, _, _, _, rfl, .ty _, dpTy hd, kitD d (by decide), _, rfl, ite2 (fun c => ?_) (fun c => ?_)⟩
    · have c := tB c
      have e : areEnt d = false := by
        cases d with
        | tuple ds => exact absurd c (by simp only [isTy, tyN]; decide)
        | _ => rfl
      exact iteT (bq (A := True) e (k H (Same.refl H)))
    · have c := fB c
      obtain ⟨ds, rfl⟩ := isTy_tup c
      obtain ⟨hn, hoo⟩ := ho ds rfl
      have hT := ho ds rfl
      have ed : areEnt (.tuple ds) = (ds.all isEntry && (!(decide (40 < (szs ds).length) || decide (1 < (ds.filter isFill).length)) && (decide ((ds.filter isFill).length = 0) || (szs ds).all mayFill))) := rfl
      have hdd := hd
      cases hd with
      | @tup p xs _ ht hx =>
        have hl := dpLen hx
        have at_ : ∀ i x, xs[i]? = some x → ∃ e, ds[i]? = some e ∧ Dp K H x e ∧ e ∈ ds := fun i x hi => by
          have hi' := (List.getElem?_eq_some_iff.mp hi).1
          have he : ds[i]? = some (ds[i]'(by omega)) := List.getElem?_eq_getElem _
          obtain ⟨u, eu, hu⟩ := dpAt i hx he
          rw [hi] at eu
          cases eu
          exact ⟨_, he, hu, List.getElem_mem _⟩
        refine ⟨_, rfl, p, rfl, ⟨xs, ht⟩, fun D nD => ?_⟩
        have ln : ∀ i, ((ds.take i).map fun e => V.bl (isEntry e)).length < sizeLine := fun i => by
          rw [List.length_map, List.length_take]
          exact Nat.lt_of_le_of_lt (Nat.le_trans (Nat.min_le_right _ _) hn) (by decide)
        refine lc_tup (K := K) (a := p) (xs := xs) (fun i H' => Same H H' ∧ H' D = some (.lst ((ds.take i).map fun e => V.bl (isEntry e)))) ⟨same_upd nD, upd_same⟩ (fun i H' _ h => Same.seqT h.1 ht) ?_ ?_
        · rintro i x H2 hi ⟨s2, hD⟩
          obtain ⟨e, he, hu, hm⟩ := at_ i x hi
          refine ⟨rfl, iteT (B := Same H H2 ∧ H2 D = some (.lst ((ds.take (i + 1)).map fun e => V.bl (isEntry e)))) ?_⟩
          exact ⟨_, rfl, x, e, rfl, dpS s2 hu, (hoo e hm).1, fun H3 s3 => ⟨_, s3 _ _ hD, ln _, same_upd' nD (s2.trans s3), by rw [upd_same, take_snoc he]⟩⟩
        rintro H2 ⟨s2, hD⟩
        rw [hl, List.take_length] at hD
        refine ⟨D, ds.map isEntry, rfl, SqL.of (by rw [List.map_map]; exact hD), _, rfl, ite2 (fun c2 => ?_) (fun c2 => ?_)⟩
        · have e : ds.all isEntry = false := by
            have := tB c2
            rw [List.all_map] at this
            exact this
          exact bq (A := True) (by rw [ed, e, Bool.false_and]) (k H2 s2)
        have eall : ds.all isEntry = true := by
          have := fB c2
          rw [List.all_map] at this
          exact this
        refine ⟨_, rfl, _, ds, rfl, dpS s2 hdd, hT, fun H3 q us s3 nq hq hus => ?_⟩
        have s23 := s2.trans s3
        refine ⟨_, rfl, p, rfl, ⟨xs, Same.seqT s23 ht⟩, fun D2 nD2 => ?_⟩
        refine lc_tup (K := K) (a := p) (xs := xs) (fun i H' => Same H3 H' ∧ ∃ fs : List V, H' D2 = some (.lst fs) ∧ fs.length = ((ds.take i).filter isFill).length) ⟨same_upd nD2, [], upd_same, rfl⟩ (fun i H' _ h => Same.seqT (s23.trans h.1) ht) ?_ ?_
        · rintro i x H4 hi ⟨s4, fs, hD2, hfs⟩
          obtain ⟨e, he, hu, hm⟩ := at_ i x hi
          refine ⟨rfl, _, rfl, x, e, rfl, dpS (s23.trans s4) hu, (hoo e hm).1, fun H5 s5 => ⟨_, rfl, ite2 (fun c3 => ?_) (fun c3 => ?_)⟩⟩
          · refine ⟨_, rfl, fs, s5 _ _ hD2, ?_, same_upd' nD2 (s4.trans s5), fs ++ [x], upd_same, ?_⟩
            · rw [hfs]
              exact Nat.lt_of_le_of_lt (Nat.le_trans (List.length_filter_le _ _) (Nat.le_trans (by rw [List.length_take]; exact Nat.min_le_right _ _) hn)) (by decide)
            · rw [filt_snoc he, if_pos c3, List.length_append, hfs]
              rfl
          · refine ⟨s4.trans s5, fs, s5 _ _ hD2, ?_⟩
            rw [filt_snoc he, if_neg c3, hfs]
            rfl
        rintro H4 ⟨s4, fs, hD2, hfs⟩
        rw [hl, List.take_length] at hfs
        have s24 := s23.trans s4
        have lu : us.length = (szs ds).length := dpLen hus
        have hq4 := s4 _ _ hq
        refine ⟨_, rfl, q, _, rfl, .inl (SqL.of hq4), _, _, rfl, rfl, _, rfl, ite2 (fun c3 => ?_) (fun c3 => ?_)⟩
        · have c3 : (40 : Int) < ((us.length : Nat) : Int) := of_decide_eq_true c3
          refine iteT (bq (A := True) ?_ (k H4 s24))
          rw [ed, decide_eq_true (by omega : 40 < (szs ds).length), Bool.true_or, Bool.not_true, Bool.false_and, Bool.and_false]
        have c3 : ¬ 40 < (szs ds).length := fun z => c3 (decide_eq_true (show (40 : Int) < ((us.length : Nat) : Int) by omega))
        refine ⟨_, rfl, D2, _, rfl, .inl (SqL.of hD2), _, _, rfl, rfl, _, rfl, ite2 (fun c4 => ?_) (fun c4 => ?_)⟩
        · have c4 : (1 : Int) < ((fs.length : Nat) : Int) := of_decide_eq_true c4
          refine bq (A := True) ?_ (k H4 s24)
          rw [ed, decide_eq_true (by omega : 1 < (ds.filter isFill).length), Bool.or_true, Bool.not_true, Bool.false_and, Bool.and_false]
        have c4 : ¬ 1 < (ds.filter isFill).length := fun z => c4 (decide_eq_true (show (1 : Int) < ((fs.length : Nat) : Int) by omega))
        refine ⟨_, rfl, D2, _, rfl, .inl (SqL.of hD2), rfl, _, rfl, ite2 (fun c5 => ?_) (fun c5 => ?_)⟩
        · have c5 : V.int ((fs.length : Nat) : Int) = V.int 0 := of_decide_eq_true c5
          injection c5 with c5
          refine bq (A := True) ?_ (k H4 s24)
          rw [ed, eall, decide_eq_false c3, decide_eq_false c4, decide_eq_true (by omega : (ds.filter isFill).length = 0)]
          rfl
        have c5 : ¬ (ds.filter isFill).length = 0 := fun z => c5 (decide_eq_true (show V.int ((fs.length : Nat) : Int) = V.int 0 by rw [hfs, z]; rfl))
        refine ⟨_, rfl, q, rfl, ⟨us, SqL.of hq4⟩, fun D3 nD3 => ?_⟩
        have lz : (szs ds).length ≤ 40 := by omega
        have lm : ∀ i, (((szs ds).take i).map fun e => V.bl (mayFill e)).length < sizeLine := fun i => by
          rw [List.length_map, List.length_take]
          exact Nat.lt_of_le_of_lt (Nat.le_trans (Nat.min_le_right _ _) lz) (by decide)
        refine lc_list (K := K) (a := q) (xs := us) (fun i H' => Same H4 H' ∧ H' D3 = some (.lst (((szs ds).take i).map fun e => V.bl (mayFill e)))) ⟨same_upd nD3, upd_same⟩ (fun i H' _ h => SqL.of (h.1 _ _ hq4)) ?_ ?_
        · rintro i x H5 hi ⟨s5, hD3⟩
          have hi' := (List.getElem?_eq_some_iff.mp hi).1
          have he : (szs ds)[i]? = some ((szs ds)[i]'(by omega)) := List.getElem?_eq_getElem _
          obtain ⟨u, eu, hu⟩ := dpAt i hus he
          rw [hi] at eu
          cases eu
          refine ⟨rfl, iteT (B := Same H4 H5 ∧ H5 D3 = some (.lst (((szs ds).take (i + 1)).map fun e => V.bl (mayFill e)))) ?_⟩
          exact ⟨_, rfl, x, _, rfl, dpS ((s3.trans s4).trans s5) (by first | exact dpS s2 hu | exact hu), szs_ok hT (List.getElem_mem _), fun H6 s6 => ⟨_, s6 _ _ hD3, lm _, same_upd' nD3 (s5.trans s6), by rw [upd_same, take_snoc he]⟩⟩
        · rintro H5 ⟨s5, hD3⟩
          rw [lu, List.take_length] at hD3
          refine ⟨D3, (szs ds).map mayFill, rfl, SqL.of (by rw [List.map_map]; exact hD3), bq (A := True) ?_ (k H5 (s24.trans s5))⟩
          rw [ed, eall, decide_eq_false c3, decide_eq_false c4, decide_eq_false c5, List.all_map]
          rfl
theorem scTp : FnScope ["value"] ["value"] (defScope (top 61)) := ⟨rfl, rfl, rfl, by decide +kernel, rfl, by decide +kernel, by decide +kernel⟩
theorem ok_tp {f f1 f2 : Addr} {fd d1 d2 : FuncData} (F : FnP K "is_template" (top 61) f fd) (d_is_inherited : D1 P w K mg base "is_inherited" "value" 3 (spQ K okInh isInh) f1 d1) (d_are_entries : D1 P w K mg base "are_entries" "value" 13 (spQ K okEnt areEnt) f2 d2) :
    FnOk P w K mg base CX0 14 f fd ["value"] (spQ K (fun d => okInh d ∧ okEnt d) fun d => isInh d || areEnt d) := by
  refine F.ok scTp (fun vs H Q E h => ?_) (fun cdv A outer s H vs Q E hr h => ?_)
  · obtain ⟨v, d, rfl, _⟩ := h
    rfl
  · obtain ⟨v, d, rfl, hd, ho, k⟩ := h
    refine ⟨_, PSs.nox (pss_one (ps_ret (pe_or (pe_call d_is_inherited.G (hr.mono (by decide)) (by rfl) d_is_inherited.g d_is_inherited.kp d_is_inherited.b .nil pass0 (pa_cons (pv 0) pa_nil)) (pe_one (pe_call d_are_entries.G (hr.mono (by decide)) (by rfl) d_are_entries.g d_are_entries.kp d_are_entries.b .nil pass0 (pa_cons (pv 0) pa_nil)))))), ?_⟩
    refine ⟨_, rfl, v, d, rfl, hd, ho.1, fun H1 s1 => ⟨_, rfl, ite2 (fun c => bq (A := True) (show (isInh d || areEnt d) = true by rw [c, Bool.true_or]) (k H1 s1)) (fun c => ?_)⟩⟩
    exact ⟨_, rfl, v, d, rfl, dpS s1 hd, ho.2, fun H2 s2 => bq (A := True) (show (isInh d || areEnt d) = areEnt d by rw [Bool.eq_false_iff.mpr c, Bool.false_or]) (k H2 (s1.trans s2))⟩
end
end K5

set_option Elab.async false
set_option linter.all false
set_option maxRecDepth 100000
set_option maxHeartbeats 4000000
namespace L2
open PySem PySem.Spec PyProof.Rows
section
variable {X : Cx}
/-- name = {..} on one line, the name a local -/
theorem ps_setDc {i : Nat} {y : Str} {py : Pos} {kx vx tg iter : Expr} {ifs : List Expr} {scope : Scope} {own : List (Str × Nat)} {pos spos : Pos} {wi : TI} {g : TG} {tt : TT} {tk tv : TE} (hc : X.calm = true) (hN : X.N.Nodup) (hy : X.N[i]? = some y) (hyl : X.env.scope.names.lookup y = some .local)
    (hsw : swapsWith (.DictComp kx vx [⟨tg, iter, ifs, 0⟩] scope pos) (some (.Name y py)) spos.line X.env = pure true) (hi : PI X tg iter wi) (ok : BlkOk X.N X.env.scope scope own)
    (hg : ∀ (s : Shared) (H : Hp) (C : Addr) (cl : List (Str × Addr)) (fp : List Addr), PG (X.blk s H scope (compEnvC scope cl C X.env) fp) tg g) (ht : ∀ (s : Shared) (H : Hp) (C : Addr) (cl : List (Str × Addr)) (fp : List Addr), PTs (X.blk s H scope (compEnvC scope cl C X.env) fp) ifs tt)
    (hk : ∀ (s : Shared) (H : Hp) (C : Addr) (cl : List (Str × Addr)) (fp : List Addr), PE (X.blk s H scope (compEnvC scope cl C X.env) fp) kx tk)
    (he : ∀ (s : Shared) (H : Hp) (C : Addr) (cl : List (Str × Addr)) (fp : List Addr), PE (X.blk s H scope (compEnvC scope cl C X.env) fp) vx tv) (hs : ∀ x, foldedSetIterable iter X.env x = pure x := by intro _; rfl) :
    PS X (.Assign [.Name y py] (.DictComp kx vx [⟨tg, iter, ifs, 0⟩] scope pos) spos) (tAsg (tDc wi g tt tk tv (own.map (·.2))) (gName i)) := by
  refine ⟨fun pins s σ H D I h => ?_⟩
  rw [exec_Assign_Name_used _ _ _ _ hsw]
  refine wpAny_bind (wpAny_standAt (wpAny_bind ?_))
  show wpAny _ X.A (do let _ ← comprehension (.DictComp kx vx [⟨tg, iter, ifs, 0⟩] scope pos) scope X.env (firstIterPos [⟨tg, iter, ifs, 0⟩] pos) newDict false (eval iter X.env) (some (assign (.Name y py) X.env))) _ _ s
  have h : tDc wi g tt tk tv (own.map (·.2)) σ H (fun x H1 => gName i x σ H1 D.nx) := h
  refine wpAny_bind (thn (dc_core (Qf := fun _ s' => SP X pins D .next s') hc hN I hi ok hg ht hk he hs h fun L C s' m H' I' q hn f => ?_) fun _ s' hq => wpAny_pure (wpAny_pure hq))
  show wpAny _ _ (assign (.Name y py) X.env (.ref L)) _ _ _
  refine wpAny_assign_Name (store_ok2 (v := V.ref L) I' hN hy (.inl hyl) rfl (fun s2 I2 ⟨a, sb, ha⟩ => ?_) (.inr hyl))
  obtain ⟨f0, f1, f2, f3, f4, f5⟩ := f
  have haC : C ≠ a := by
    rcases ha with z | z
    · rw [z]; exact f1
    · exact fun e => f4 y a z e.symm
  refine ⟨m, hn.sameBut sb haC, fun h3 sb3 => ?_⟩
  exact ⟨_, H', I2.turned (t' := s2.toks) (fun b o hb e => (sb3.2 b hb).trans e) f0 f1 f3 f4 f5, q⟩
theorem sw_dict {kx vx : Expr} {gs : List Comprehension} {scope : Scope} {pos py : Pos} {y : Str} {l : Nat} {env : Env} (hk : env.scope.kind = .function) (hy : env.scope.names.lookup y = some .local) (hl : (py.line == pos.line) = true)
    (ha : (scope.names.any fun (n, k) => n == y && (k == .local || k == .cell)) = false) : swapsWith (.DictComp kx vx gs scope pos) (some (.Name y py)) l env = pure true := by
  have ky : env.kindOf y = some .local := hy
  have hb : env.blockKind = .function := by unfold Env.blockKind; rw [hk]; rfl
  unfold swapsWith
  simp only [hb, ky, ha, Expr.pos, hl]
  rfl
end
end L2
namespace K5
open PySem PySem.Spec PyProof.Rows L2
open K1 (FnP top Nm)
/-! ### words and rows of fields -/
def isDot (d : PyData) : Bool := match d with
  | .str z => decide (z = ".")
  | _ => false
def isFW (d : PyData) : Bool := isName d || isDot d
def isFRow (d : PyData) : Bool := match d with
  | .tuple ds => decide (1 ≤ ds.length) && (decide (ds.length ≤ 20) && ds.all isFW)
  | _ => false
section
variable {P : Program} {w : World} {K : PySem.W.Frag} {mg : Str → Option Value} {base : Heap}
theorem scFW : FnScope ["value"] ["value"] (defScope (top 19)) := ⟨rfl, rfl, rfl, by decide +kernel, rfl, by decide +kernel, by decide +kernel⟩
theorem ok_fw {f f1 : Addr} {fd d1 : FuncData} {tk : Tok} (F : FnP K "is_field_word" (top 19) f fd) (N : Nm mg) (hs : mg "str" = none) (gN : mg "NO_FIELD" = some (.str "." tk)) (d_is_name : D1 P w K mg base "is_name" "value" 1 (spQ K okZ isName) f1 d1) :
    FnOk P w K mg base CX0 2 f fd ["value"] (spQ K okZ isFW) := by
  refine F.ok scFW (fun vs H Q E h => ?_) (fun cdv A outer s H vs Q E hr h => ?_)
  · obtain ⟨v, d, rfl, _⟩ := h
    rfl
  · obtain ⟨v, d, rfl, hd, ho, k⟩ := h
    refine ⟨_, PSs.nox (pss_one (ps_ret (pe_or (pe_call d_is_name.G (hr.mono (by decide)) (by rfl) d_is_name.g d_is_name.kp d_is_name.b .nil pass0 (pa_cons (pv 0) pa_nil)) (pe_one (pe_and (pe_callB call_isi (by rfl) N.isi (by decide +kernel) (pa_cons (pv 0) (pa_cons (pe_bltn (v := .ty "str") (u := .type "str") (by rfl) hs (by decide +kernel) rfl) pa_nil))) (pe_one (pe_cmpR op_eq (pv 0) (pe_glob (by rfl) gN (v := .str ".") ⟨_, rfl⟩) (nomark _)))))))), ?_⟩
    refine ⟨_, rfl, v, d, rfl, hd, ho, fun H1 s1 => ⟨_, rfl, ite2 (fun c => bq (A := True) (show isFW d = true by unfold isFW; rw [c, Bool.true_or]) (k H1 s1)) (fun c => ?_)⟩⟩
    have e : isFW d = isDot d := by
      unfold isFW
      rw [Bool.eq_false_iff.mpr c, Bool.false_or]
    refine ⟨_, rfl, _, _, _, _, _, rfl, .ty _, dpTy (dpS s1 hd), kitD d (by decide), _, rfl, ite2 (fun c2 => ?_) (fun c2 => ?_)⟩
    · obtain ⟨z, rfl⟩ : ∃ z, d = .str z := by
        cases d with
        | str z => exact ⟨z, rfl⟩
        | _ => exact absurd c2 (by simp only [isTy, tyN]; decide)
      cases hd
      have q := k H1 s1
      rw [e, show isDot (.str z) = decide (V.str z = V.str ".") from decide_eq_decide.mpr ⟨fun h => by rw [h], fun h => by injection h⟩] at q
      exact ⟨_, rfl, rfl, q⟩
    · have q := k H1 s1
      rw [e, show isDot d = false by
        cases d with
        | str z => exact absurd (by simp only [isTy, tyN]; decide) c2
        | _ => rfl] at q
      exact q
theorem scFR : FnScope ["value", "word"] ["value"] (defScope (top 20)) := ⟨rfl, rfl, rfl, by decide +kernel, rfl, by decide +kernel, by decide +kernel⟩
theorem ok_fr {f f1 : Addr} {fd d1 : FuncData} {tk : Tok} (F : FnP K "is_field_row" (top 20) f fd) (N : Nm mg) (hall : mg "all" = none) (gM : mg "MOST_FIELD_COLUMNS" = some (.int 20 tk)) (d_is_field_word : D1 P w K mg base "is_field_word" "value" 2 (spQ K okZ isFW) f1 d1) :
    FnOk P w K mg base CX0 3 f fd ["value"] (spQ K okNs isFRow) := by
  refine F.ok scFR (fun vs H Q E h => ?_) (fun cdv A outer s H vs Q E hr h => ?_)
  · obtain ⟨v, d, rfl, _⟩ := h
    rfl
  · obtain ⟨v, d, rfl, hd, ho, k⟩ := h
    refine ⟨_, PSs.nox (pss_cons (ps_if (PW.pt (pw_or (pt_not (pt_val (pe_callB call_isi (by rfl) N.isi (by decide +kernel) (pa_cons (pv 0) (pa_cons (pe_bltn (v := .ty "tuple") (u := .type "tuple") (by rfl) N.ttup (by decide +kernel) rfl) pa_nil))))) (pw_or1 (pt_not (pt_chain op_le op_le pe_int (pe_callB call_len_seq (by rfl) N.len PySem.boot_len (pa_cons (pv 0) pa_nil)) (pe_glob (by rfl) gM (v := .int 20) ⟨_, rfl⟩))))))
    (pss_one (ps_ret pe_bl))
    pss_nil)
  (pss_one (ps_ret (pe_callB (cr_all rfl) (by rfl) hall (by decide +kernel) (pa_cons (pe_lc (own := [("word", 1)]) (g := gName 1) (tt := tYes) rfl scFR.nd (pi_tup (pv 0)) (blkOk_by (own := [("word", 1)]) (N := ["value", "word"]) (sc := defScope (top 20)) (by decide +kernel)) (fun _ _ _ _ _ => (pg_name (i := 1) scFR.nd rfl (Or.inl rfl))) (fun _ _ _ _ _ => pts_nil) (fun _ _ _ _ _ => (pe_call d_is_field_word.G (hr.mono (by decide)) (by rfl) d_is_field_word.g d_is_field_word.kp d_is_field_word.b .nil pass0 (pa_cons (pv 1) pa_nil)))) pa_nil))))), ?_⟩
    refine ⟨_, rfl, _, _, _, _, _, rfl, .ty _, dpTy hd, kitD d (by decide), _, rfl, ite2 (fun c => ?_) (fun c => ?_)⟩
    · have c := tB c
      have e : isFRow d = false := by
        cases d with
        | tuple ds => exact absurd c (by simp only [isTy, tyN]; decide)
        | _ => rfl
      exact iteT (bq (A := True) e (k H (Same.refl H)))
    · have c := fB c
      obtain ⟨ds, rfl⟩ := isTy_tup c
      have hk := k H (Same.refl H)
      cases hd with
      | @tup p xs _ ht hx =>
        have hl := dpLen hx
        have no : ¬ (1 ≤ ds.length ∧ ds.length ≤ 20) → Q (.bl false) H := fun n => by
          have e : isFRow (.tuple ds) = false := by
            show (decide (1 ≤ ds.length) && (decide (ds.length ≤ 20) && ds.all isFW)) = false
            by_cases h1 : 1 ≤ ds.length
            · rw [decide_eq_false (fun h2 : ds.length ≤ 20 => n ⟨h1, h2⟩), Bool.false_and, Bool.and_false]
            · rw [decide_eq_false h1, Bool.false_and]
          rw [e] at hk
          exact hk
        refine ⟨_, rfl, p, _, rfl, .inr ht, _, _, rfl, rfl, _, rfl, ite2 (fun c1 => ⟨_, _, rfl, rfl, _, rfl, ite2 (fun c2 => ?_) (fun c2 => ?_)⟩) (fun c1 => ⟨_, rfl, ?_⟩)⟩
        rotate_left 2
        · exact iteT (no fun h => c1 (decide_eq_true (show (1 : Int) ≤ ((xs.length : Nat) : Int) by omega)))
        · refine no fun h => ?_
          have c2 : decide (((xs.length : Nat) : Int) ≤ 20) = false := Bool.not_eq_true' _ ▸ c2
          have := of_decide_eq_false c2
          omega
        · have c1 : (1 : Int) ≤ ((xs.length : Nat) : Int) := of_decide_eq_true c1
          have c2 : ((xs.length : Nat) : Int) ≤ 20 := by
            apply Classical.byContradiction
            intro n
            apply c2
            show (!decide (((xs.length : Nat) : Int) ≤ 20)) = true
            rw [decide_eq_false n]
            rfl
          refine ⟨_, rfl, p, rfl, ⟨xs, ht⟩, fun D nD => ?_⟩
          have ln : ∀ i, ((ds.take i).map fun e => V.bl (isFW e)).length < sizeLine := fun i => by
            rw [List.length_map, List.length_take]
            exact Nat.lt_of_le_of_lt (Nat.le_trans (Nat.min_le_right _ _) (ho ds rfl).1) (by decide)
          refine lc_tup (K := K) (a := p) (xs := xs) (fun i H' => Same H H' ∧ H' D = some (.lst ((ds.take i).map fun e => V.bl (isFW e)))) ⟨same_upd nD, upd_same⟩ (fun i H' _ h => Same.seqT h.1 ht) ?_ ?_
          · rintro i x H2 hi ⟨s2, hD⟩
            have hi' := (List.getElem?_eq_some_iff.mp hi).1
            have he : ds[i]? = some (ds[i]'(by omega)) := List.getElem?_eq_getElem _
            obtain ⟨u, eu, hu⟩ := dpAt i hx he
            rw [hi] at eu
            cases eu
            refine ⟨rfl, iteT (B := Same H H2 ∧ H2 D = some (.lst ((ds.take (i + 1)).map fun e => V.bl (isFW e)))) ?_⟩
            refine ⟨_, rfl, x, _, rfl, dpS s2 hu, (ho ds rfl).2 _ (List.getElem_mem _), fun H3 s3 => ⟨_, s3 _ _ hD, ln _, same_upd' nD (s2.trans s3), by rw [upd_same, take_snoc he]⟩⟩
          · rintro H2 ⟨s2, hD⟩
            rw [hl, List.take_length] at hD
            refine ⟨D, ds.map isFW, rfl, SqL.of (by rw [List.map_map]; exact hD), bq (A := True) ?_ (k H2 s2)⟩
            show (decide (1 ≤ ds.length) && (decide (ds.length ≤ 20) && ds.all isFW)) = (ds.map isFW).all id
            rw [decide_eq_true (by omega : 1 ≤ ds.length), decide_eq_true (by omega : ds.length ≤ 20), Bool.true_and, Bool.true_and, List.all_map]
            rfl
end
end K5

set_option Elab.async false
set_option linter.all false
set_option maxRecDepth 100000
set_option maxHeartbeats 4000000
namespace K5
open PySem PySem.Spec PyProof.Rows L2
open K1 (FnP top Nm wm)
/-! ### cells of a field -/
def mxL : List Int → Int
  | [] => 0
  | x :: xs => xs.foldl max x
def mnL : List Int → Int
  | [] => 0
  | x :: xs => xs.foldl min x
theorem foldl_max (xs : List Int) : ∀ x, (xs.foldl max x = x ∨ xs.foldl max x ∈ xs) ∧ x ≤ xs.foldl max x ∧ ∀ y ∈ xs, y ≤ xs.foldl max x := by
  induction xs with
  | nil => exact fun x => ⟨.inl rfl, Int.le_refl _, fun y h => nomatch h⟩
  | cons a as ih =>
    intro x
    obtain ⟨h1, h2, h3⟩ := ih (max x a)
    refine ⟨?_, by have := Int.le_max_left x a; exact Int.le_trans this h2, fun y hy => ?_⟩
    · rcases h1 with h | h
      · rcases Int.le_total x a with q | q
        · exact .inr (by rw [List.foldl_cons, h, Int.max_eq_right q]; exact List.mem_cons_self ..)
        · exact .inl (by rw [List.foldl_cons, h, Int.max_eq_left q])
      · exact .inr (List.mem_cons_of_mem _ h)
    · rcases List.mem_cons.mp hy with e | h
      · rw [e]
        exact Int.le_trans (Int.le_max_right x a) h2
      · exact h3 y h
theorem foldl_min (xs : List Int) : ∀ x, (xs.foldl min x = x ∨ xs.foldl min x ∈ xs) ∧ xs.foldl min x ≤ x ∧ ∀ y ∈ xs, xs.foldl min x ≤ y := by
  induction xs with
  | nil => exact fun x => ⟨.inl rfl, Int.le_refl _, fun y h => nomatch h⟩
  | cons a as ih =>
    intro x
    obtain ⟨h1, h2, h3⟩ := ih (min x a)
    refine ⟨?_, by have := Int.min_le_left x a; exact Int.le_trans h2 this, fun y hy => ?_⟩
    · rcases h1 with h | h
      · rcases Int.le_total x a with q | q
        · exact .inl (by rw [List.foldl_cons, h, Int.min_eq_left q])
        · exact .inr (by rw [List.foldl_cons, h, Int.min_eq_right q]; exact List.mem_cons_self ..)
      · exact .inr (List.mem_cons_of_mem _ h)
    · rcases List.mem_cons.mp hy with e | h
      · rw [e]
        exact Int.le_trans h2 (Int.min_le_right x a)
      · exact h3 y h
theorem mx_is {ns : List Int} {m : Int} (h : m ∈ ns) (hm : ∀ y, y ∈ ns → y ≤ m) : m = mxL ns := by
  cases ns with
  | nil => exact nomatch h
  | cons x xs =>
    obtain ⟨h1, h2, h3⟩ := foldl_max xs x
    have a : mxL (x :: xs) ≤ m := hm _ (by
      show xs.foldl max x ∈ x :: xs
      rcases h1 with e | e
      · rw [e]; exact List.mem_cons_self ..
      · exact List.mem_cons_of_mem _ e)
    have b : m ≤ mxL (x :: xs) := by
      rcases List.mem_cons.mp h with e | e
      · rw [e]; exact h2
      · exact h3 m e
    omega
theorem mn_is {ns : List Int} {m : Int} (h : m ∈ ns) (hm : ∀ y, y ∈ ns → m ≤ y) : m = mnL ns := by
  cases ns with
  | nil => exact nomatch h
  | cons x xs =>
    obtain ⟨h1, h2, h3⟩ := foldl_min xs x
    have a : m ≤ mnL (x :: xs) := hm _ (by
      show xs.foldl min x ∈ x :: xs
      rcases h1 with e | e
      · rw [e]; exact List.mem_cons_self ..
      · exact List.mem_cons_of_mem _ e)
    have b : mnL (x :: xs) ≤ m := by
      rcases List.mem_cons.mp h with e | e
      · rw [e]; exact h2
      · exact h3 m e
    omega
def rectB (cs : List (Int × Int)) : Bool := decide ((mxL (cs.map (·.1)) - mnL (cs.map (·.1)) + 1) * (mxL (cs.map (·.2)) - mnL (cs.map (·.2)) + 1) = (cs.length : Int))
/-- a list of new pairs -/
def Cells (H : Hp) (a : Addr) (cs : List (Int × Int)) : Prop := ∃ ps : List Addr, H a = some (.lst (ps.map V.ref)) ∧ ps.length = cs.length ∧ ∀ (i : Nat) (p : Addr) (c : Int × Int), ps[i]? = some p → cs[i]? = some c → H p = some (.tup [.int c.1, .int c.2])
theorem Cells.same {H H' : Hp} {a : Addr} {cs : List (Int × Int)} (h : Cells H a cs) (s : Same H H') : Cells H' a cs := by
  obtain ⟨ps, h1, h2, h3⟩ := h
  exact ⟨ps, s _ _ h1, h2, fun i p c e e' => s _ _ (h3 i p c e e')⟩
def okCs (cs : List (Int × Int)) : Prop := cs.length ≤ 1000 ∧ ∀ c ∈ cs, 0 ≤ c.1 ∧ c.1 ≤ 1000 ∧ 0 ≤ c.2 ∧ c.2 ≤ 1000
section
variable {P : Program} {w : World} {K : PySem.W.Frag} {mg : Str → Option Value} {base : Heap}
def spRect : Sp := fun vs H Q _ => ∃ (a : Addr) (cs : List (Int × Int)), vs = [.ref a] ∧ Cells H a cs ∧ cs ≠ [] ∧ okCs cs ∧ ∀ H', Same H H' → Q (.bl (rectB cs)) H'
theorem scRc : FnScope ["cells", "rows", "row", "column", "columns"] ["cells"] (defScope (top 22)) := ⟨rfl, rfl, rfl, by decide +kernel, rfl, by decide +kernel, by decide +kernel⟩
theorem bnd {ns : List Int} {m n : Int} (h : ∀ x ∈ ns, 0 ≤ x ∧ x ≤ 1000) (hm : m ∈ ns) (hn : n ∈ ns) : (m - n + 1).natAbs < 2 ^ 98 := by
  have := h m hm
  have := h n hn
  omega
theorem ok_rc {f : Addr} {fd : FuncData} (F : FnP K "is_rectangle" (top 22) f fd) (N : Nm mg) (hmax : mg "max" = none) (hmin : mg "min" = none) : FnOk P w K mg base CX0 1 f fd ["cells"] spRect := by
  refine F.ok scRc (fun vs H Q E h => ?_) (fun cdv A outer s H vs Q E hr h => ?_)
  · obtain ⟨a, cs, rfl, _⟩ := h
    rfl
  · obtain ⟨a, cs, rfl, hc, h0, ⟨h1, h2⟩, k⟩ := h
    refine ⟨_, PSs.nox (pss_cons (ps_setLc (i := 1) (own := [("row", 2), ("column", 3)]) (g := gTup K 2 (gCons (gName 2) (gCons (gName 3) gNil))) (tt := tYes) rfl scRc.nd rfl rfl (sw_true rfl rfl rfl (by decide +kernel)) (pi_list (pv 0)) (blkOk_by (own := [("row", 2), ("column", 3)]) (N := ["cells", "rows", "row", "column", "columns"]) (sc := defScope (top 22)) (by decide +kernel)) (fun _ _ _ _ _ => (pg_tup rfl (pgs_cons (pg_name (i := 2) scRc.nd rfl (Or.inl rfl)) (pgs_cons (pg_name (i := 3) scRc.nd rfl (Or.inl rfl)) pgs_nil)))) (fun _ _ _ _ _ => pts_nil) (fun _ _ _ _ _ => (pv 2)))
  (pss_cons (ps_setLc (i := 4) (own := [("row", 2), ("column", 3)]) (g := gTup K 2 (gCons (gName 2) (gCons (gName 3) gNil))) (tt := tYes) rfl scRc.nd rfl rfl (sw_true rfl rfl rfl (by decide +kernel)) (pi_list (pv 0)) (blkOk_by (own := [("row", 2), ("column", 3)]) (N := ["cells", "rows", "row", "column", "columns"]) (sc := defScope (top 22)) (by decide +kernel)) (fun _ _ _ _ _ => (pg_tup rfl (pgs_cons (pg_name (i := 2) scRc.nd rfl (Or.inl rfl)) (pgs_cons (pg_name (i := 3) scRc.nd rfl (Or.inl rfl)) pgs_nil)))) (fun _ _ _ _ _ => pts_nil) (fun _ _ _ _ _ => (pv 3)))
  (pss_one (ps_ret (pe_cmpR op_eq (pe_op op_mulW (pe_op op_add (pe_op op_sub (pe_callB (cr_max rfl) (by rfl) hmax (by decide +kernel) (pa_cons (pv 1) pa_nil)) (pe_callB (cr_min rfl) (by rfl) hmin (by decide +kernel) (pa_cons (pv 1) pa_nil))) pe_int) (pe_op op_add (pe_op op_sub (pe_callB (cr_max rfl) (by rfl) hmax (by decide +kernel) (pa_cons (pv 4) pa_nil)) (pe_callB (cr_min rfl) (by rfl) hmin (by decide +kernel) (pa_cons (pv 4) pa_nil))) pe_int)) (pe_callB call_len_seq (by rfl) N.len PySem.boot_len (pa_cons (pv 0) pa_nil)) (nomark _)))))), ?_⟩
    have l0 : 0 < cs.length := List.length_pos_iff.mpr h0
    have ln : ∀ (i : Nat) (g : Int × Int → Int), ((cs.take i).map fun c => V.int (g c)).length < sizeLine := fun i g => by
      rw [List.length_map, List.length_take]
      exact Nat.lt_of_le_of_lt (Nat.le_trans (Nat.min_le_right _ _) h1) (by decide)
    have ts : ∀ {i : Nat} {c : Int × Int} (g : Int × Int → V), cs[i]? = some c → (cs.take (i + 1)).map g = (cs.take i).map g ++ [g c] := fun g e => by
      rw [List.take_succ, e, List.map_append]
      rfl
    obtain ⟨ps, c1, c2, c3⟩ := hc
    have at_ : ∀ {i : Nat} {x : V}, (ps.map V.ref)[i]? = some x → ∃ p c, x = .ref p ∧ cs[i]? = some c ∧ H p = some (.tup [.int c.1, .int c.2]) := fun {i x} hi => by
      rw [List.getElem?_map] at hi
      cases hp : ps[i]? with
      | none =>
        rw [hp] at hi
        exact nomatch hi
      | some p =>
        rw [hp] at hi
        cases hi
        have hl := (List.getElem?_eq_some_iff.mp hp).1
        have hc : cs[i]? = some (cs[i]'(by omega)) := List.getElem?_eq_getElem _
        exact ⟨p, _, rfl, hc, c3 _ _ _ hp hc⟩
    refine ⟨_, rfl, a, rfl, ⟨_, SqL.of c1⟩, fun D nD => ?_⟩
    refine lc_list (K := K) (a := a) (xs := ps.map V.ref) (fun i H' => Same H H' ∧ H' D = some (.lst ((cs.take i).map fun c => V.int c.1))) ⟨same_upd nD, upd_same⟩ (fun i H' _ h => SqL.of (h.1 _ _ c1)) ?_ ?_
    · rintro i x H2 hi ⟨s2, hD⟩
      obtain ⟨p, c, rfl, ec, hp⟩ := at_ hi
      refine ⟨p, _, rfl, SqT.of (s2 _ _ hp), rfl, _, _, rfl, _, _, rfl, rfl, rfl, iteT (B := Same H H2 ∧ H2 D = some (.lst ((cs.take (i + 1)).map fun c => V.int c.1))) ?_⟩
      exact ⟨_, rfl, _, hD, ln _ _, same_upd' nD s2, by rw [upd_same, ts (fun c => V.int c.1) ec]⟩
    rintro H2 ⟨s2, hD⟩
    have lp : (ps.map V.ref).length = cs.length := by rw [List.length_map, c2]
    rw [lp, List.take_length] at hD
    refine ⟨_, rfl, a, rfl, ⟨_, SqL.of (s2 _ _ c1)⟩, fun D2 nD2 => ?_⟩
    refine lc_list (K := K) (a := a) (xs := ps.map V.ref) (fun i H' => Same H2 H' ∧ H' D2 = some (.lst ((cs.take i).map fun c => V.int c.2))) ⟨same_upd nD2, upd_same⟩ (fun i H' _ h => SqL.of (h.1 _ _ (s2 _ _ c1))) ?_ ?_
    · rintro i x H3 hi ⟨s3, hD2⟩
      obtain ⟨p, c, rfl, ec, hp⟩ := at_ hi
      refine ⟨p, _, rfl, SqT.of (s3 _ _ (s2 _ _ hp)), rfl, _, _, rfl, _, _, rfl, rfl, rfl, iteT (B := Same H2 H3 ∧ H3 D2 = some (.lst ((cs.take (i + 1)).map fun c => V.int c.2))) ?_⟩
      exact ⟨_, rfl, _, hD2, ln _ _, same_upd' nD2 s3, by rw [upd_same, ts (fun c => V.int c.2) ec]⟩
    rintro H3 ⟨s3, hD2⟩
    rw [lp, List.take_length] at hD2
    have hD3 := s3 _ _ hD
    have m1 : (cs.map fun c => V.int c.1) = (cs.map (·.1)).map V.int := by rw [List.map_map]; rfl
    have m2 : (cs.map fun c => V.int c.2) = (cs.map (·.2)).map V.int := by rw [List.map_map]; rfl
    rw [m1] at hD3
    rw [m2] at hD2
    have b1 : ∀ x ∈ cs.map (·.1), 0 ≤ x ∧ x ≤ 1000 := fun x hx => by
      obtain ⟨c, hc, rfl⟩ := List.mem_map.mp hx
      exact ⟨(h2 c hc).1, (h2 c hc).2.1⟩
    have b2 : ∀ x ∈ cs.map (·.2), 0 ≤ x ∧ x ≤ 1000 := fun x hx => by
      obtain ⟨c, hc, rfl⟩ := List.mem_map.mp hx
      exact ⟨(h2 c hc).2.2.1, (h2 c hc).2.2.2⟩
    have q1 : 0 < (cs.map (·.1)).length := by rw [List.length_map]; exact l0
    have q2 : 0 < (cs.map (·.2)).length := by rw [List.length_map]; exact l0
    refine ⟨_, rfl, D, _, rfl, SqL.of hD3, q1, fun m1 hm1 hx1 => ?_⟩
    refine ⟨_, rfl, D, _, rfl, SqL.of hD3, q1, fun n1 hn1 hy1 => ?_⟩
    refine ⟨_, _, rfl, rfl, _, _, rfl, rfl, ?_⟩
    refine ⟨_, rfl, D2, _, rfl, SqL.of hD2, q2, fun m2 hm2 hx2 => ?_⟩
    refine ⟨_, rfl, D2, _, rfl, SqL.of hD2, q2, fun n2 hn2 hy2 => ?_⟩
    refine ⟨_, _, rfl, rfl, _, _, rfl, rfl, ?_⟩
    refine ⟨_, _, rfl, rfl, wm (bnd b1 hm1 hn1) (bnd b2 hm2 hn2), ?_⟩
    refine ⟨_, rfl, a, _, rfl, .inl (SqL.of (s3 _ _ (s2 _ _ c1))), rfl, ?_⟩
    rw [mx_is hm1 hx1, mn_is hn1 hy1, mx_is hm2 hx2, mn_is hn2 hy2, lp]
    have q := k _ (s2.trans s3)
    rw [show rectB cs = decide (V.int ((mxL (cs.map (·.1)) - mnL (cs.map (·.1)) + 1) * (mxL (cs.map (·.2)) - mnL (cs.map (·.2)) + 1)) = V.int ((cs.length : Nat) : Int)) from decide_eq_decide.mpr ⟨fun h => by rw [h], fun h => by injection h⟩] at q
    exact q
end
end K5

set_option Elab.async false
set_option linter.all false
set_option maxRecDepth 100000
set_option maxHeartbeats 4000000
namespace K5
open PySem PySem.Spec PyProof.Rows L2
open K1 (FnP top Nm wm)
/-! ### fields of one name -/
def cellZ (z : Str) (b : Bool) : Str := if b then z else "."
def rowD (z : Str) (bs : List Bool) : PyData := .tuple (bs.map fun b => .str (cellZ z b))
def fldD (z : Str) (rows : List (List Bool)) : PyData := .tuple (rows.map (rowD z))
def rowCs (r : Nat) (bs : List Bool) (j : Nat) : List (Int × Int) := (List.range j).filterMap fun (c : Nat) => if bs[c]? = some true then some ((r : Int), (c : Int)) else none
def oneCs (r : Nat) : Option (List Bool) → List (Int × Int)
  | some bs => rowCs r bs bs.length
  | none => []
def allCs (rows : List (List Bool)) (i : Nat) : List (Int × Int) := (List.range i).flatMap fun (r : Nat) => oneCs r rows[r]?
theorem rowCs_succ {r j : Nat} {bs : List Bool} : rowCs r bs (j + 1) = rowCs r bs j ++ (if bs[j]? = some true then [((r : Int), (j : Int))] else []) := by
  unfold rowCs
  rw [List.range_succ, List.filterMap_append]
  congr 1
  by_cases h : bs[j]? = some true
  · rw [if_pos h, List.filterMap_cons]
    simp only [h, if_true, List.filterMap_nil]
  · rw [if_neg h, List.filterMap_cons]
    simp only [h, if_false, List.filterMap_nil]
theorem allCs_succ {i : Nat} {rows : List (List Bool)} {bs : List Bool} (h : rows[i]? = some bs) : allCs rows (i + 1) = allCs rows i ++ rowCs i bs bs.length := by
  unfold allCs
  rw [List.range_succ, List.flatMap_append, List.flatMap_cons, List.flatMap_nil, List.append_nil, h]
  rfl
/-- what the dict at D holds: cs under the one name z -/
def One (H0 H : Hp) (D : Addr) (z : Str) (cs : List (Int × Int)) : Prop := H0 D = none ∧ ((cs = [] ∧ H D = some (.dK [])) ∨ (cs ≠ [] ∧ ∃ a, a ≠ D ∧ H0 a = none ∧ H D = some (.dK [(.inr z, .ref a)]) ∧ Cells H a cs))
theorem One.same {H0 H H' : Hp} {D : Addr} {z : Str} {cs : List (Int × Int)} (h : One H0 H D z cs) (s : Same H H') : One H0 H' D z cs := by
  obtain ⟨h0, h | ⟨h1, a, h2, h3, h4, h5⟩⟩ := h
  · exact ⟨h0, .inl ⟨h.1, s _ _ h.2⟩⟩
  · exact ⟨h0, .inr ⟨h1, a, h2, h3, s _ _ h4, h5.same s⟩⟩
theorem upd_same' {H0 H : Hp} {p : Addr} {o : HO} (n : H0 p = none) (s : Same H0 H) : Same H0 (upd H p o) := fun b x e => by
  rw [upd_ne (ne_of_none e n)]
  exact s b x e
theorem none_of {H G : Hp} {q : Addr} (s : Same H G) (h : G q = none) : H q = none := by
  cases e : H q with
  | none => rfl
  | some o =>
    rw [s _ _ e] at h
    cases h
theorem Cells.push {H : Hp} {a p : Addr} {cs : List (Int × Int)} {ps : List Addr} {c : Int × Int} (h1 : H a = some (.lst (ps.map V.ref))) (h2 : ps.length = cs.length) (h3 : ∀ (i : Nat) (p : Addr) (c : Int × Int), ps[i]? = some p → cs[i]? = some c → H p = some (.tup [.int c.1, .int c.2]))
    (hp : H p = some (.tup [.int c.1, .int c.2])) : Cells (upd H a (.lst (ps.map V.ref ++ [.ref p]))) a (cs ++ [c]) := by
  have na : ∀ {q : Addr} {xs : List V}, H q = some (.tup xs) → q ≠ a := fun {q xs} e z => by
    rw [z, h1] at e
    cases e
  refine ⟨ps ++ [p], by rw [upd_same, List.map_append]; rfl, by rw [List.length_append, List.length_append, h2]; rfl, fun i q d e e' => ?_⟩
  by_cases hi : i < ps.length
  · rw [List.getElem?_append_left hi] at e
    rw [List.getElem?_append_left (by omega)] at e'
    have := h3 i q d e e'
    rw [upd_ne (na this)]
    exact this
  · rw [List.getElem?_append_right (by omega)] at e
    rw [List.getElem?_append_right (by omega)] at e'
    have hz : i - ps.length = 0 := by
      have := (List.getElem?_eq_some_iff.mp e).1
      rw [List.length_singleton] at this
      omega
    rw [hz] at e
    rw [show i - cs.length = 0 by omega] at e'
    cases e
    cases e'
    rw [upd_ne (na hp)]
    exact hp
section
variable {P : Program} {w : World} {K : PySem.W.Frag} {mg : Str → Option Value} {base : Heap}
def okRows (z : Str) (rows : List (List Bool)) : Prop := z ≠ "." ∧ rows.length ≤ 20 ∧ ∀ bs ∈ rows, bs.length ≤ 20
def spFC (K : PySem.W.Frag) : Sp := fun vs H Q _ => ∃ (v : V) (z : Str) (rows : List (List Bool)), vs = [v] ∧ Dp K H v (fldD z rows) ∧ okRows z rows ∧ ∀ H' D, Same H H' → One H H' D z (allCs rows rows.length) → Q (.ref D) H'
theorem scFC : FnScope ["fields", "cells", "row", "words", "column", "word"] ["fields"] (defScope (top 21)) := ⟨rfl, rfl, rfl, by decide +kernel, rfl, by decide +kernel, by decide +kernel⟩
theorem rowCs_len {r j : Nat} {bs : List Bool} : (rowCs r bs j).length ≤ j := by
  refine Nat.le_trans (List.length_filterMap_le _ _) ?_
  rw [List.length_range]
  exact Nat.le_refl _
theorem allCs_len {rows : List (List Bool)} (h : ∀ bs ∈ rows, bs.length ≤ 20) : ∀ i, i ≤ rows.length → (allCs rows i).length ≤ 20 * i
  | 0, _ => Nat.le_refl _
  | i + 1, hi => by
    have he : rows[i]? = some (rows[i]'hi) := List.getElem?_eq_getElem _
    rw [allCs_succ he, List.length_append]
    have := allCs_len h i (by omega)
    have := rowCs_len (r := i) (j := (rows[i]'hi).length) (bs := rows[i]'hi)
    have := h _ (List.getElem_mem hi)
    omega
theorem ok_fc {f : Addr} {fd : FuncData} {tk : Tok} (F : FnP K "field_cells" (top 21) f fd) (N : Nm mg) (gN : mg "NO_FIELD" = some (.str "." tk)) : FnOk P w K mg base CX0 1 f fd ["fields"] (spFC K) := by
  refine F.ok scFC (fun vs H Q E h => ?_) (fun cdv A outer s H vs Q E hr h => ?_)
  · obtain ⟨v, z, rows, rfl, _⟩ := h
    rfl
  · obtain ⟨v, z, rows, rfl, hd, ⟨hz, hn, hb⟩, k⟩ := h
    refine ⟨_, PSs.nox (pss_cons (ps_set (i := 1) scFC.nd rfl (Or.inl rfl) pe_dnewK)
  (pss_cons (ps_for PassesOwn.never rfl (pi_enumT (by rfl) N.enu (pa_cons (pv 0) pa_nil))
    (pg_tup rfl (pgs_cons (pg_name (i := 2) scFC.nd rfl (Or.inl rfl)) (pgs_cons (pg_name (i := 3) scFC.nd rfl (Or.inl rfl)) pgs_nil)))
    (pss_one (ps_for PassesOwn.never rfl (pi_enumT (by rfl) N.enu (pa_cons (pv 3) pa_nil))
    (pg_tup rfl (pgs_cons (pg_name (i := 4) scFC.nd rfl (Or.inl rfl)) (pgs_cons (pg_name (i := 5) scFC.nd rfl (Or.inl rfl)) pgs_nil)))
    (pss_one (ps_if (pt_cmpR op_ne (pv 5) (pe_glob (by rfl) gN (v := .str ".") ⟨_, rfl⟩) (nomark _))
    (pss_one (ps_expr (pe_bm PySem.F.plainAttrs_list PySem.F.slot_list_append PySem.F.type_list_append mt_append (pe_dsetd (pv 1) (pv 5) (pe_lst pa_nil) ⟨rfl, rfl, rfl, rfl⟩) (pa_cons (pe_tup (pa_cons (pv 2) (pa_cons (pv 4) pa_nil))) pa_nil))))
    pss_nil)))))
  (pss_one (ps_ret (pv 1))))), ?_⟩
    cases hd with
    | @tup p xs _ ht hx =>
      have lx : xs.length = rows.length := by rw [dpLen hx, List.length_map]
      refine fun D nD => ?_
      have s0 := same_upd (o := .dK []) nD
      refine ⟨_, rfl, p, xs, rfl, Same.seqT s0 ht, for_enumT (K := K) (a := p) (xs := xs) (fun i σ H' => Same H H' ∧ One H H' D z (allCs rows i) ∧ ∃ v1 v2 v3 v4, σ = [some (.ref p), some (.ref D), v1, v2, v3, v4]) ⟨s0, ⟨nD, .inl ⟨rfl, upd_same⟩⟩, _, _, _, _, rfl⟩ (fun i σ H' _ h => Same.seqT h.1 ht) ?_ ?_⟩
      · rintro i x T σ H1 hi ⟨s1, o1, v1, v2, v3, v4, rfl⟩ nT
        have hi' := (List.getElem?_eq_some_iff.mp hi).1
        have he : rows[i]? = some (rows[i]'(by omega)) := List.getElem?_eq_getElem _
        generalize rows[i]'(by omega) = bs at he
        have hbs : bs.length ≤ 20 := hb bs (List.mem_of_getElem? he)
        obtain ⟨u, eu, hu⟩ := dpAt i hx (show (rows.map (rowD z))[i]? = some (rowD z bs) by rw [List.getElem?_map, he]; rfl)
        rw [hi] at eu
        cases eu
        cases hu with
        | @tup r ys _ hr hy =>
          have ly : ys.length = bs.length := by rw [dpLen hy, List.length_map]
          refine ⟨T, _, rfl, SqT.of upd_same, rfl, _, _, rfl, _, _, rfl, rfl, ?_⟩
          have sT := same_upd (o := .tup [.int (i : Nat), .ref r]) nT
          have s2 := s1.trans sT
          refine ⟨_, rfl, r, ys, rfl, Same.seqT s2 hr, for_enumT (K := K) (a := r) (xs := ys) (fun j σ H' => Same H H' ∧ One H H' D z (allCs rows i ++ rowCs i bs j) ∧ ∃ v3 v4, σ = [some (.ref p), some (.ref D), some (.int (i : Nat)), some (.ref r), v3, v4]) ⟨s2, by
              rw [show rowCs i bs 0 = [] from rfl, List.append_nil]
              exact o1.same sT, _, _, rfl⟩ (fun j σ H' _ h => Same.seqT h.1 hr) ?_ ?_⟩
          · rintro j y T2 σ H2 hj ⟨s3, o3, v3, v4, rfl⟩ nT2
            have hj' := (List.getElem?_eq_some_iff.mp hj).1
            have hc : bs[j]? = some (bs[j]'(by omega)) := List.getElem?_eq_getElem _
            generalize bs[j]'(by omega) = b at hc
            obtain ⟨u, eu, hu⟩ := dpAt j hy (show (bs.map fun b => PyData.str (cellZ z b))[j]? = some (.str (cellZ z b)) by rw [List.getElem?_map, hc]; rfl)
            rw [hj] at eu
            cases eu
            cases hu
            refine ⟨T2, _, rfl, SqT.of upd_same, rfl, _, _, rfl, _, _, rfl, rfl, ?_⟩
            have sT2 := same_upd (o := .tup [.int (j : Nat), V.str (cellZ z b)]) nT2
            have s4 := s3.trans sT2
            have o4 := o3.same sT2
            cases b with
            | false =>
              refine ⟨_, rfl, rfl, false, rfl, iteF ⟨s4, ?_, _, _, rfl⟩⟩
              rw [rowCs_succ, if_neg (by rw [hc]; intro e; cases e), List.append_nil]
              exact o4
            | true =>
              refine ⟨_, rfl, rfl, true, by show V.bl (!decide (V.str z = V.str ".")) = _; rw [decide_eq_false (fun e => hz (by injection e))]; rfl, iteT ?_⟩
              have eR : allCs rows i ++ rowCs i bs (j + 1) = (allCs rows i ++ rowCs i bs j) ++ [((i : Int), (j : Int))] := by
                rw [rowCs_succ, if_pos hc, List.append_assoc]
              have isd : IsD (upd H2 T2 (.tup [.int (j : Nat), V.str (cellZ z true)])) D := by
                obtain ⟨_, ⟨_, h⟩ | ⟨_, _, _, _, h, _⟩⟩ := o4
                · exact .inl ⟨_, .inl h⟩
                · exact .inl ⟨_, .inl h⟩
              generalize hG : upd H2 T2 (.tup [.int (j : Nat), V.str (cellZ z true)]) = G at s4 o4 isd
              refine ⟨_, rfl, D, rfl, isd, _, rfl, (by show 0 ≤ sizeLine; decide), fun q nq => ?_⟩
              have sq := same_upd (o := .lst []) nq
              obtain ⟨d0, ⟨e0, hD⟩ | ⟨ne, a, ha, ha0, hD, ps, c1, c2, c3⟩⟩ := o4
              · refine ⟨[], .inr z, sq _ _ hD, rfl, by decide, fun v hv => (by rw [show valV [] (Sum.inr z : Key) = none from rfl] at hv; cases hv), fun _ => ?_⟩
                have hqD : q ≠ D := fun e => by
                  rw [e, hD] at nq
                  cases nq
                have gq : upd (upd G q (.lst [])) D (.dK (putK [] (.inr z) (.ref q))) q = some (.lst []) := by rw [upd_ne hqD, upd_same]
                refine ⟨.inl ⟨rfl, _, SqL.of gq⟩, _, rfl, _, rfl, (by show 2 ≤ sizeLine; decide), fun p2 np2 => ⟨q, [], _, rfl, rfl, same_upd np2 _ _ gq, by decide, ?_⟩⟩
                have t1 := upd_same' (o := .lst []) (none_of s4 nq) s4
                have t2 := upd_same' (o := .dK (putK [] (.inr z) (.ref q))) d0 t1
                have t3 := upd_same' (o := .tup [.int (i : Nat), .int (j : Nat)]) (none_of t2 np2) t2
                have t4 := upd_same' (o := .lst ([] ++ [.ref p2])) (none_of s4 nq) t3
                have hp2q : p2 ≠ q := fun e => by
                  rw [e, gq] at np2
                  cases np2
                have hp2D : D ≠ p2 := fun e => by
                  rw [← e, upd_same] at np2
                  cases np2
                refine ⟨t4, ?_, _, _, rfl⟩
                rw [eR, e0, List.nil_append]
                refine ⟨d0, .inr ⟨List.cons_ne_nil _ _, q, hqD, none_of s4 nq, by rw [upd_ne (Ne.symm hqD), upd_ne hp2D, upd_same]; rfl, ?_⟩⟩
                exact Cells.push (ps := []) (cs := []) (c := ((i : Int), (j : Int))) (by rw [upd_ne (Ne.symm hp2q)]; exact gq) rfl (fun i p c e => nomatch e) upd_same
              · refine ⟨_, .inr z, sq _ _ hD, rfl, by show 1 < sizeLine; decide, fun v hv => ?_, fun hv => ?_⟩
                · have ev : v = .ref a := by
                    have : valV [((Sum.inr z : Key), V.ref a)] (.inr z) = some (.ref a) := by simp [valV]
                    rw [this] at hv
                    cases hv
                    rfl
                  subst ev
                  have g1 := sq _ _ c1
                  refine ⟨.inl ⟨rfl, _, SqL.of g1⟩, _, rfl, _, rfl, (by show 2 ≤ sizeLine; decide), fun p2 np2 => ⟨a, _, _, rfl, rfl, same_upd np2 _ _ g1, ?_, ?_⟩⟩
                  · rw [List.length_map, c2]
                    have := allCs_len hb i (by omega)
                    have := rowCs_len (r := i) (j := j) (bs := bs)
                    rw [List.length_append]
                    exact Nat.lt_of_lt_of_le (m := 1000) (by omega) (by decide)
                  have t1 := upd_same' (o := .lst []) (none_of s4 nq) s4
                  have t2 := upd_same' (o := .tup [.int (i : Nat), .int (j : Nat)]) (none_of t1 np2) t1
                  have t3 := upd_same' (o := .lst (ps.map V.ref ++ [.ref p2])) ha0 t2
                  have g2 := same_upd (o := .tup [.int (i : Nat), .int (j : Nat)]) np2 _ _ g1
                  have gD := same_upd (o := .tup [.int (i : Nat), .int (j : Nat)]) np2 _ _ (sq _ _ hD)
                  refine ⟨t3, ?_, _, _, rfl⟩
                  rw [eR]
                  refine ⟨d0, .inr ⟨by simp, a, ha, ha0, by rw [upd_ne (Ne.symm ha)]; exact gD, ?_⟩⟩
                  exact Cells.push (c := ((i : Int), (j : Int))) g2 c2 (fun i p c e e' => same_upd np2 _ _ (sq _ _ (c3 i p c e e'))) upd_same
                · have : valV [((Sum.inr z : Key), V.ref a)] (.inr z) = some (.ref a) := by simp [valV]
                  rw [this] at hv
                  cases hv
          · rintro σ H2 ⟨s3, o3, v3, v4, rfl⟩
            rw [ly] at o3
            exact ⟨s3, by rw [allCs_succ he]; exact o3, _, _, _, _, rfl⟩
      · rintro σ H1 ⟨s1, o1, v1, v2, v3, v4, rfl⟩
        rw [lx] at o1
        exact ⟨_, rfl, k _ _ s1 o1⟩
end
end K5

set_option Elab.async false
set_option linter.all false
set_option maxRecDepth 100000
set_option maxHeartbeats 4000000
namespace L2
open PySem PySem.Spec PyProof.Rows
theorem u1 {k : Nat} {A : Around} (r : Room k A) : A.units + 1 < cLine := by have := r.units; omega
/-- a dict comprehension over it: Pv by the turn and the heap (the new dict at D within) -/
theorem dc_it {J : It} {n : Nat} {G : Hp → Prop} {Y : Nat → Hp → V → Hp → Prop} (w : Walk J n G Y) {g : TG} {tt : TT} {tk tv : TE} {vs : List Nat} {σ : St} {H1 : Hp} {D : Addr} {Qd : Hp → Prop} (Pv : Nat → Hp → Prop) (h0 : Pv 0 (upd H1 D (.dK []))) (hG : ∀ i H, i ≤ n → Pv i H → G H)
    (hs : ∀ i x H H', i < n → Pv i H → Y i H x H' → g x (wipe σ vs) H' fun σ2 H2 => wipe σ2 vs = wipe σ vs ∧ tt σ2 H2 fun b H3 =>
      if b = true then tk σ2 H3 fun y H4 => tv σ2 H4 fun z H5 => ∃ kvs k, y = kV k ∧ H5 D = some (.dK kvs) ∧ kvs.length < sizeLine ∧ Pv (i + 1) (upd H5 D (.dK (putK kvs k z))) else Pv (i + 1) H3) (hd : ∀ H, Pv n H → Qd H) :
    ∃ W : Nat → Nat → Hp → Prop, (∃ m, W 0 m (upd H1 D (.dK []))) ∧ ∀ i m H, W i m H →
      (J.stop i H ∧ Qd H) ∨ (J.go i H ∧ ∃ Nx : Hp → Prop, (∀ H', Nx H' → ∃ m', m' < m ∧ W (i + 1) m' H') ∧ ∀ x H', J.yld i H x H' → g x (wipe σ vs) H' fun σ2 H2 => wipe σ2 vs = wipe σ vs ∧ tt σ2 H2 fun b H3 =>
        if b = true then tk σ2 H3 fun y H4 => tv σ2 H4 fun z H5 => ∃ kvs k, y = kV k ∧ H5 D = some (.dK kvs) ∧ kvs.length < sizeLine ∧ Nx (upd H5 D (.dK (putK kvs k z))) else Nx H3) := by
  refine ⟨fun i m H => m = n - i ∧ i ≤ n ∧ Pv i H, ⟨n, by simp, Nat.zero_le _, h0⟩, ?_⟩
  rintro i m H ⟨rfl, hi, p⟩
  have q := hG i H hi p
  by_cases hlt : i < n
  · refine .inr ⟨w.goes i H hlt q, Pv (i + 1), fun H' p' => ⟨n - (i + 1), by omega, rfl, hlt, p'⟩, fun x H' y => hs i x H H' hlt p (w.yields i H x H' hlt q y)⟩
  · have e : i = n := by omega
    subst e
    exact .inl ⟨w.stops H q, hd H p⟩
end L2
namespace K5
open PySem PySem.Spec PyProof.Rows L2
open K1 (FnP top Nm wm)
def okFld (z : Str) (rows : List (List Bool)) : Prop := nameB z = true ∧ okRows z rows ∧ (∃ n, 1 ≤ n ∧ ∀ bs ∈ rows, bs.length = n) ∧ (allCs rows rows.length = [] ∨ rectB (allCs rows rows.length) = true)
theorem allCs_mem {rows : List (List Bool)} {i : Nat} (h : ∀ bs ∈ rows, bs.length ≤ 20) (hi : i ≤ 20) {c : Int × Int} (hc : c ∈ allCs rows i) : 0 ≤ c.1 ∧ c.1 ≤ 1000 ∧ 0 ≤ c.2 ∧ c.2 ≤ 1000 := by
  obtain ⟨r, hr, hcr⟩ := List.mem_flatMap.mp hc
  have hr := List.mem_range.mp hr
  cases hb : rows[r]? with
  | none =>
    rw [hb] at hcr
    exact nomatch hcr
  | some bs =>
    rw [hb] at hcr
    have l := h bs (List.mem_of_getElem? hb)
    obtain ⟨j, hj, e⟩ := List.mem_filterMap.mp hcr
    have hj := List.mem_range.mp hj
    split at e
    · cases e
      refine ⟨?_, ?_, ?_, ?_⟩ <;> (show (_ : Int) ≤ _) <;> simp only [] <;> omega
    · exact nomatch e
theorem same_lock {H H2 H' : Hp} {D : Addr} {u v : HO} (s : Same H H2) (d : H D = none) (t : Same (upd H2 D u) H') : Same H (upd H' D v) := fun b x e => by
  have hb : b ≠ D := ne_of_none e d
  rw [upd_ne hb]
  exact t b x (by rw [upd_ne hb]; exact s b x e)
section
variable {P : Program} {w : World} {K : PySem.W.Frag} {mg : Str → Option Value} {base : Heap}
def spWF (K : PySem.W.Frag) : Sp := fun vs H Q _ => ∃ (v : V) (z : Str) (rows : List (List Bool)), vs = [v] ∧ Dp K H v (fldD z rows) ∧ okFld z rows ∧ ∀ H', Same H H' → Q .non H'
theorem scWF : FnScope ["fields", "index", "row", "cells", "wrong", "name", "word"] ["fields"] (defScope (top 23)) := ⟨rfl, rfl, rfl, by decide +kernel, rfl, by decide +kernel, by decide +kernel⟩
theorem ok_wf {f f1 f2 f3 : Addr} {fd d1 d2 d3 : FuncData} {tk : Tok} (F : FnP K "wrong_field_row" (top 23) f fd) (N : Nm mg) (hany : mg "any" = none) (gM : mg "MOST_FIELD_ROWS" = some (.int 20 tk)) (d_is_field_row : D1 P w K mg base "is_field_row" "value" 3 (spQ K okNs isFRow) f1 d1)
    (d_field_cells : D1 P w K mg base "field_cells" "fields" 1 (spFC K) f2 d2) (d_is_rectangle : D1 P w K mg base "is_rectangle" "cells" 1 spRect f3 d3) : FnOk P w K mg base CX0 4 f fd ["fields"] (spWF K) := by
  refine F.ok scWF (fun vs H Q E h => ?_) (fun cdv A outer s H vs Q E hr h => ?_)
  · obtain ⟨v, z, rows, rfl, _⟩ := h
    rfl
  · obtain ⟨v, z, rows, rfl, hd, ⟨hz, ok, ⟨n, n1, hn⟩, hc⟩, k⟩ := h
    refine ⟨_, PSs.nox (pss_cons (ps_if (PW.pt (pw_or (pt_not (pt_val (pe_callB call_isi (by rfl) N.isi (by decide +kernel) (pa_cons (pv 0) (pa_cons (pe_bltn (v := .ty "tuple") (u := .type "tuple") (by rfl) N.ttup (by decide +kernel) rfl) pa_nil))))) (pw_or1 (pt_cmpR op_gt (pe_callB call_len_seq (by rfl) N.len PySem.boot_len (pa_cons (pv 0) pa_nil)) (pe_glob (by rfl) gM (v := .int 20) ⟨_, rfl⟩) (nomark _)))))
    (pss_one (ps_ret (pe_un un_neg pe_int)))
    pss_nil)
  (pss_cons (ps_for PassesOwn.never rfl (pi_enumT (by rfl) N.enu (pa_cons (pv 0) pa_nil))
    (pg_tup rfl (pgs_cons (pg_name (i := 1) scWF.nd rfl (Or.inl rfl)) (pgs_cons (pg_name (i := 2) scWF.nd rfl (Or.inl rfl)) pgs_nil)))
    (pss_one (ps_if (PW.pt (pw_or (pt_not (pt_val (pe_call d_is_field_row.G (hr.mono (by decide)) (by rfl) d_is_field_row.g d_is_field_row.kp d_is_field_row.b .nil pass0 (pa_cons (pv 2) pa_nil)))) (pw_or1 (pt_cmpR op_ne (pe_callB call_len_seq (by rfl) N.len PySem.boot_len (pa_cons (pv 2) pa_nil)) (pe_callB call_len_seq (by rfl) N.len PySem.boot_len (pa_cons (pe_ix ix_tup (pv 0) pe_int (fun _ _ => rfl)) pa_nil)) (nomark _)))))
    (pss_one (ps_ret (pv 1)))
    pss_nil)))
  (pss_cons (ps_set (i := 3) scWF.nd rfl (Or.inr rfl) (pe_call d_field_cells.G (hr.mono (by decide)) (by rfl) d_field_cells.g d_field_cells.kp d_field_cells.b .nil pass0 (pa_cons (pv 0) pa_nil)))
  (pss_cons (ps_lock (ps_set (i := 4) scWF.nd rfl (Or.inr rfl) (pe_dc (own := [("name", 5)]) (g := gName 5) rfl scWF.nd (pi_keys (pv 3)) (blkOk_by (own := [("name", 5)]) (N := ["fields", "index", "row", "cells", "wrong", "name", "word"]) (sc := defScope (top 23)) (by decide +kernel)) (fun _ _ _ _ _ => (pg_name (i := 5) scWF.nd rfl (Or.inl rfl))) (fun _ _ _ _ _ => pts_one (pt_not (pt_val (pe_call d_is_rectangle.G (hr.mono (by decide)) (by rfl) d_is_rectangle.g d_is_rectangle.kp d_is_rectangle.b .nil pass0 (pa_cons (pe_dget (u1 hr) (pv 3) (pv 5) (fun _ _ => rfl)) pa_nil))))) (fun _ _ _ _ _ => (pv 5)) (fun _ _ _ _ _ => pe_bl))))
  (pss_cons (ps_for PassesOwn.never rfl (pi_enumT (by rfl) N.enu (pa_cons (pv 0) pa_nil))
    (pg_tup rfl (pgs_cons (pg_name (i := 1) scWF.nd rfl (Or.inl rfl)) (pgs_cons (pg_name (i := 2) scWF.nd rfl (Or.inl rfl)) pgs_nil)))
    (pss_one (ps_if (pt_val (pe_callB (cr_any rfl) (by rfl) hany (by decide +kernel) (pa_cons (pe_lc (own := [("word", 6)]) (g := gName 6) (tt := tYes) rfl scWF.nd (pi_tup (pv 2)) (blkOk_by (own := [("word", 6)]) (N := ["fields", "index", "row", "cells", "wrong", "name", "word"]) (sc := defScope (top 23)) (by decide +kernel)) (fun _ _ _ _ _ => (pg_name (i := 6) scWF.nd rfl (Or.inl rfl))) (fun _ _ _ _ _ => pts_nil) (fun _ _ _ _ _ => (pe_cmp (pc_din (u1 hr) (pv 6) (pv 4)) rfl))) pa_nil)))
    (pss_one (ps_ret (pv 1)))
    pss_nil)))
  (pss_one (ps_ret pe_non))))))), ?_⟩
    have okR : ∀ bs ∈ rows, isFRow (rowD z bs) = true ∧ okNs (rowD z bs) := fun bs hb => by
      have l1 := hn bs hb
      have l2 := ok.2.2 bs hb
      have hzl : z.cps.size ≤ 16 := by
        unfold nameB at hz
        simp only [Bool.and_eq_true, decide_eq_true_eq] at hz
        exact hz.2.1
      refine ⟨?_, ?_⟩
      · show (decide (1 ≤ (bs.map fun b => PyData.str (cellZ z b)).length) && (decide ((bs.map fun b => PyData.str (cellZ z b)).length ≤ 20) && (bs.map fun b => PyData.str (cellZ z b)).all isFW)) = true
        rw [List.length_map, decide_eq_true (by omega : 1 ≤ bs.length), decide_eq_true l2, Bool.true_and, Bool.true_and, List.all_map, List.all_eq_true]
        intro b _
        cases b with
        | true =>
          show (isName (.str z) || isDot (.str z)) = true
          rw [show isName (.str z) = nameB z from rfl, hz, Bool.true_or]
        | false =>
          show (isName (.str ".") || isDot (.str ".")) = true
          rw [show isDot (.str ".") = true by decide, Bool.or_true]
      · rintro ds e
        have e : PyData.tuple (bs.map fun b => PyData.str (cellZ z b)) = .tuple ds := e
        injection e with e
        subst e
        refine ⟨by rw [List.length_map]; omega, fun x hx y ey => ?_⟩
        obtain ⟨b, _, rfl⟩ := List.mem_map.mp hx
        injection ey with ey
        subst ey
        cases b with
        | true => exact Nat.le_trans hzl (by decide)
        | false => show ("." : Str).cps.size ≤ 1000; decide
    cases hd with
    | @tup p xs _ ht hx =>
      have lx : xs.length = rows.length := by rw [dpLen hx, List.length_map]
      have l20 := ok.2.1
      have rowAt : ∀ {i : Nat} {x : V}, xs[i]? = some x → ∃ bs, rows[i]? = some bs ∧ bs ∈ rows ∧ Dp K H x (rowD z bs) := fun {i x} hi => by
        have hi' := (List.getElem?_eq_some_iff.mp hi).1
        have he : rows[i]? = some (rows[i]'(by omega)) := List.getElem?_eq_getElem _
        obtain ⟨u, eu, hu⟩ := dpAt i hx (show (rows.map (rowD z))[i]? = some (rowD z (rows[i]'(by omega))) by rw [List.getElem?_map, he]; rfl)
        rw [hi] at eu
        cases eu
        exact ⟨_, he, List.getElem_mem _, hu⟩
      refine ⟨_, rfl, _, _, _, _, true, rfl, .ty _, tyT ht, kit_ty (by decide +kernel), true, rfl, iteF ?_⟩
      refine ⟨_, rfl, p, _, rfl, .inr ht, _, _, rfl, rfl, _, rfl, ite2 (fun c => absurd (of_decide_eq_true c) (by omega)) (fun _ => ?_)⟩
      refine ⟨_, rfl, p, xs, rfl, ht, for_enumT (K := K) (a := p) (xs := xs) (fun i σ H' => Same H H' ∧ ∃ v1 v2 v3 v4 v5 v6, σ = [some (.ref p), v1, v2, v3, v4, v5, v6]) ⟨Same.refl H, _, _, _, _, _, _, rfl⟩ (fun i σ H' _ h => Same.seqT h.1 ht) ?_ ?_⟩
      · rintro i x T σ H1 hi ⟨s1, v1, v2, v3, v4, v5, v6, rfl⟩ nT
        obtain ⟨bs, eb, mb, hu⟩ := rowAt hi
        obtain ⟨o1, o2⟩ := okR bs mb
        have hx0 : 0 < xs.length := by
          have := (List.getElem?_eq_some_iff.mp hi).1
          omega
        obtain ⟨b0, eb0, mb0, hu0⟩ := rowAt (List.getElem?_eq_getElem hx0)
        generalize hx00 : xs[0] = x0 at hu0
        have ex0 : xs[0]? = some x0 := by rw [← hx00]; exact List.getElem?_eq_getElem hx0
        have s2 := s1.trans (same_upd (o := .tup [.int (i : Nat), x]) nT)
        refine ⟨T, _, rfl, SqT.of upd_same, rfl, _, _, rfl, _, _, rfl, rfl, ?_⟩
        refine ⟨_, rfl, x, rowD z bs, rfl, dpS s2 hu, o2, fun H2 s3 => ⟨_, rfl, ite2 (fun c => absurd c (by rw [o1]; decide)) (fun c => ?_)⟩⟩
        have s23 := s2.trans s3
        clear s3 s2
        cases hu with
        | @tup r ys _ hr hy =>
          cases hu0 with
          | @tup r0 ys0 _ hr0 hy0 =>
            have e1 : ys.length = n := by rw [dpLen hy, List.length_map, hn bs mb]
            have e2 : ys0.length = n := by rw [dpLen hy0, List.length_map, hn b0 mb0]
            refine ⟨_, rfl, r, _, rfl, .inr (Same.seqT s23 hr), _, rfl, p, _, _, _, rfl, rfl, Same.seqT s23 ht, atI_nat (j := 0) ex0, r0, _, rfl, .inr (Same.seqT s23 hr0), rfl, false, ?_, iteF ⟨s23, _, _, _, _, _, _, rfl⟩⟩
            show V.bl (!decide (V.int ((ys.length : Nat) : Int) = V.int ((ys0.length : Nat) : Int))) = V.bl false
            rw [e1, e2, decide_eq_true rfl]
            rfl
      rintro σ H1 ⟨s1, v1, v2, v3, v4, v5, v6, rfl⟩
      refine ⟨_, rfl, .ref p, z, rows, rfl, dpS s1 (.tup ht hx), ok, fun H2 D s2 o2 => ?_⟩
      have s02 := s1.trans s2
      have hD : ∃ kvs, H2 D = some (.dK kvs) ∧ (kvs = [] ∨ ∃ a, a ≠ D ∧ kvs = [(.inr z, .ref a)] ∧ allCs rows rows.length ≠ [] ∧ Cells H2 a (allCs rows rows.length)) := by
        obtain ⟨_, ⟨_, h⟩ | ⟨h1, a, h2, _, h3, h4⟩⟩ := o2
        · exact ⟨_, h, .inl rfl⟩
        · exact ⟨_, h3, .inr ⟨a, h2, rfl, h1, h4⟩⟩
      have d0 : H D = none := none_of s1 o2.1
      obtain ⟨kvs, hD, hk⟩ := hD
      refine ⟨D, _, hD, trivial, fun od => ?_⟩
      refine ⟨_, rfl, D, od, rfl, .inl ⟨kvs, upd_same, fun W nW => ?_⟩⟩
      have hWD : W ≠ D := fun e => by
        rw [e, upd_same] at nW
        cases nW
      have hDG : upd H2 D (.frz od (.dK kvs)) D = some (.frz od (.dK kvs)) := upd_same
      have hkG : ∀ a, a ≠ D → kvs = [(.inr z, .ref a)] → Cells H2 a (allCs rows rows.length) → Cells (upd H2 D (.frz od (.dK kvs))) a (allCs rows rows.length) := fun a ha e ⟨ps, c1, c2, c3⟩ => by
        refine ⟨ps, by rw [upd_ne ha]; exact c1, c2, fun i p c e1 e2 => ?_⟩
        have := c3 i p c e1 e2
        have hp : p ≠ D := fun e => by
          rw [e, hD] at this
          cases this
        rw [upd_ne hp]
        exact this
      refine dc_it (walk_keys (d := D) (o := od) (kvs := kvs)) (fun i H' => Same (upd H2 D (.frz od (.dK kvs))) H' ∧ H' W = some (.dK [])) ⟨same_upd nW, upd_same⟩ (fun i H' _ h => h.1 _ _ hDG) ?_ ?_
      · rintro i x H3 H4 hi ⟨s3, hW⟩ ⟨rfl, ky, v, ek, rfl⟩
        rcases hk with rfl | ⟨a, ha, rfl, hne, hcs⟩
        · exact absurd hi (Nat.not_lt_zero _)
        have i0 : i = 0 := by
          have : i < 1 := hi
          omega
        subst i0
        cases ek
        have hb : rectB (allCs rows rows.length) = true := hc.resolve_left hne
        refine ⟨rfl, _, rfl, _, rfl, D, .ref a, rfl, .inl ⟨_, .inr z, .inr ⟨od, s3 _ _ hDG⟩, rfl, by simp [valV]⟩, ?_⟩
        refine ⟨a, _, rfl, (hkG a ha rfl hcs).same s3, hne, ⟨Nat.le_trans (allCs_len ok.2.2 _ (Nat.le_refl _)) (by omega), fun c hc => allCs_mem ok.2.2 l20 hc⟩, fun H5 s5 => ⟨_, rfl, ?_⟩⟩
        rw [hb]
        exact iteF ⟨s3.trans s5, s5 _ _ hW⟩
      rintro H3 ⟨s3, hW⟩
      refine ⟨s3 _ _ hDG, ?_⟩
      have s4 : Same H (upd H3 D (.dK kvs)) := same_lock s02 d0 s3
      have hW4 : upd H3 D (.dK kvs) W = some (.dK []) := by rw [upd_ne hWD]; exact hW
      generalize upd H3 D (.dK kvs) = H4 at s4 hW4
      refine ⟨_, rfl, p, xs, rfl, Same.seqT s4 ht, for_enumT (K := K) (a := p) (xs := xs) (fun i σ H' => (Same H H' ∧ H' W = some (.dK [])) ∧ ∃ v1 v2 v3 v5 v6, σ = [some (.ref p), v1, v2, v3, some (.ref W), v5, v6]) ⟨⟨s4, hW4⟩, _, _, _, _, _, rfl⟩ (fun i σ H' _ h => Same.seqT h.1.1 ht) ?_ ?_⟩
      · rintro i x T σ H5 hi ⟨⟨s5, hW5⟩, v1, v2, v3, v5, v6, rfl⟩ nT
        obtain ⟨bs, eb, mb, hu⟩ := rowAt hi
        cases hu with
        | @tup r ys _ hr hy =>
          have ly : ys.length = n := by rw [dpLen hy, List.length_map, hn bs mb]
          have n20 : n ≤ 20 := by
            rw [← hn bs mb]
            exact ok.2.2 bs mb
          have sT := same_upd (o := .tup [.int (i : Nat), .ref r]) nT
          have s6 := s5.trans sT
          refine ⟨T, _, rfl, SqT.of upd_same, rfl, _, _, rfl, _, _, rfl, rfl, ?_⟩
          refine ⟨_, rfl, r, rfl, ⟨ys, Same.seqT s6 hr⟩, fun L nL => ?_⟩
          refine lc_tup (K := K) (a := r) (xs := ys) (fun j H' => (Same H H' ∧ H' W = some (.dK [])) ∧ H' L = some (.lst ((List.replicate j false).map V.bl))) ⟨⟨same_upd' (none_of s6 nL) s6, same_upd nL _ _ (sT _ _ hW5)⟩, upd_same⟩ (fun j H' _ h => Same.seqT h.1.1 hr) ?_ ?_
          · rintro j y H6 hj ⟨⟨s7, hW6⟩, hL⟩
            have hj' := (List.getElem?_eq_some_iff.mp hj).1
            obtain ⟨u, eu, hu⟩ := dpAt j hy (show (bs.map fun b => PyData.str (cellZ z b))[j]? = some (.str (cellZ z (bs[j]'(by rw [hn bs mb]; omega)))) by rw [List.getElem?_map, List.getElem?_eq_getElem]; rfl)
            rw [hj] at eu
            cases eu
            cases hu
            refine ⟨rfl, iteT (B := (Same H H6 ∧ H6 W = some (.dK [])) ∧ H6 L = some (.lst ((List.replicate (j + 1) false).map V.bl))) ?_⟩
            refine ⟨_, rfl, _, rfl, W, none, rfl, .inl ⟨[], .inr _, .inl hW6, rfl, rfl⟩, _, hL, ?_, ⟨same_upd' (none_of s6 nL) s7, ?_⟩, ?_⟩
            · rw [List.length_map, List.length_replicate]
              exact Nat.lt_of_lt_of_le (m := 1000) (by omega) (by decide)
            · have hWL : W ≠ L := fun e => by
                rw [e, hL] at hW6
                cases hW6
              rw [upd_ne hWL]
              exact hW6
            · rw [upd_same, List.replicate_succ', List.map_append]
              rfl
          · rintro H6 ⟨⟨s7, hW6⟩, hL⟩
            refine ⟨L, _, rfl, SqL.of hL, false, ?_, iteF ⟨⟨s7, hW6⟩, _, _, _, _, _, rfl⟩⟩
            show V.bl ((List.replicate ys.length false).any id) = V.bl false
            rw [List.any_replicate]
            split <;> rfl
      · rintro σ H5 ⟨⟨s5, hW5⟩, v1, v2, v3, v5, v6, rfl⟩
        exact k _ s5
end
end K5

set_option Elab.async false
set_option linter.all false
set_option maxRecDepth 100000
set_option maxHeartbeats 4000000
namespace K5
open PySem PySem.Spec PyProof.Rows L2
open K1 (FnP top Nm wm)
/-! ### checks, Grid made -/
theorem dT {p : Prop} [Decidable p] (h : p) : V.bl (decide p) = V.bl true := by rw [decide_eq_true h]
abbrev FnM (K : PySem.W.Frag) (m q : Str) (st : Stmt) (dvs : List V) (kws : List (Str × V)) (f : Addr) (fd : FuncData) : Prop := FunD K m q (defArgs st) (defBody st) (defScope st) dvs kws f fd
def fnames : List Str := ["columns", "rows", "fields", "more_columns", "more_rows", "flow", "dense", "column_gap", "row_gap", "justify", "align", "items_justify", "items_align"]
structure TG (K : PySem.W.Frag) (mg : Str → Option Value) (x : Str) (C fI fE : Addr) : Prop where
  gC : mg x = some (.ref C)
  cl : Cls K C
  mkC : Mk K C fI
  eqf : PySem.W.findIn K (.ref C) "__eq__" = some (some (.ref fE))
  eqi : PySem.W.isFn K (.ref fE) = true
  nef : PySem.W.findIn K (.ref C) "__ne__" = some (some (.builtin "object.__ne__"))
  cls : PySem.W.findIn K (.ref C) "__class__" = some (some (.builtin "object.__class__"))
  mro : PySem.W.mroIn K C (.type "object") = some true
  gget : PySem.W.specialIn K (.builtin "object.__class__") "__get__" = some (some (.builtin "getset_descriptor.__get__"))
  gtk : PySem.W.takesIn K (.builtin "object.__class__") = some true
  self : PySem.W.kitOne K (.ref C) (.ref C) = some true
  nf : PySem.W.notFirst K C (.ref C) = true
  na : ∀ y ∈ fnames, NoAttr K C y
theorem TG.ty {K : PySem.W.Frag} {mg : Str → Option Value} {x : Str} {C fI fE : Addr} (T : TG K mg x C fI fE) {H : Hp} {a dx : Addr} {fs : List (Str × V)} (e : H a = some (.ins C dx fs)) : TyX K H (.ref a) (.ref C) := .base (.ins e T.cl T.cls T.gget T.gtk T.mro)
/-- all but a keep what they hold -/
def Keep (a : Addr) (H H' : Hp) : Prop := ∀ b o, b ≠ a → H b = some o → H' b = some o
theorem Keep.of {a : Addr} {H H' : Hp} (s : Same H H') : Keep a H H' := fun b o _ e => s b o e
theorem Keep.trans {a : Addr} {H H1 H2 : Hp} (s : Keep a H H1) (t : Keep a H1 H2) : Keep a H H2 := fun b o n e => t b o n (s b o n e)
theorem Keep.upd {a : Addr} {H H1 : Hp} {o : HO} (s : Keep a H H1) : Keep a H (upd H1 a o) := fun b o' n e => by
  rw [upd_ne n]
  exact s b o' n e
def okMore (ds : List PyData) : Prop := 1 ≤ ds.length ∧ ds.length ≤ 8 ∧ ∀ e ∈ ds, okB e ∧ isSize e = true
def flows : List Str := ["row", "column"]
def lanesWays : List Str := ["start", "end", "center", "stretch", "between", "around", "evenly"]
def waysAcross : List Str := ["start", "end", "center", "stretch"]
def waysDown : List Str := ["start", "end", "center", "stretch", "baseline"]
structure Gr where
  c : PyData
  r : PyData
  z : Str
  rows : List (List Bool)
  mc : List PyData
  mr : List PyData
  fl : Str
  de : Bool
  cg : PyData
  rg : PyData
  j : Str
  al : Str
  ij : Str
  ia : Str
def Gr.ds (g : Gr) : List PyData := [g.c, g.r, fldD g.z g.rows, .tuple g.mc, .tuple g.mr, .str g.fl, .bool g.de, g.cg, g.rg, .str g.j, .str g.al, .str g.ij, .str g.ia]
structure OkGr (g : Gr) : Prop where
  c1 : okInh g.c ∧ okEnt g.c
  c2 : (isInh g.c || areEnt g.c) = true
  r1 : okInh g.r ∧ okEnt g.r
  r2 : (isInh g.r || areEnt g.r) = true
  f : okFld g.z g.rows
  mc : okMore g.mc
  mr : okMore g.mr
  fl : isWord (.str g.fl) flows = true
  cg1 : okS g.cg
  cg2 : isFixed g.cg = true
  rg1 : okS g.rg
  rg2 : isFixed g.rg = true
  j : isWord (.str g.j) lanesWays = true
  al : isWord (.str g.al) lanesWays = true
  ij : isWord (.str g.ij) waysAcross = true
  ia : isWord (.str g.ia) waysDown = true
structure Ways (K : PySem.W.Frag) (mg : Str → Option Value) (aF aL aA aD : Addr) : Prop where
  gF : mg "FLOWS" = some (.ref aF)
  hF : ∀ H, SqT K H aF (flows.map V.str)
  gL : mg "LANES_WAYS" = some (.ref aL)
  hL : ∀ H, SqT K H aL (lanesWays.map V.str)
  gA : mg "WAYS_ACROSS" = some (.ref aA)
  hA : ∀ H, SqT K H aA (waysAcross.map V.str)
  gD : mg "WAYS_DOWN" = some (.ref aD)
  hD : ∀ H, SqT K H aD (waysDown.map V.str)
section
variable {P : Program} {w : World} {K : PySem.W.Frag} {mg : Str → Option Value} {base : Heap}
def spCG : Sp := fun vs H Q _ => ∃ (x : V) (b : Bool), vs = [x, .bl b] ∧ b = true ∧ Q .non H
theorem scCG : FnScope ["part", "is_right"] ["part", "is_right"] (defScope (top 69)) := ⟨rfl, rfl, rfl, by decide +kernel, rfl, by decide +kernel, by decide +kernel⟩
theorem ok_cg {f : Addr} {fd : FuncData} (F : FnP K "check_grid" (top 69) f fd) (N : Nm mg) : FnOk P w K mg base CX0 1 f fd ["part", "is_right"] spCG := by
  refine F.ok scCG (fun vs H Q E h => ?_) (fun cdv A outer s H vs Q E hr h => ?_)
  · obtain ⟨x, b, rfl, _⟩ := h
    rfl
  · obtain ⟨x, b, rfl, rfl, k⟩ := h
    refine ⟨_, PSs.nox (pss_one (ps_if (pt_not (pt_val (pv 1)))
    pss_never
    pss_nil)), ?_⟩
    exact ⟨_, rfl, true, rfl, iteF k⟩
theorem scCF : FnScope ["fields", "index"] ["fields"] (defScope (top 70)) := ⟨rfl, rfl, rfl, by decide +kernel, rfl, by decide +kernel, by decide +kernel⟩
theorem ok_cf {f f1 : Addr} {fd d1 : FuncData} (F : FnP K "check_fields" (top 70) f fd) (N : Nm mg) (d_wrong_field_row : D1 P w K mg base "wrong_field_row" "fields" 4 (spWF K) f1 d1) : FnOk P w K mg base CX0 5 f fd ["fields"] (spWF K) := by
  refine F.ok scCF (fun vs H Q E h => ?_) (fun cdv A outer s H vs Q E hr h => ?_)
  · obtain ⟨v, z, rows, rfl, _⟩ := h
    rfl
  · obtain ⟨v, z, rows, rfl, hd, ok, k⟩ := h
    refine ⟨_, PSs.nox (pss_cons (ps_set (i := 1) scCF.nd rfl (Or.inl rfl) (pe_call d_wrong_field_row.G (hr.mono (by decide)) (by rfl) d_wrong_field_row.g d_wrong_field_row.kp d_wrong_field_row.b .nil pass0 (pa_cons (pv 0) pa_nil)))
  (pss_one (ps_if (pt_cmp (pc_notN (pv 1)))
    pss_never
    pss_nil))), ?_⟩
    exact ⟨_, rfl, v, z, rows, rfl, hd, ok, fun H' s => ⟨_, rfl, false, rfl, iteF (k _ s)⟩⟩
def spFS (K : PySem.W.Frag) : Sp := fun vs H Q _ => ∃ (x v : V) (ds : List PyData), vs = [x, v] ∧ Dp K H v (.tuple ds) ∧ okMore ds ∧ ∀ H', Same H H' → Q .non H'
theorem scFS : FnScope ["part", "sizes", "index", "size"] ["part", "sizes"] (defScope (top 71)) := ⟨rfl, rfl, rfl, by decide +kernel, rfl, by decide +kernel, by decide +kernel⟩
theorem ok_fs {f f1 : Addr} {fd d1 : FuncData} {tk : Tok} (F : FnP K "check_further_sizes" (top 71) f fd) (N : Nm mg) (gM : mg "MOST_FURTHER_SIZES" = some (.int 8 tk)) (d_is_size : D1 P w K mg base "is_size" "value" 8 (spQ K okB isSize) f1 d1) :
    FnOk P w K mg base CX0 9 f fd ["part", "sizes"] (spFS K) := by
  refine F.ok scFS (fun vs H Q E h => ?_) (fun cdv A outer s H vs Q E hr h => ?_)
  · obtain ⟨x, v, ds, rfl, _⟩ := h
    rfl
  · obtain ⟨x, v, ds, rfl, hd, ⟨n1, n8, hs⟩, k⟩ := h
    refine ⟨_, PSs.nox (pss_cons (ps_if (PW.pt (pw_or (pt_not (pt_val (pe_callB call_isi (by rfl) N.isi (by decide +kernel) (pa_cons (pv 1) (pa_cons (pe_bltn (v := .ty "tuple") (u := .type "tuple") (by rfl) N.ttup (by decide +kernel) rfl) pa_nil))))) (pw_or1 (pt_not (pt_chain op_le op_le pe_int (pe_callB call_len_seq (by rfl) N.len PySem.boot_len (pa_cons (pv 1) pa_nil)) (pe_glob (by rfl) gM (v := .int 8) ⟨_, rfl⟩))))))
    pss_never
    pss_nil)
  (pss_one (ps_for PassesOwn.never rfl (pi_enumT (by rfl) N.enu (pa_cons (pv 1) pa_nil))
    (pg_tup rfl (pgs_cons (pg_name (i := 2) scFS.nd rfl (Or.inl rfl)) (pgs_cons (pg_name (i := 3) scFS.nd rfl (Or.inl rfl)) pgs_nil)))
    (pss_one (ps_if (pt_not (pt_val (pe_call d_is_size.G (hr.mono (by decide)) (by rfl) d_is_size.g d_is_size.kp d_is_size.b .nil pass0 (pa_cons (pv 3) pa_nil))))
    pss_never
    pss_nil))))), ?_⟩
    cases hd with
    | @tup p xs _ ht hx =>
      have hl := dpLen hx
      refine ⟨_, rfl, _, _, _, _, true, rfl, .ty _, tyT ht, kit_ty (by decide +kernel), true, rfl, iteF ?_⟩
      refine ⟨_, rfl, p, _, rfl, .inr ht, _, _, rfl, rfl, true, dT (by omega : (1 : Int) ≤ ((xs.length : Nat) : Int)), iteT ⟨_, _, rfl, rfl, true, dT (by omega : ((xs.length : Nat) : Int) ≤ 8), iteF ?_⟩⟩
      refine ⟨_, rfl, p, xs, rfl, ht, for_enumT (K := K) (a := p) (xs := xs) (fun i σ H' => Same H H' ∧ ∃ v1 v2, σ = [some x, some (.ref p), v1, v2]) ⟨Same.refl H, _, _, rfl⟩ (fun i σ H' _ h => Same.seqT h.1 ht) ?_ ?_⟩
      · rintro i y T σ H1 hi ⟨s1, v1, v2, rfl⟩ nT
        have hi' := (List.getElem?_eq_some_iff.mp hi).1
        have he : ds[i]? = some (ds[i]'(by omega)) := List.getElem?_eq_getElem _
        obtain ⟨u, eu, hu⟩ := dpAt i hx he
        rw [hi] at eu
        cases eu
        obtain ⟨o1, o2⟩ := hs _ (List.getElem_mem (by omega : i < ds.length))
        have s2 := s1.trans (same_upd (o := .tup [.int (i : Nat), y]) nT)
        refine ⟨T, _, rfl, SqT.of upd_same, rfl, _, _, rfl, _, _, rfl, rfl, ?_⟩
        refine ⟨_, rfl, y, _, rfl, dpS s2 hu, o1, fun H2 s3 => ⟨true, by rw [o2], iteF ⟨s2.trans s3, _, _, rfl⟩⟩⟩
      · rintro σ H1 ⟨s1, v1, v2, rfl⟩
        exact k _ s1
end
end K5

set_option Elab.async false
set_option linter.all false
set_option maxRecDepth 100000
set_option maxHeartbeats 4000000
namespace K5
open PySem PySem.Spec PyProof.Rows L2
open K1 (FnP top Nm wm)
section
variable {P : Program} {w : World} {K : PySem.W.Frag} {mg : Str → Option Value} {base : Heap} {C fI fE aF aL aA aD : Addr}
def spGI (K : PySem.W.Frag) (C : Addr) : Sp := fun vs H Q _ => ∃ (a dx : Addr) (xs : List V) (g : Gr), vs = .ref a :: xs ∧ H a = some (.ins C dx []) ∧ DpAll K H xs g.ds ∧ OkGr g ∧ ∀ H', Keep a H H' → H' a = some (.ins C dx (fnames.zip xs)) → Q .non H'
theorem scGI : FnScope ["self", "columns", "rows", "fields", "more_columns", "more_rows", "flow", "dense", "column_gap", "row_gap", "justify", "align", "items_justify", "items_align"] ["self", "columns", "rows", "fields", "more_columns", "more_rows", "flow", "dense", "column_gap", "row_gap", "justify", "align", "items_justify", "items_align"] (defScope (inClass (top 68) 0)) := ⟨rfl, rfl, rfl, by decide +kernel, rfl, by decide +kernel, by decide +kernel⟩
theorem ok_gi {f f1 f2 f3 f4 f5 f6 : Addr} {fd d1 d2 d3 d4 d5 d6 : FuncData} {dvs : List V} {kws : List (Str × V)} (F : FnM K "__init__" "Grid.__init__" (inClass (top 68) 0) dvs kws f fd) (N : Nm mg) (T : TG K mg "Grid" C fI fE) (W : Ways K mg aF aL aA aD)
    (d_check_grid : D2 P w K mg base "check_grid" "part" "is_right" 1 spCG f1 d1) (d_check_fields : D1 P w K mg base "check_fields" "fields" 5 (spWF K) f2 d2) (d_check_further_sizes : D2 P w K mg base "check_further_sizes" "part" "sizes" 9 (spFS K) f3 d3)
    (d_is_template : D1 P w K mg base "is_template" "value" 14 (spQ K (fun d => okInh d ∧ okEnt d) fun d => isInh d || areEnt d) f4 d4) (d_is_word : D2 P w K mg base "is_word" "value" "words" 1 (spWord K) f5 d5) (d_is_fixed : D1 P w K mg base "is_fixed" "value" 5 (spQ K okS isFixed) f6 d6) :
    FnOk P w K mg base CX0 15 f fd ("self" :: fnames) (spGI K C) := by
  refine F.ok scGI (fun vs H Q E h => ?_) (fun cdv A outer s H vs Q E hr h => ?_)
  · obtain ⟨a, dx, xs, g, rfl, _, hx, _⟩ := h
    show xs.length + 1 = 14
    rw [dpLen hx]
    rfl
  · obtain ⟨a, dx, xs, g, rfl, ha, hx, ok, k⟩ := h
    refine ⟨_, PSs.nox (pss_cons (ps_expr (pe_call d_check_grid.G (hr.mono (by decide)) (by rfl) d_check_grid.g d_check_grid.kp d_check_grid.b .nil pass0 (pa_cons pe_str (pa_cons (pe_call d_is_template.G (hr.mono (by decide)) (by rfl) d_is_template.g d_is_template.kp d_is_template.b .nil pass0 (pa_cons (pv 1) pa_nil)) pa_nil))))
  (pss_cons (ps_expr (pe_call d_check_grid.G (hr.mono (by decide)) (by rfl) d_check_grid.g d_check_grid.kp d_check_grid.b .nil pass0 (pa_cons pe_str (pa_cons (pe_call d_is_template.G (hr.mono (by decide)) (by rfl) d_is_template.g d_is_template.kp d_is_template.b .nil pass0 (pa_cons (pv 2) pa_nil)) pa_nil))))
  (pss_cons (ps_expr (pe_call d_check_fields.G (hr.mono (by decide)) (by rfl) d_check_fields.g d_check_fields.kp d_check_fields.b .nil pass0 (pa_cons (pv 3) pa_nil)))
  (pss_cons (ps_expr (pe_call d_check_further_sizes.G (hr.mono (by decide)) (by rfl) d_check_further_sizes.g d_check_further_sizes.kp d_check_further_sizes.b .nil pass0 (pa_cons pe_str (pa_cons (pv 4) pa_nil))))
  (pss_cons (ps_expr (pe_call d_check_further_sizes.G (hr.mono (by decide)) (by rfl) d_check_further_sizes.g d_check_further_sizes.kp d_check_further_sizes.b .nil pass0 (pa_cons pe_str (pa_cons (pv 5) pa_nil))))
  (pss_cons (ps_expr (pe_call d_check_grid.G (hr.mono (by decide)) (by rfl) d_check_grid.g d_check_grid.kp d_check_grid.b .nil pass0 (pa_cons pe_str (pa_cons (pe_call d_is_word.G (hr.mono (by decide)) (by rfl) d_is_word.g d_is_word.kp d_is_word.b .nil pass0 (pa_cons (pv 6) (pa_cons (pe_glob (by rfl) W.gF (v := .ref aF) rfl) pa_nil))) pa_nil))))
  (pss_cons (ps_expr (pe_call d_check_grid.G (hr.mono (by decide)) (by rfl) d_check_grid.g d_check_grid.kp d_check_grid.b .nil pass0 (pa_cons pe_str (pa_cons (pe_callB call_isi (by rfl) N.isi (by decide +kernel) (pa_cons (pv 7) (pa_cons (pe_bltn (v := .ty "bool") (u := .type "bool") (by rfl) N.tbool (by decide +kernel) rfl) pa_nil))) pa_nil))))
  (pss_cons (ps_expr (pe_call d_check_grid.G (hr.mono (by decide)) (by rfl) d_check_grid.g d_check_grid.kp d_check_grid.b .nil pass0 (pa_cons pe_str (pa_cons (pe_call d_is_fixed.G (hr.mono (by decide)) (by rfl) d_is_fixed.g d_is_fixed.kp d_is_fixed.b .nil pass0 (pa_cons (pv 8) pa_nil)) pa_nil))))
  (pss_cons (ps_expr (pe_call d_check_grid.G (hr.mono (by decide)) (by rfl) d_check_grid.g d_check_grid.kp d_check_grid.b .nil pass0 (pa_cons pe_str (pa_cons (pe_call d_is_fixed.G (hr.mono (by decide)) (by rfl) d_is_fixed.g d_is_fixed.kp d_is_fixed.b .nil pass0 (pa_cons (pv 9) pa_nil)) pa_nil))))
  (pss_cons (ps_expr (pe_call d_check_grid.G (hr.mono (by decide)) (by rfl) d_check_grid.g d_check_grid.kp d_check_grid.b .nil pass0 (pa_cons pe_str (pa_cons (pe_call d_is_word.G (hr.mono (by decide)) (by rfl) d_is_word.g d_is_word.kp d_is_word.b .nil pass0 (pa_cons (pv 10) (pa_cons (pe_glob (by rfl) W.gL (v := .ref aL) rfl) pa_nil))) pa_nil))))
  (pss_cons (ps_expr (pe_call d_check_grid.G (hr.mono (by decide)) (by rfl) d_check_grid.g d_check_grid.kp d_check_grid.b .nil pass0 (pa_cons pe_str (pa_cons (pe_call d_is_word.G (hr.mono (by decide)) (by rfl) d_is_word.g d_is_word.kp d_is_word.b .nil pass0 (pa_cons (pv 11) (pa_cons (pe_glob (by rfl) W.gL (v := .ref aL) rfl) pa_nil))) pa_nil))))
  (pss_cons (ps_expr (pe_call d_check_grid.G (hr.mono (by decide)) (by rfl) d_check_grid.g d_check_grid.kp d_check_grid.b .nil pass0 (pa_cons pe_str (pa_cons (pe_call d_is_word.G (hr.mono (by decide)) (by rfl) d_is_word.g d_is_word.kp d_is_word.b .nil pass0 (pa_cons (pv 12) (pa_cons (pe_glob (by rfl) W.gA (v := .ref aA) rfl) pa_nil))) pa_nil))))
  (pss_cons (ps_expr (pe_call d_check_grid.G (hr.mono (by decide)) (by rfl) d_check_grid.g d_check_grid.kp d_check_grid.b .nil pass0 (pa_cons pe_str (pa_cons (pe_call d_is_word.G (hr.mono (by decide)) (by rfl) d_is_word.g d_is_word.kp d_is_word.b .nil pass0 (pa_cons (pv 13) (pa_cons (pe_glob (by rfl) W.gD (v := .ref aD) rfl) pa_nil))) pa_nil))))
  (pss_cons (ps_fld (pv 0) (pv 1) rfl)
  (pss_cons (ps_fld (pv 0) (pv 2) rfl)
  (pss_cons (ps_fld (pv 0) (pv 3) rfl)
  (pss_cons (ps_fld (pv 0) (pv 4) rfl)
  (pss_cons (ps_fld (pv 0) (pv 5) rfl)
  (pss_cons (ps_fld (pv 0) (pv 6) rfl)
  (pss_cons (ps_fld (pv 0) (pv 7) rfl)
  (pss_cons (ps_fld (pv 0) (pv 8) rfl)
  (pss_cons (ps_fld (pv 0) (pv 9) rfl)
  (pss_cons (ps_fld (pv 0) (pv 10) rfl)
  (pss_cons (ps_fld (pv 0) (pv 11) rfl)
  (pss_cons (ps_fld (pv 0) (pv 12) rfl)
  (pss_one (ps_fld (pv 0) (pv 13) rfl))))))))))))))))))))))))))), ?_⟩
    have hxx := hx
    obtain ⟨c, r, z, rows, mc, mr, fl, de, cg, rg, j, al, ij, ia⟩ := g
    obtain ⟨oc1, oc2, or1, or2, of, omc, omr, ofl, ocg1, ocg2, org1, org2, oj, oal, oij, oia⟩ := ok
    have hx : DpAll K H xs [c, r, fldD z rows, .tuple mc, .tuple mr, .str fl, .bool de, cg, rg, .str j, .str al, .str ij, .str ia] := hx
    cases hx with
    | @cons v0 xs _ _ h0 hx =>
      cases hx with
      | @cons v1 xs _ _ h1 hx =>
        cases hx with
        | @cons v2 xs _ _ h2 hx =>
          cases hx with
          | @cons v3 xs _ _ h3 hx =>
            cases hx with
            | @cons v4 xs _ _ h4 hx =>
              cases hx with
              | @cons v5 xs _ _ h5 hx =>
                cases hx with
                | @cons v6 xs _ _ h6 hx =>
                  cases hx with
                  | @cons v7 xs _ _ h7 hx =>
                    cases hx with
                    | @cons v8 xs _ _ h8 hx =>
                      cases hx with
                      | @cons v9 xs _ _ h9 hx =>
                        cases hx with
                        | @cons v10 xs _ _ h10 hx =>
                          cases hx with
                          | @cons v11 xs _ _ h11 hx =>
                            cases hx with
                            | @cons v12 xs _ _ h12 hx =>
                              cases hx
                              cases h5
                              cases h9
                              cases h10
                              cases h11
                              cases h12
                              cases h6
                              refine ⟨_, rfl, v0, c, rfl, h0, oc1, fun H1 s1 => ⟨_, _, rfl, oc2, ?_⟩⟩
                              refine ⟨_, rfl, v1, r, rfl, dpS s1 h1, or1, fun H2 s2 => ⟨_, _, rfl, or2, ?_⟩⟩
                              have s2 := s1.trans s2
                              refine ⟨_, rfl, v2, z, rows, rfl, dpS s2 h2, of, fun H3 s3 => ?_⟩
                              have s3 := s2.trans s3
                              refine ⟨_, rfl, _, v3, mc, rfl, dpS s3 h3, omc, fun H4 s4 => ?_⟩
                              have s4 := s3.trans s4
                              refine ⟨_, rfl, _, v4, mr, rfl, dpS s4 h4, omr, fun H5 s5 => ?_⟩
                              have s5 := s4.trans s5
                              refine ⟨_, rfl, _, _, aF, flows, rfl, .str _, W.hF _, _, _, rfl, ofl, ?_⟩
                              refine ⟨_, rfl, _, _, _, _, true, rfl, .ty _, .base (.bl _), kit_ty (by decide +kernel), _, _, rfl, rfl, ?_⟩
                              refine ⟨_, rfl, v7, cg, rfl, dpS s5 h7, ocg1, fun H6 s6 => ⟨_, _, rfl, ocg2, ?_⟩⟩
                              have s6 := s5.trans s6
                              refine ⟨_, rfl, v8, rg, rfl, dpS s6 h8, org1, fun H7 s7 => ⟨_, _, rfl, org2, ?_⟩⟩
                              have s7 := s6.trans s7
                              refine ⟨_, rfl, _, _, aL, lanesWays, rfl, .str _, W.hL _, _, _, rfl, oj, ?_⟩
                              refine ⟨_, rfl, _, _, aL, lanesWays, rfl, .str _, W.hL _, _, _, rfl, oal, ?_⟩
                              refine ⟨_, rfl, _, _, aA, waysAcross, rfl, .str _, W.hA _, _, _, rfl, oij, ?_⟩
                              refine ⟨_, rfl, _, _, aD, waysDown, rfl, .str _, W.hD _, _, _, rfl, oia, ?_⟩
                              refine ⟨_, rfl, _, rfl, a, C, dx, _, rfl, s7 _ _ ha, T.cl, T.na "columns" (by decide), (by show 0 < 1000; decide), ?_⟩
                              refine ⟨_, rfl, _, rfl, a, C, dx, _, rfl, upd_same, T.cl, T.na "rows" (by decide), (by show 1 < 1000; decide), ?_⟩
                              refine ⟨_, rfl, _, rfl, a, C, dx, _, rfl, upd_same, T.cl, T.na "fields" (by decide), (by show 2 < 1000; decide), ?_⟩
                              refine ⟨_, rfl, _, rfl, a, C, dx, _, rfl, upd_same, T.cl, T.na "more_columns" (by decide), (by show 3 < 1000; decide), ?_⟩
                              refine ⟨_, rfl, _, rfl, a, C, dx, _, rfl, upd_same, T.cl, T.na "more_rows" (by decide), (by show 4 < 1000; decide), ?_⟩
                              refine ⟨_, rfl, _, rfl, a, C, dx, _, rfl, upd_same, T.cl, T.na "flow" (by decide), (by show 5 < 1000; decide), ?_⟩
                              refine ⟨_, rfl, _, rfl, a, C, dx, _, rfl, upd_same, T.cl, T.na "dense" (by decide), (by show 6 < 1000; decide), ?_⟩
                              refine ⟨_, rfl, _, rfl, a, C, dx, _, rfl, upd_same, T.cl, T.na "column_gap" (by decide), (by show 7 < 1000; decide), ?_⟩
                              refine ⟨_, rfl, _, rfl, a, C, dx, _, rfl, upd_same, T.cl, T.na "row_gap" (by decide), (by show 8 < 1000; decide), ?_⟩
                              refine ⟨_, rfl, _, rfl, a, C, dx, _, rfl, upd_same, T.cl, T.na "justify" (by decide), (by show 9 < 1000; decide), ?_⟩
                              refine ⟨_, rfl, _, rfl, a, C, dx, _, rfl, upd_same, T.cl, T.na "align" (by decide), (by show 10 < 1000; decide), ?_⟩
                              refine ⟨_, rfl, _, rfl, a, C, dx, _, rfl, upd_same, T.cl, T.na "items_justify" (by decide), (by show 11 < 1000; decide), ?_⟩
                              refine ⟨_, rfl, _, rfl, a, C, dx, _, rfl, upd_same, T.cl, T.na "items_align" (by decide), (by show 12 < 1000; decide), ?_⟩
                              exact k _ (((((((((((((Keep.of s7).upd).upd).upd).upd).upd).upd).upd).upd).upd).upd).upd).upd).upd upd_same
end
end K5

set_option Elab.async false
set_option linter.all false
set_option maxRecDepth 100000
set_option maxHeartbeats 4000000
namespace K5
open PySem PySem.Spec PyProof.Rows L2
open K1 (FnP top Nm wm)
/-! ### == of grids -/
def eqAll : List PyData → List PyData → Bool
  | d :: ds, e :: es => PyData.eqv d e && eqAll ds es
  | _, _ => true
section
variable {P : Program} {w : World} {K : PySem.W.Frag} {mg : Str → Option Value} {base : Heap} {C fI fE : Addr}
def GridAt (K : PySem.W.Frag) (C : Addr) (H : Hp) (a : Addr) (xs : List V) (ds : List PyData) : Prop := (∃ dx, H a = some (.ins C dx (fnames.zip xs))) ∧ DpAll K H xs ds ∧ ds.length = 13 ∧ ∀ d ∈ ds, SeqAt.shaped d = true
theorem GridAt.same {H H' : Hp} {a : Addr} {xs : List V} {ds : List PyData} (h : GridAt K C H a xs ds) (s : Same H H') : GridAt K C H' a xs ds := by
  obtain ⟨⟨dx, h1⟩, h2, h3, h4⟩ := h
  exact ⟨⟨dx, s _ _ h1⟩, dpSA s h2, h3, h4⟩
def spGE (K : PySem.W.Frag) (C : Addr) : Sp := fun vs H Q _ => ∃ (a : Addr) (v : V) (xs : List V) (ds : List PyData), vs = [.ref a, v] ∧ GridAt K C H a xs ds ∧
  ((∃ a' ys es, v = .ref a' ∧ GridAt K C H a' ys es ∧ Q (.bl (eqAll ds es)) H) ∨ (TyX K H v (.type "list") ∧ Q (.bl false) H))
theorem scGE : FnScope ["self", "other"] ["self", "other"] (defScope (inClass (top 68) 1)) := ⟨rfl, rfl, rfl, by decide +kernel, rfl, by decide +kernel, by decide +kernel⟩
theorem ok_ge {f : Addr} {fd : FuncData} (F : FnM K "__eq__" "Grid.__eq__" (inClass (top 68) 1) [] [] f fd) (N : Nm mg) (T : TG K mg "Grid" C fI fE) (hno : PySem.W.kitOne K (.type "list") (.ref C) = some false) : FnOk P w K mg base CX0 1 f fd ["self", "other"] (spGE K C) := by
  refine F.ok scGE (fun vs H Q E h => ?_) (fun cdv A outer s H vs Q E hr h => ?_)
  · obtain ⟨a, v, xs, ds, rfl, _⟩ := h
    rfl
  · obtain ⟨a, v, xs, ds, rfl, ⟨⟨dx, h1⟩, hx, l13, hs⟩, h⟩ := h
    refine ⟨_, PSs.nox (pss_one (ps_ret (pe_and (pe_callB call_isi (by rfl) N.isi (by decide +kernel) (pa_cons (pv 1) (pa_cons (pe_glob (by rfl) T.gC (v := .ref C) rfl) pa_nil))) (pe_and (pe_cmpR (op_eqD hr.units) (pe_fld (pv 0) rfl) (pe_fld (pv 1) rfl) (nomark _)) (pe_and (pe_cmpR (op_eqD hr.units) (pe_fld (pv 0) rfl) (pe_fld (pv 1) rfl) (nomark _)) (pe_and (pe_cmpR (op_eqD hr.units) (pe_fld (pv 0) rfl) (pe_fld (pv 1) rfl) (nomark _)) (pe_and (pe_cmpR (op_eqD hr.units) (pe_fld (pv 0) rfl) (pe_fld (pv 1) rfl) (nomark _)) (pe_and (pe_cmpR (op_eqD hr.units) (pe_fld (pv 0) rfl) (pe_fld (pv 1) rfl) (nomark _)) (pe_and (pe_cmpR (op_eqD hr.units) (pe_fld (pv 0) rfl) (pe_fld (pv 1) rfl) (nomark _)) (pe_and (pe_cmpR (op_eqD hr.units) (pe_fld (pv 0) rfl) (pe_fld (pv 1) rfl) (nomark _)) (pe_and (pe_cmpR (op_eqD hr.units) (pe_fld (pv 0) rfl) (pe_fld (pv 1) rfl) (nomark _)) (pe_and (pe_cmpR (op_eqD hr.units) (pe_fld (pv 0) rfl) (pe_fld (pv 1) rfl) (nomark _)) (pe_and (pe_cmpR (op_eqD hr.units) (pe_fld (pv 0) rfl) (pe_fld (pv 1) rfl) (nomark _)) (pe_and (pe_cmpR (op_eqD hr.units) (pe_fld (pv 0) rfl) (pe_fld (pv 1) rfl) (nomark _)) (pe_and (pe_cmpR (op_eqD hr.units) (pe_fld (pv 0) rfl) (pe_fld (pv 1) rfl) (nomark _)) (pe_one (pe_cmpR (op_eqD hr.units) (pe_fld (pv 0) rfl) (pe_fld (pv 1) rfl) (nomark _)))))))))))))))))), ?_⟩
    rcases h with ⟨a', ys, es, rfl, ⟨⟨dx', g1⟩, gx, g13, gs⟩, k⟩ | ⟨ty, k⟩
    rotate_left
    · exact ⟨_, rfl, _, _, _, _, false, rfl, .own _, ty, hno, false, rfl, iteF k⟩
    refine ⟨_, rfl, _, _, _, _, true, rfl, .own _, T.ty g1, T.self, true, rfl, iteT ?_⟩
    cases hx with
    | nil => exact absurd l13 (by simp)
    | @cons x0 xs d0 dss p0 hx =>
      cases hx with
      | nil => exact absurd l13 (by simp)
      | @cons x1 xs d1 dss p1 hx =>
        cases hx with
        | nil => exact absurd l13 (by simp)
        | @cons x2 xs d2 dss p2 hx =>
          cases hx with
          | nil => exact absurd l13 (by simp)
          | @cons x3 xs d3 dss p3 hx =>
            cases hx with
            | nil => exact absurd l13 (by simp)
            | @cons x4 xs d4 dss p4 hx =>
              cases hx with
              | nil => exact absurd l13 (by simp)
              | @cons x5 xs d5 dss p5 hx =>
                cases hx with
                | nil => exact absurd l13 (by simp)
                | @cons x6 xs d6 dss p6 hx =>
                  cases hx with
                  | nil => exact absurd l13 (by simp)
                  | @cons x7 xs d7 dss p7 hx =>
                    cases hx with
                    | nil => exact absurd l13 (by simp)
                    | @cons x8 xs d8 dss p8 hx =>
                      cases hx with
                      | nil => exact absurd l13 (by simp)
                      | @cons x9 xs d9 dss p9 hx =>
                        cases hx with
                        | nil => exact absurd l13 (by simp)
                        | @cons x10 xs d10 dss p10 hx =>
                          cases hx with
                          | nil => exact absurd l13 (by simp)
                          | @cons x11 xs d11 dss p11 hx =>
                            cases hx with
                            | nil => exact absurd l13 (by simp)
                            | @cons x12 xs d12 dss p12 hx =>
                              cases hx with
                              | cons _ _ => exact absurd l13 (by simp only [List.length_cons]; omega)
                              | nil =>
                                cases gx with
                                | nil => exact absurd g13 (by simp)
                                | @cons y0 ys e0 ess q0 gx =>
                                  cases gx with
                                  | nil => exact absurd g13 (by simp)
                                  | @cons y1 ys e1 ess q1 gx =>
                                    cases gx with
                                    | nil => exact absurd g13 (by simp)
                                    | @cons y2 ys e2 ess q2 gx =>
                                      cases gx with
                                      | nil => exact absurd g13 (by simp)
                                      | @cons y3 ys e3 ess q3 gx =>
                                        cases gx with
                                        | nil => exact absurd g13 (by simp)
                                        | @cons y4 ys e4 ess q4 gx =>
                                          cases gx with
                                          | nil => exact absurd g13 (by simp)
                                          | @cons y5 ys e5 ess q5 gx =>
                                            cases gx with
                                            | nil => exact absurd g13 (by simp)
                                            | @cons y6 ys e6 ess q6 gx =>
                                              cases gx with
                                              | nil => exact absurd g13 (by simp)
                                              | @cons y7 ys e7 ess q7 gx =>
                                                cases gx with
                                                | nil => exact absurd g13 (by simp)
                                                | @cons y8 ys e8 ess q8 gx =>
                                                  cases gx with
                                                  | nil => exact absurd g13 (by simp)
                                                  | @cons y9 ys e9 ess q9 gx =>
                                                    cases gx with
                                                    | nil => exact absurd g13 (by simp)
                                                    | @cons y10 ys e10 ess q10 gx =>
                                                      cases gx with
                                                      | nil => exact absurd g13 (by simp)
                                                      | @cons y11 ys e11 ess q11 gx =>
                                                        cases gx with
                                                        | nil => exact absurd g13 (by simp)
                                                        | @cons y12 ys e12 ess q12 gx =>
                                                          cases gx with
                                                          | cons _ _ => exact absurd g13 (by simp only [List.length_cons]; omega)
                                                          | nil =>
                                                            refine ⟨_, rfl, a, C, dx, _, _, rfl, h1, T.cl, T.na "columns" (by decide), rfl, _, rfl, a', C, dx', _, _, rfl, g1, T.cl, T.na "columns" (by decide), rfl, _, _, p0, q0, hs _ (by simp), gs _ (by simp), _, rfl, ite2 (fun c0 => ?_) (fun c0 => bq (A := True) (by simp only [eqAll, Bool.eq_false_iff.mpr c0, Bool.true_and, Bool.false_and]) k)⟩
                                                            refine ⟨_, rfl, a, C, dx, _, _, rfl, h1, T.cl, T.na "rows" (by decide), rfl, _, rfl, a', C, dx', _, _, rfl, g1, T.cl, T.na "rows" (by decide), rfl, _, _, p1, q1, hs _ (by simp), gs _ (by simp), _, rfl, ite2 (fun c1 => ?_) (fun c1 => bq (A := True) (by simp only [eqAll, c0, Bool.eq_false_iff.mpr c1, Bool.true_and, Bool.false_and]) k)⟩
                                                            refine ⟨_, rfl, a, C, dx, _, _, rfl, h1, T.cl, T.na "fields" (by decide), rfl, _, rfl, a', C, dx', _, _, rfl, g1, T.cl, T.na "fields" (by decide), rfl, _, _, p2, q2, hs _ (by simp), gs _ (by simp), _, rfl, ite2 (fun c2 => ?_) (fun c2 => bq (A := True) (by simp only [eqAll, c0, c1, Bool.eq_false_iff.mpr c2, Bool.true_and, Bool.false_and]) k)⟩
                                                            refine ⟨_, rfl, a, C, dx, _, _, rfl, h1, T.cl, T.na "more_columns" (by decide), rfl, _, rfl, a', C, dx', _, _, rfl, g1, T.cl, T.na "more_columns" (by decide), rfl, _, _, p3, q3, hs _ (by simp), gs _ (by simp), _, rfl, ite2 (fun c3 => ?_) (fun c3 => bq (A := True) (by simp only [eqAll, c0, c1, c2, Bool.eq_false_iff.mpr c3, Bool.true_and, Bool.false_and]) k)⟩
                                                            refine ⟨_, rfl, a, C, dx, _, _, rfl, h1, T.cl, T.na "more_rows" (by decide), rfl, _, rfl, a', C, dx', _, _, rfl, g1, T.cl, T.na "more_rows" (by decide), rfl, _, _, p4, q4, hs _ (by simp), gs _ (by simp), _, rfl, ite2 (fun c4 => ?_) (fun c4 => bq (A := True) (by simp only [eqAll, c0, c1, c2, c3, Bool.eq_false_iff.mpr c4, Bool.true_and, Bool.false_and]) k)⟩
                                                            refine ⟨_, rfl, a, C, dx, _, _, rfl, h1, T.cl, T.na "flow" (by decide), rfl, _, rfl, a', C, dx', _, _, rfl, g1, T.cl, T.na "flow" (by decide), rfl, _, _, p5, q5, hs _ (by simp), gs _ (by simp), _, rfl, ite2 (fun c5 => ?_) (fun c5 => bq (A := True) (by simp only [eqAll, c0, c1, c2, c3, c4, Bool.eq_false_iff.mpr c5, Bool.true_and, Bool.false_and]) k)⟩
                                                            refine ⟨_, rfl, a, C, dx, _, _, rfl, h1, T.cl, T.na "dense" (by decide), rfl, _, rfl, a', C, dx', _, _, rfl, g1, T.cl, T.na "dense" (by decide), rfl, _, _, p6, q6, hs _ (by simp), gs _ (by simp), _, rfl, ite2 (fun c6 => ?_) (fun c6 => bq (A := True) (by simp only [eqAll, c0, c1, c2, c3, c4, c5, Bool.eq_false_iff.mpr c6, Bool.true_and, Bool.false_and]) k)⟩
                                                            refine ⟨_, rfl, a, C, dx, _, _, rfl, h1, T.cl, T.na "column_gap" (by decide), rfl, _, rfl, a', C, dx', _, _, rfl, g1, T.cl, T.na "column_gap" (by decide), rfl, _, _, p7, q7, hs _ (by simp), gs _ (by simp), _, rfl, ite2 (fun c7 => ?_) (fun c7 => bq (A := True) (by simp only [eqAll, c0, c1, c2, c3, c4, c5, c6, Bool.eq_false_iff.mpr c7, Bool.true_and, Bool.false_and]) k)⟩
                                                            refine ⟨_, rfl, a, C, dx, _, _, rfl, h1, T.cl, T.na "row_gap" (by decide), rfl, _, rfl, a', C, dx', _, _, rfl, g1, T.cl, T.na "row_gap" (by decide), rfl, _, _, p8, q8, hs _ (by simp), gs _ (by simp), _, rfl, ite2 (fun c8 => ?_) (fun c8 => bq (A := True) (by simp only [eqAll, c0, c1, c2, c3, c4, c5, c6, c7, Bool.eq_false_iff.mpr c8, Bool.true_and, Bool.false_and]) k)⟩
                                                            refine ⟨_, rfl, a, C, dx, _, _, rfl, h1, T.cl, T.na "justify" (by decide), rfl, _, rfl, a', C, dx', _, _, rfl, g1, T.cl, T.na "justify" (by decide), rfl, _, _, p9, q9, hs _ (by simp), gs _ (by simp), _, rfl, ite2 (fun c9 => ?_) (fun c9 => bq (A := True) (by simp only [eqAll, c0, c1, c2, c3, c4, c5, c6, c7, c8, Bool.eq_false_iff.mpr c9, Bool.true_and, Bool.false_and]) k)⟩
                                                            refine ⟨_, rfl, a, C, dx, _, _, rfl, h1, T.cl, T.na "align" (by decide), rfl, _, rfl, a', C, dx', _, _, rfl, g1, T.cl, T.na "align" (by decide), rfl, _, _, p10, q10, hs _ (by simp), gs _ (by simp), _, rfl, ite2 (fun c10 => ?_) (fun c10 => bq (A := True) (by simp only [eqAll, c0, c1, c2, c3, c4, c5, c6, c7, c8, c9, Bool.eq_false_iff.mpr c10, Bool.true_and, Bool.false_and]) k)⟩
                                                            refine ⟨_, rfl, a, C, dx, _, _, rfl, h1, T.cl, T.na "items_justify" (by decide), rfl, _, rfl, a', C, dx', _, _, rfl, g1, T.cl, T.na "items_justify" (by decide), rfl, _, _, p11, q11, hs _ (by simp), gs _ (by simp), _, rfl, ite2 (fun c11 => ?_) (fun c11 => bq (A := True) (by simp only [eqAll, c0, c1, c2, c3, c4, c5, c6, c7, c8, c9, c10, Bool.eq_false_iff.mpr c11, Bool.true_and, Bool.false_and]) k)⟩
                                                            exact ⟨_, rfl, a, C, dx, _, _, rfl, h1, T.cl, T.na "items_align" (by decide), rfl, _, rfl, a', C, dx', _, _, rfl, g1, T.cl, T.na "items_align" (by decide), rfl, _, _, p12, q12, hs _ (by simp), gs _ (by simp), bq (A := True) (by simp only [eqAll, c0, c1, c2, c3, c4, c5, c6, c7, c8, c9, c10, c11, Bool.true_and, Bool.and_true]) k⟩
end
end K5

set_option Elab.async false
set_option linter.all false
set_option maxRecDepth 100000
set_option maxHeartbeats 4000000
namespace L2
open PySem PySem.Spec PyProof.Rows
/-! ### tuple * int, any count from 0 on -/
section
variable {ptr : Addr} {els : Array Value} {hash : Nat} {dct : Option Addr} {slo : Array (Option Value)} {cnt : Int} {tok : Tok}
/-- once, or of nothing: the tuple itself -/
theorem tuple_once (fit : (decide (cnt < -(2 ^ 63)) || decide (cnt ≥ 2 ^ 63)) = false) (one : (els.isEmpty || cnt == 1) = true) :
    Meets (Builtin.«tuple.__mul__» ⟨[.ref ptr, .int cnt tok], []⟩) (fun _ R s => s.heap.get? ptr = some { cls := .type "tuple", dict := dct, data := .seq els hash, slots := slo } ∧ R (.ok (.ret (Value.ref ptr))) s) :=
  .of_wp fun prog w A R s got => by
    obtain ⟨hp, gs, dr, tk, os⟩ := s
    obtain ⟨got, done⟩ := got
    have ix := AutoSeq1.idx_int
    wp_walk using wpAny_loadPart' got
    repeat (first
      | (refine wpAny_ite_false (decide_eq_false (by rw [fit]; exact Bool.false_ne_true)) ?_; wp_walk using wpAny_loadPart' got)
      | (refine wpAny_ite_true (decide_eq_true (by rw [one])) ?_; wp_walk using wpAny_loadPart' got))
    exact ⟨_, rfl, done⟩
/-- not at all: a new tuple of nothing -/
theorem tuple_never (fit : (decide (cnt < -(2 ^ 63)) || decide (cnt ≥ 2 ^ 63)) = false) (one : (els.isEmpty || cnt == 1) = false) (nil : (decide (cnt ≤ 0) || els.isEmpty) = true) :
    Meets (Builtin.«tuple.__mul__» ⟨[.ref ptr, .int cnt tok], []⟩) (fun _ R s => s.heap.get? ptr = some { cls := .type "tuple", dict := dct, data := .seq els hash, slots := slo } ∧
      R (.ok (.ret (Value.ref s.heap.objs.size))) { s with heap := s.heap.push { cls := Value.type "tuple", data := Data.seq #[] } }) :=
  .of_wp fun prog w A R s got => by
    obtain ⟨hp, gs, dr, tk, os⟩ := s
    obtain ⟨got, done⟩ := got
    have ix := AutoSeq1.idx_int
    wp_walk using wpAny_loadPart' got
    repeat (first
      | (refine wpAny_ite_false (decide_eq_false (by rw [fit]; exact Bool.false_ne_true)) ?_; wp_walk using wpAny_loadPart' got)
      | (refine wpAny_ite_false (decide_eq_false (by rw [one]; exact Bool.false_ne_true)) ?_; wp_walk using wpAny_loadPart' got)
      | (refine wpAny_ite_true (decide_eq_true (by rw [nil])) ?_; wp_walk using wpAny_loadPart' got))
    exact ⟨_, rfl, done⟩
end
def rRepTA (K : PySem.W.Frag) : R2 := fun x y H Q => ∃ (l : Addr) (k : Int) (xs : List V), x = .ref l ∧ y = .int k ∧ SqT K H l xs ∧ 0 ≤ k ∧ k ≤ 1000 ∧ xs.length ≤ 1000 ∧ ∀ p H', Same H H' → SqT K H' p (List.replicate k.toNat xs).flatten → Q (.ref p) H'
theorem rep_one {xs : List V} {k : Int} (h : xs = [] ∨ k = 1) : (List.replicate k.toNat xs).flatten = xs := by
  rcases h with rfl | rfl
  · generalize k.toNat = m
    induction m with
    | zero => rfl
    | succ m ih =>
      rw [List.replicate_succ, List.flatten_cons, ih]
      rfl
  · show xs ++ [] = xs
    exact List.append_nil _
section
variable {X : Cx}
theorem op_repTA : OpR X (binaryOp .Mult) (rRepTA X.K) := by
  intro pins s σ H x y v u Q I rx ry hq
  obtain ⟨l, k, xs, rfl, rfl, hT, k0, k1, hl, q⟩ := hq
  by_cases big : 2 ≤ k ∧ xs ≠ []
  · exact op_repT pins s σ H _ _ v u Q I rx ry ⟨l, k, xs, rfl, rfl, hT, big.2, big.1, k1, hl, fun p np => q p _ (same_upd np) (SqT.of upd_same)⟩
  cases rx
  obtain ⟨tok, rfl⟩ := ry
  obtain ⟨els, rl, ⟨⟨cls, dct, dat, slo⟩, at_, hcls, hash, hdat⟩, _⟩ := I.tuple hT
  simp only at hcls hdat
  subst hcls hdat
  have len : els.length = xs.length := rl.length.symm
  have fit : (decide (k < -(2 ^ 63)) || decide (k ≥ 2 ^ 63)) = false := by
    rw [decide_eq_false (by omega : ¬ k < -(2 ^ 63)), decide_eq_false (by omega : ¬ k ≥ 2 ^ 63), Bool.or_false]
  have emp : els.toArray.isEmpty = decide (xs = []) := by
    cases els with
    | nil =>
      have : xs = [] := List.eq_nil_of_length_eq_zero (by rw [← len]; rfl)
      rw [decide_eq_true this]
      rfl
    | cons a b =>
      have : xs ≠ [] := fun e => by
        rw [e] at len
        exact nomatch len
      rw [decide_eq_false this]
      rfl
  cases one : (els.toArray.isEmpty || k == 1) with
  | true =>
    have h1 : xs = [] ∨ k = 1 := by
      rcases Bool.or_eq_true_iff.mp one with h | h
      · rw [emp] at h
        exact .inl (of_decide_eq_true h)
      · exact .inr (eq_of_beq h)
    refine wpAny_binaryOp_repeat_ref (T := "tuple") (U := "int") (by decide) ⟨_, at_, rfl⟩ (fun s' => typeIs_int s' k tok) noFill_tuple_mul F.fills_int_mul F.slot_int_rmul repeat_tuple F.slot_int_index.lookup ?_
    refine call_meets F.slot_int_rmul (typeIs_int s k tok) F.entry_int_rmul (F.args_int_rmul_2 _ _) (int_rmul_tuple k tok l els.toArray hash dct slo) ⟨at_, rfl, ⟨_, at_, rfl⟩, ?_⟩
    refine call_meets F.slot_tuple_mul ⟨_, at_, rfl⟩ F.entry_tuple_mul (F.args_tuple_mul_2 _ _) (tuple_once fit one) ⟨at_, ?_⟩
    exact ⟨.ref l, H, I, rfl, q l H (Same.refl H) (by rw [rep_one h1]; exact hT)⟩
  | false =>
    obtain ⟨n1, n2⟩ := Bool.or_eq_false_iff.mp one
    rw [emp] at n1
    have hne : xs ≠ [] := of_decide_eq_false n1
    have hk : k = 0 := by
      have : k ≠ 1 := fun e => by
        rw [e] at n2
        exact nomatch n2
      have : ¬ 2 ≤ k := fun h => big ⟨h, hne⟩
      omega
    subst hk
    refine wpAny_binaryOp_repeat_ref (T := "tuple") (U := "int") (by decide) ⟨_, at_, rfl⟩ (fun s' => typeIs_int s' 0 tok) noFill_tuple_mul F.fills_int_mul F.slot_int_rmul repeat_tuple F.slot_int_index.lookup ?_
    refine call_meets F.slot_int_rmul (typeIs_int s 0 tok) F.entry_int_rmul (F.args_int_rmul_2 _ _) (int_rmul_tuple 0 tok l els.toArray hash dct slo) ⟨at_, rfl, ⟨_, at_, rfl⟩, ?_⟩
    refine call_meets F.slot_tuple_mul ⟨_, at_, rfl⟩ F.entry_tuple_mul (F.args_tuple_mul_2 _ _) (tuple_never fit one rfl) ⟨at_, ?_⟩
    have np : H s.heap.objs.size = none := I.hok.fresh (Nat.le_refl _)
    refine ⟨.ref s.heap.objs.size, _, I.laid (t' := s.toks) (o := .tup []) (fun b ob q => Heap.get?_push_of_some _ q) (Nat.le_refl _) ?_, rfl, q _ _ (same_upd np) (SqT.of upd_same)⟩
    exact ⟨Nat.zero_le _, [], .nil, IsTup.new _ _⟩
end
end L2
namespace L2
open PySem PySem.Spec PyProof.Rows
/-! ### list.extend(tuple) -/
theorem ext_tup {lst tup : Addr} {els more : Array Value} {h1 h2 : Nat} {dct : Option Addr} {slo : Array (Option Value)} (short : ¬(!els.isEmpty && Builtin.List.listTooLong (els.size + more.size)) = true) (fits : els.size ≤ sizeLine) (room : els.size + more.size ≤ sizeLine + 1) :
    Meets (Builtin.«list.extend» ⟨[.ref lst, .ref tup], []⟩) (fun _ R s => s.heap.get? lst = some { cls := .type "list", dict := none, data := .seq els h1, slots := #[] } ∧ s.heap.get? tup = some { cls := .type "tuple", dict := dct, data := .seq more h2, slots := slo } ∧
      R (.ok (.ret Value.none)) { s with heap := s.heap.update lst (Obj.mapSeq fun x => x ++ more), toks := s.toks }) :=
  .of_wp fun prog w A R s got => by
    obtain ⟨hp, gs, dr, tk, os⟩ := s
    obtain ⟨gl, gt, done⟩ := got
    have t1 := AutoSeq1.idx_int
    have t2 := AutoSeq1.sub_tuple_tuple
    have t3 := AutoSeq1.sub_list_list
    have t4 := AutoSeq1.sub_tuple_list
    have t5 := AutoSeq1.sub_list_tuple
    have both : (els ++ more).size ≤ sizeLine + 1 := by
      rw [Array.size_append]
      exact room
    wp_walk using (wpAny_updateSeq gl rfl (hz := fits) (_hz' := both)), wpAny_loadPart' gl, wpAny_loadPart' gt
    exact ⟨_, rfl, done⟩
def rExtendT (K : PySem.W.Frag) : V → List V → Hp → VK → Prop := fun x vs H Q => ∃ (l b : Addr) (xs zs : List V), x = .ref l ∧ vs = [.ref b] ∧ H l = some (.lst xs) ∧ SqT K H b zs ∧ xs.length + zs.length ≤ sizeLine ∧ Q .non (upd H l (.lst (xs ++ zs)))
theorem mt_extendT {X : Cx} : MtM X "list.extend" (rExtendT X.K) := by
  intro pins s σ H x vs v us Q I rx rv hq
  obtain ⟨l, b, xs, zs, rfl, rfl, hH, hT, hz, q⟩ := hq
  cases rx
  obtain ⟨u, rfl, ru⟩ := rv.one
  cases ru
  obtain ⟨zl, its, nn, rl, hl, at_⟩ := I.lstM hH
  obtain ⟨els, rt, ⟨⟨cls, dct, dat, slo⟩, et, hcls, hash, hdat⟩, _⟩ := I.tuple hT
  simp only at hcls hdat
  subst hcls hdat
  have l1 : its.length = xs.length := by omega
  have l2 : els.length = zs.length := rt.length.symm
  have fits : its.toArray.size + els.toArray.size ≤ sizeLine := by
    rw [List.size_toArray, List.size_toArray, l1, l2]
    exact hz
  have short : ¬ (!its.toArray.isEmpty && Builtin.List.listTooLong (its.toArray.size + els.toArray.size)) = true := by
    rw [notLongL fits, Bool.and_false]
    exact Bool.false_ne_true
  refine call_meets F.slot_list_extend ⟨_, at_, rfl⟩ F.entry_list_extend (F.args_list_extend_2 _ _) (ext_tup short (by rw [List.size_toArray]; omega) (by omega)) ⟨at_, et, ?_⟩
  refine ⟨.non, _, I.lset (its' := its ++ els) hH at_ (by simp) (rl.append rt) ?_, rfl, q⟩
  rw [List.length_append]
  omega
end L2

set_option Elab.async false
set_option linter.all false
set_option maxRecDepth 100000
set_option maxHeartbeats 4000000
namespace K5
open PySem PySem.Spec PyProof.Rows L2
open K1 (FnP top Nm wm)
/-! ### a grid and an axis -/
theorem look_zip {y : Str} {v : V} : ∀ (ks : List Str) (xs : List V) (i : Nat), ks.Nodup → ks[i]? = some y → xs[i]? = some v → (ks.zip xs).lookup y = some v
  | [], _, _, _, h, _ => nomatch h
  | _ :: _, [], _, _, _, h => nomatch h
  | k :: ks, x :: xs, 0, _, h1, h2 => by
    cases h1
    cases h2
    rw [List.zip_cons_cons, List.lookup_cons, beq_self_eq_true]
  | k :: ks, x :: xs, i + 1, hn, h1, h2 => by
    obtain ⟨n1, n2⟩ := List.nodup_cons.mp hn
    have hk : y ≠ k := fun e => n1 (e ▸ List.mem_of_getElem? h1)
    rw [List.zip_cons_cons, List.lookup_cons, beq_eq_false_iff_ne.mpr hk]
    exact look_zip ks xs i n2 h1 h2
theorem fnames_nodup : fnames.Nodup := by decide
def axS (col : Bool) : Str := if col then "column" else "row"
def askedT (g : Gr) (col : Bool) : PyData := if col then g.c else g.r
def inhB (g : Gr) (col : Bool) : Bool := isMark (askedT g col) "inherited" 2
def tmplT (g : Gr) (col : Bool) : PyData := if inhB g col then .tuple [] else askedT g col
def moreT (g : Gr) (col : Bool) : List PyData := if col then g.mc else g.mr
def wideOf (rows : List (List Bool)) (col : Bool) : Nat := if col then (match rows with | [] => 0 | bs :: _ => bs.length) else rows.length
section
variable {P : Program} {w : World} {K : PySem.W.Frag} {mg : Str → Option Value} {base : Heap} {C fI fE : Addr}
theorem gridF {H : Hp} {a : Addr} {xs : List V} {ds : List PyData} (h : GridAt K C H a xs ds) (i : Nat) {d : PyData} {y : Str} (hy : fnames[i]? = some y) (hd : ds[i]? = some d) : ∃ v, (fnames.zip xs).lookup y = some v ∧ Dp K H v d := by
  obtain ⟨v, ev, hv⟩ := dpAt i h.2.1 hd
  exact ⟨v, look_zip fnames xs i fnames_nodup hy ev, hv⟩
/-- f(grid, axis): what a grid tells -/
def spGA (K : PySem.W.Frag) (C : Addr) (f : Gr → Bool → PyData) : Sp := fun vs H Q _ => ∃ (a : Addr) (xs : List V) (g : Gr) (col : Bool), vs = [.ref a, .str (axS col)] ∧ GridAt K C H a xs g.ds ∧ ∀ H' x, Same H H' → Dp K H' x (f g col) → Q x H'
def spCA : Sp := fun vs H Q _ => ∃ (col : Bool), vs = [.str (axS col)] ∧ ∀ H', Same H H' → Q .non H'
theorem scCA : FnScope ["axis"] ["axis"] (defScope (top 75)) := ⟨rfl, rfl, rfl, by decide +kernel, rfl, by decide +kernel, by decide +kernel⟩
theorem ok_ca {f f1 aX : Addr} {fd d1 : FuncData} (F : FnP K "check_axis" (top 75) f fd) (N : Nm mg) (gX : mg "AXES" = some (.ref aX)) (hX : ∀ H, SqT K H aX ([("column" : Str), "row"].map V.str)) (d_is_word : D2 P w K mg base "is_word" "value" "words" 1 (spWord K) f1 d1) : FnOk P w K mg base CX0 2 f fd ["axis"] spCA := by
  refine F.ok scCA (fun vs H Q E h => ?_) (fun cdv A outer s H vs Q E hr h => ?_)
  · obtain ⟨col, rfl, _⟩ := h
    rfl
  · obtain ⟨col, rfl, k⟩ := h
    refine ⟨_, PSs.nox (pss_one (ps_if (pt_not (pt_val (pe_call d_is_word.G (hr.mono (by decide)) (by rfl) d_is_word.g d_is_word.kp d_is_word.b .nil pass0 (pa_cons (pv 0) (pa_cons (pe_glob (by rfl) gX (v := .ref aX) rfl) pa_nil)))))
    pss_never
    pss_nil)), ?_⟩
    refine ⟨_, rfl, _, .str (axS col), aX, ["column", "row"], rfl, .str _, hX _, true, ?_, iteF (k H (Same.refl H))⟩
    cases col <;> rfl
def spCGA (K : PySem.W.Frag) (C : Addr) : Sp := fun vs H Q _ => ∃ (a : Addr) (xs : List V) (g : Gr) (col : Bool), vs = [.ref a, .str (axS col)] ∧ GridAt K C H a xs g.ds ∧ ∀ H', Same H H' → Q .non H'
theorem scCGA : FnScope ["grid", "axis"] ["grid", "axis"] (defScope (top 76)) := ⟨rfl, rfl, rfl, by decide +kernel, rfl, by decide +kernel, by decide +kernel⟩
theorem ok_cga {f f1 : Addr} {fd d1 : FuncData} (F : FnP K "check_grid_axis" (top 76) f fd) (N : Nm mg) (T : TG K mg "Grid" C fI fE) (d_check_axis : D1 P w K mg base "check_axis" "axis" 2 spCA f1 d1) : FnOk P w K mg base CX0 3 f fd ["grid", "axis"] (spCGA K C) := by
  refine F.ok scCGA (fun vs H Q E h => ?_) (fun cdv A outer s H vs Q E hr h => ?_)
  · obtain ⟨a, xs, g, col, rfl, _⟩ := h
    rfl
  · obtain ⟨a, xs, g, col, rfl, hg, k⟩ := h
    refine ⟨_, PSs.nox (pss_cons (ps_if (pt_not (pt_val (pe_callB call_isi (by rfl) N.isi (by decide +kernel) (pa_cons (pv 0) (pa_cons (pe_glob (by rfl) T.gC (v := .ref C) rfl) pa_nil)))))
    pss_never
    pss_nil)
  (pss_one (ps_expr (pe_call d_check_axis.G (hr.mono (by decide)) (by rfl) d_check_axis.g d_check_axis.kp d_check_axis.b .nil pass0 (pa_cons (pv 1) pa_nil))))), ?_⟩
    obtain ⟨dx, h1⟩ := id hg.1
    exact ⟨_, rfl, _, _, _, _, true, rfl, .own _, T.ty h1, T.self, true, rfl, iteF ⟨_, rfl, col, rfl, fun H' s => k H' s⟩⟩
def spCL : Sp := fun vs H Q _ => ∃ (x : V) (m : Int), vs = [x, .int m] ∧ m ≤ 60 ∧ Q .non H
theorem scCL : FnScope ["axis", "many"] ["axis", "many"] (defScope (top 77)) := ⟨rfl, rfl, rfl, by decide +kernel, rfl, by decide +kernel, by decide +kernel⟩
theorem ok_cl {f : Addr} {fd : FuncData} {tk : Tok} (F : FnP K "check_lanes" (top 77) f fd) (N : Nm mg) (gM : mg "MOST_LANES" = some (.int 60 tk)) : FnOk P w K mg base CX0 1 f fd ["axis", "many"] spCL := by
  refine F.ok scCL (fun vs H Q E h => ?_) (fun cdv A outer s H vs Q E hr h => ?_)
  · obtain ⟨x, m, rfl, _⟩ := h
    rfl
  · obtain ⟨x, m, rfl, hm, k⟩ := h
    refine ⟨_, PSs.nox (pss_one (ps_if (pt_cmpR op_gt (pv 1) (pe_glob (by rfl) gM (v := .int 60) ⟨_, rfl⟩) (nomark _))
    pss_never
    pss_nil)), ?_⟩
    exact ⟨_, rfl, _, _, rfl, rfl, _, rfl, ite2 (fun c => absurd (of_decide_eq_true c) (by omega)) (fun _ => k)⟩
theorem scAT : FnScope ["grid", "axis"] ["grid", "axis"] (defScope (top 78)) := ⟨rfl, rfl, rfl, by decide +kernel, rfl, by decide +kernel, by decide +kernel⟩
theorem ok_at {f : Addr} {fd : FuncData} (F : FnP K "asked_template" (top 78) f fd) (N : Nm mg) (T : TG K mg "Grid" C fI fE) : FnOk P w K mg base CX0 1 f fd ["grid", "axis"] (spGA K C askedT) := by
  refine F.ok scAT (fun vs H Q E h => ?_) (fun cdv A outer s H vs Q E hr h => ?_)
  · obtain ⟨a, xs, g, col, rfl, _⟩ := h
    rfl
  · obtain ⟨a, xs, g, col, rfl, hg, k⟩ := h
    refine ⟨_, PSs.nox (pss_one (ps_ret (pe_ifExp (pt_cmpR op_eq (pv 1) pe_str (nomark _)) (pe_fld (pv 0) rfl) (pe_fld (pv 0) rfl)))), ?_⟩
    obtain ⟨dx, h1⟩ := id hg.1
    cases col with
    | true =>
      obtain ⟨v, lk, hv⟩ := gridF hg 0 (y := "columns") rfl (d := g.c) rfl
      exact ⟨_, rfl, rfl, true, rfl, iteT ⟨_, rfl, a, C, dx, _, v, rfl, h1, T.cl, T.na "columns" (by decide), lk, k H v (Same.refl H) hv⟩⟩
    | false =>
      obtain ⟨v, lk, hv⟩ := gridF hg 1 (y := "rows") rfl (d := g.r) rfl
      exact ⟨_, rfl, rfl, false, rfl, iteF ⟨_, rfl, a, C, dx, _, v, rfl, h1, T.cl, T.na "rows" (by decide), lk, k H v (Same.refl H) hv⟩⟩
def spGB (K : PySem.W.Frag) (C : Addr) (f : Gr → Bool → Bool) : Sp := fun vs H Q _ => ∃ (a : Addr) (xs : List V) (g : Gr) (col : Bool), vs = [.ref a, .str (axS col)] ∧ GridAt K C H a xs g.ds ∧ ∀ H', Same H H' → Q (.bl (f g col)) H'
theorem scIh : FnScope ["grid", "axis"] ["grid", "axis"] (defScope (top 79)) := ⟨rfl, rfl, rfl, by decide +kernel, rfl, by decide +kernel, by decide +kernel⟩
theorem ok_ih {f f1 f2 : Addr} {fd d1 d2 : FuncData} (F : FnP K "inherits" (top 79) f fd) (d_asked_template : D2 P w K mg base "asked_template" "grid" "axis" 1 (spGA K C askedT) f1 d1) (d_is_marked : D3 P w K mg base "is_marked" "value" "word" "many" 2 (spMark K) f2 d2) : FnOk P w K mg base CX0 3 f fd ["grid", "axis"] (spGB K C inhB) := by
  refine F.ok scIh (fun vs H Q E h => ?_) (fun cdv A outer s H vs Q E hr h => ?_)
  · obtain ⟨a, xs, g, col, rfl, _⟩ := h
    rfl
  · obtain ⟨a, xs, g, col, rfl, hg, k⟩ := h
    refine ⟨_, PSs.nox (pss_one (ps_ret (pe_call d_is_marked.G (hr.mono (by decide)) (by rfl) d_is_marked.g d_is_marked.kp d_is_marked.b .nil pass0 (pa_cons (pe_call d_asked_template.G (hr.mono (by decide)) (by rfl) d_asked_template.g d_asked_template.kp d_asked_template.b .nil pass0 (pa_cons (pv 0) (pa_cons (pv 1) pa_nil))) (pa_cons pe_str (pa_cons pe_int pa_nil)))))), ?_⟩
    exact ⟨_, rfl, _, rfl, a, xs, g, col, rfl, hg, fun H1 x s1 hx => ⟨x, _, "inherited", 2, rfl, hx, by decide, fun H2 s2 => k H2 (s1.trans s2)⟩⟩
theorem scTO : FnScope ["grid", "axis"] ["grid", "axis"] (defScope (top 80)) := ⟨rfl, rfl, rfl, by decide +kernel, rfl, by decide +kernel, by decide +kernel⟩
theorem ok_to {f f1 f2 : Addr} {fd d1 d2 : FuncData} (F : FnP K "template_of" (top 80) f fd) (d_inherits : D2 P w K mg base "inherits" "grid" "axis" 3 (spGB K C inhB) f1 d1) (d_asked_template : D2 P w K mg base "asked_template" "grid" "axis" 1 (spGA K C askedT) f2 d2) : FnOk P w K mg base CX0 4 f fd ["grid", "axis"] (spGA K C tmplT) := by
  refine F.ok scTO (fun vs H Q E h => ?_) (fun cdv A outer s H vs Q E hr h => ?_)
  · obtain ⟨a, xs, g, col, rfl, _⟩ := h
    rfl
  · obtain ⟨a, xs, g, col, rfl, hg, k⟩ := h
    refine ⟨_, PSs.nox (pss_one (ps_ret (pe_ifExp (pt_val (pe_call d_inherits.G (hr.mono (by decide)) (by rfl) d_inherits.g d_inherits.kp d_inherits.b .nil pass0 (pa_cons (pv 0) (pa_cons (pv 1) pa_nil)))) (pe_tup pa_nil) (pe_call d_asked_template.G (hr.mono (by decide)) (by rfl) d_asked_template.g d_asked_template.kp d_asked_template.b .nil pass0 (pa_cons (pv 0) (pa_cons (pv 1) pa_nil)))))), ?_⟩
    refine ⟨_, rfl, _, rfl, a, xs, g, col, rfl, hg, fun H1 s1 => ⟨_, rfl, ite2 (fun c => ?_) (fun c => ?_)⟩⟩
    · refine ⟨(by show 0 ≤ sizeLine; decide), fun p np => k _ _ (s1.trans (same_upd np)) ?_⟩
      unfold tmplT
      rw [if_pos c]
      exact .tup (SqT.of upd_same) .nil
    · refine ⟨_, rfl, _, rfl, a, xs, g, col, rfl, hg.same s1, fun H2 x s2 hx => k H2 x (s1.trans s2) ?_⟩
      unfold tmplT
      rw [if_neg c]
      exact hx
theorem scFuS : FnScope ["grid", "axis"] ["grid", "axis"] (defScope (top 81)) := ⟨rfl, rfl, rfl, by decide +kernel, rfl, by decide +kernel, by decide +kernel⟩
theorem ok_fus {f : Addr} {fd : FuncData} (F : FnP K "further_sizes" (top 81) f fd) (N : Nm mg) (T : TG K mg "Grid" C fI fE) : FnOk P w K mg base CX0 1 f fd ["grid", "axis"] (spGA K C fun g col => .tuple (moreT g col)) := by
  refine F.ok scFuS (fun vs H Q E h => ?_) (fun cdv A outer s H vs Q E hr h => ?_)
  · obtain ⟨a, xs, g, col, rfl, _⟩ := h
    rfl
  · obtain ⟨a, xs, g, col, rfl, hg, k⟩ := h
    refine ⟨_, PSs.nox (pss_one (ps_ret (pe_ifExp (pt_cmpR op_eq (pv 1) pe_str (nomark _)) (pe_fld (pv 0) rfl) (pe_fld (pv 0) rfl)))), ?_⟩
    obtain ⟨dx, h1⟩ := id hg.1
    cases col with
    | true =>
      obtain ⟨v, lk, hv⟩ := gridF hg 3 (y := "more_columns") rfl (d := .tuple g.mc) rfl
      exact ⟨_, rfl, rfl, true, rfl, iteT ⟨_, rfl, a, C, dx, _, v, rfl, h1, T.cl, T.na "more_columns" (by decide), lk, k H v (Same.refl H) hv⟩⟩
    | false =>
      obtain ⟨v, lk, hv⟩ := gridF hg 4 (y := "more_rows") rfl (d := .tuple g.mr) rfl
      exact ⟨_, rfl, rfl, false, rfl, iteF ⟨_, rfl, a, C, dx, _, v, rfl, h1, T.cl, T.na "more_rows" (by decide), lk, k H v (Same.refl H) hv⟩⟩
def spGN (K : PySem.W.Frag) (C : Addr) (f : Gr → Bool → Nat) : Sp := fun vs H Q _ => ∃ (a : Addr) (xs : List V) (g : Gr) (col : Bool), vs = [.ref a, .str (axS col)] ∧ GridAt K C H a xs g.ds ∧ ∀ H', Same H H' → Q (.int (f g col : Nat)) H'
theorem scFLn : FnScope ["grid", "axis"] ["grid", "axis"] (defScope (top 82)) := ⟨rfl, rfl, rfl, by decide +kernel, rfl, by decide +kernel, by decide +kernel⟩
theorem ok_fln {f : Addr} {fd : FuncData} (F : FnP K "field_lanes" (top 82) f fd) (N : Nm mg) (T : TG K mg "Grid" C fI fE) : FnOk P w K mg base CX0 1 f fd ["grid", "axis"] (spGN K C fun g col => wideOf g.rows col) := by
  refine F.ok scFLn (fun vs H Q E h => ?_) (fun cdv A outer s H vs Q E hr h => ?_)
  · obtain ⟨a, xs, g, col, rfl, _⟩ := h
    rfl
  · obtain ⟨a, xs, g, col, rfl, hg, k⟩ := h
    refine ⟨_, PSs.nox (pss_cons (ps_if (PW.pt (pw_or (pt_cmpR op_eq (pv 1) pe_str (nomark _)) (pw_or1 (pt_cmpR op_eq (pe_callB call_len_seq (by rfl) N.len PySem.boot_len (pa_cons (pe_fld (pv 0) rfl) pa_nil)) pe_int (nomark _)))))
    (pss_one (ps_ret (pe_callB call_len_seq (by rfl) N.len PySem.boot_len (pa_cons (pe_fld (pv 0) rfl) pa_nil))))
    pss_nil)
  (pss_one (ps_ret (pe_callB call_len_seq (by rfl) N.len PySem.boot_len (pa_cons (pe_ix ix_tup (pe_fld (pv 0) rfl) pe_int (fun _ _ => rfl)) pa_nil))))), ?_⟩
    obtain ⟨dx, h1⟩ := id hg.1
    obtain ⟨v, lk, hv⟩ := gridF hg 2 (y := "fields") rfl (d := fldD g.z g.rows) rfl
    have k : Q (.int (wideOf g.rows col : Nat)) H := k H (Same.refl H)
    cases hv with
    | @tup p ys _ ht hy =>
      have ly : ys.length = g.rows.length := by rw [dpLen hy, List.length_map]
      cases col with
      | false =>
        refine ⟨_, rfl, rfl, true, rfl, iteT (iteT ⟨_, rfl, a, C, dx, _, _, rfl, h1, T.cl, T.na "fields" (by decide), lk, p, ys, rfl, .inr ht, ?_⟩)⟩
        rw [ly]
        exact k
      | true =>
        refine ⟨_, rfl, rfl, false, rfl, iteF ⟨_, rfl, a, C, dx, _, _, rfl, h1, T.cl, T.na "fields" (by decide), lk, p, ys, rfl, .inr ht, rfl, _, rfl, ite2 (fun c => ?_) (fun c => ?_)⟩⟩
        · refine ⟨_, rfl, a, C, dx, _, _, rfl, h1, T.cl, T.na "fields" (by decide), lk, p, ys, rfl, .inr ht, ?_⟩
          have c : V.int ((ys.length : Nat) : Int) = V.int 0 := of_decide_eq_true c
          injection c with c
          have hr : g.rows = [] := List.eq_nil_of_length_eq_zero (by omega)
          rw [hr] at k
          rw [show ys.length = 0 by omega]
          exact k
        · have hne : ys.length ≠ 0 := fun e => c (decide_eq_true (by rw [e]; rfl))
          cases hr : g.rows with
          | nil =>
            rw [hr] at ly
            exact absurd ly hne
          | cons bs rows =>
            obtain ⟨u, eu, hu⟩ := dpAt 0 hy (show (g.rows.map (rowD g.z))[0]? = some (rowD g.z bs) by rw [hr]; rfl)
            cases hu with
            | @tup r zs _ hrr hz =>
              have lz : zs.length = bs.length := by rw [dpLen hz, List.length_map]
              refine ⟨_, rfl, a, C, dx, _, _, rfl, h1, T.cl, T.na "fields" (by decide), lk, p, _, _, _, rfl, rfl, ht, atI_nat (j := 0) eu, r, zs, rfl, .inr hrr, ?_⟩
              rw [hr] at k
              rw [lz]
              exact k
end
end K5

set_option Elab.async false
set_option linter.all false
set_option maxRecDepth 100000
set_option maxHeartbeats 4000000
namespace K5
open PySem PySem.Spec PyProof.Rows L2
open K1 (FnP top Nm wm)
/-! ### templates written out -/
def isNm (d : PyData) : Bool := isMark d "names" 2
def isFl (d : PyData) : Bool := isMark d "fill" 2 || isMark d "fit" 2
def isRp (d : PyData) : Bool := isMark d "repeat" 3
def wrtOne (n : Nat) (e : PyData) : List PyData := if isRp e = true then (List.replicate (topOf (itemAt e 1)).toNat (itemsOf (itemAt e 2))).flatten else if isFl e = true then (List.replicate n (itemsOf (itemAt e 1))).flatten else [e]
def wrt (ds : List PyData) (n : Nat) : List PyData := ds.flatMap (wrtOne n)
def noNm (ds : List PyData) : List PyData := ds.filter fun e => !isNm e
def fillerOf (ds : List PyData) : PyData := (ds.find? isFl).getD .none
/-- what an entry holds -/
def entC (e : PyData) : Prop := (isRp e = true → ∃ (m : Nat) (es : List PyData), itemAt e 1 = .int (m : Int) ∧ m ≤ 20 ∧ itemAt e 2 = .tuple es ∧ es.length ≤ 100) ∧ (isFl e = true → ∃ es, itemAt e 1 = .tuple es ∧ es.length ≤ 100)
def TmC (ds : List PyData) : Prop := ds.length ≤ 100 ∧ ∀ e ∈ ds, entC e
theorem wrtOne_len {e : PyData} (h : entC e) {n : Nat} (hn : n ≤ 60) : (wrtOne n e).length ≤ 6000 := by
  unfold wrtOne
  split
  · rename_i c
    obtain ⟨m, es, e1, hm, e2, l⟩ := h.1 c
    rw [e1, e2, flat_len]
    show (m : Int).toNat * es.length ≤ 6000
    rw [Int.toNat_natCast]
    exact Nat.le_trans (Nat.mul_le_mul hm l) (by decide)
  · split
    · rename_i c
      obtain ⟨es, e1, l⟩ := h.2 c
      rw [e1, flat_len]
      exact Nat.mul_le_mul hn l
    · show 1 ≤ 6000
      decide
theorem wrt_len : ∀ (ds : List PyData) {n : Nat}, (∀ e ∈ ds, entC e) → n ≤ 60 → (wrt ds n).length ≤ ds.length * 6000
  | [], _, _, _ => Nat.zero_le _
  | e :: ds, n, h, hn => by
    show (wrtOne n e ++ wrt ds n).length ≤ (ds.length + 1) * 6000
    rw [List.length_append]
    have := wrtOne_len (h e (List.mem_cons_self ..)) hn
    have := wrt_len ds (fun x hx => h x (List.mem_cons_of_mem _ hx)) hn
    omega
theorem wrt_snoc {ds : List PyData} {i n : Nat} {e : PyData} (h : ds[i]? = some e) : wrt (ds.take (i + 1)) n = wrt (ds.take i) n ++ wrtOne n e := by
  unfold wrt
  rw [List.take_succ, h, List.flatMap_append]
  congr 1
  exact List.append_nil _
section
variable {P : Program} {w : World} {K : PySem.W.Frag} {mg : Str → Option Value} {base : Heap} {C fI fE : Addr}
theorem scIN : FnScope ["entry"] ["entry"] (defScope (top 84)) := ⟨rfl, rfl, rfl, by decide +kernel, rfl, by decide +kernel, by decide +kernel⟩
theorem ok_isn {f f1 : Addr} {fd d1 : FuncData} (F : FnP K "is_names" (top 84) f fd) (d_is_marked : D3 P w K mg base "is_marked" "value" "word" "many" 2 (spMark K) f1 d1) : FnOk P w K mg base CX0 3 f fd ["entry"] (spQ K any isNm) := by
  refine F.ok scIN (fun vs H Q E h => ?_) (fun cdv A outer s H vs Q E hr h => ?_)
  · obtain ⟨v, d, rfl, _⟩ := h
    rfl
  · obtain ⟨v, d, rfl, hd, _, k⟩ := h
    refine ⟨_, PSs.nox (pss_one (ps_ret (pe_call d_is_marked.G (hr.mono (by decide)) (by rfl) d_is_marked.g d_is_marked.kp d_is_marked.b .nil pass0 (pa_cons (pv 0) (pa_cons pe_str (pa_cons pe_int pa_nil)))))), ?_⟩
    exact ⟨_, rfl, v, d, "names", 2, rfl, hd, by decide, k⟩
theorem scIFl : FnScope ["entry"] ["entry"] (defScope (top 85)) := ⟨rfl, rfl, rfl, by decide +kernel, rfl, by decide +kernel, by decide +kernel⟩
theorem ok_isf {f f1 : Addr} {fd d1 : FuncData} (F : FnP K "is_fill" (top 85) f fd) (d_is_marked : D3 P w K mg base "is_marked" "value" "word" "many" 2 (spMark K) f1 d1) : FnOk P w K mg base CX0 3 f fd ["entry"] (spQ K any isFl) := by
  refine F.ok scIFl (fun vs H Q E h => ?_) (fun cdv A outer s H vs Q E hr h => ?_)
  · obtain ⟨v, d, rfl, _⟩ := h
    rfl
  · obtain ⟨v, d, rfl, hd, _, k⟩ := h
    refine ⟨_, PSs.nox (pss_one (ps_ret (pe_or (pe_call d_is_marked.G (hr.mono (by decide)) (by rfl) d_is_marked.g d_is_marked.kp d_is_marked.b .nil pass0 (pa_cons (pv 0) (pa_cons pe_str (pa_cons pe_int pa_nil)))) (pe_one (pe_call d_is_marked.G (hr.mono (by decide)) (by rfl) d_is_marked.g d_is_marked.kp d_is_marked.b .nil pass0 (pa_cons (pv 0) (pa_cons pe_str (pa_cons pe_int pa_nil)))))))), ?_⟩
    refine ⟨_, rfl, v, d, "fill", 2, rfl, hd, by decide, fun H1 s1 => ⟨_, rfl, ite2 (fun c => bq (A := True) (show isFl d = true by unfold isFl; rw [c, Bool.true_or]) (k H1 s1)) (fun c => ?_)⟩⟩
    exact ⟨_, rfl, v, d, "fit", 2, rfl, dpS s1 hd, by decide, fun H2 s2 => bq (A := True) (show isFl d = isMark d "fit" 2 by unfold isFl; rw [Bool.eq_false_iff.mpr c, Bool.false_or]) (k H2 (s1.trans s2))⟩
def spFo (K : PySem.W.Frag) : Sp := fun vs H Q _ => ∃ (v : V) (ds : List PyData), vs = [v] ∧ Dp K H v (.tuple ds) ∧ ∀ H' x, Same H H' → Dp K H' x (fillerOf ds) → Q x H'
theorem scFo : FnScope ["template", "entry"] ["template"] (defScope (top 86)) := ⟨rfl, rfl, rfl, by decide +kernel, rfl, by decide +kernel, by decide +kernel⟩
theorem ok_fo {f f1 : Addr} {fd d1 : FuncData} (F : FnP K "filler_of" (top 86) f fd) (d_is_fill : D1 P w K mg base "is_fill" "entry" 3 (spQ K any isFl) f1 d1) : FnOk P w K mg base CX0 4 f fd ["template"] (spFo K) := by
  refine F.ok scFo (fun vs H Q E h => ?_) (fun cdv A outer s H vs Q E hr h => ?_)
  · obtain ⟨v, ds, rfl, _⟩ := h
    rfl
  · obtain ⟨v, ds, rfl, hd, k⟩ := h
    refine ⟨_, PSs.nox (pss_cons (ps_for PassesOwn.never rfl (pi_tup (pv 0))
    (pg_name (i := 1) scFo.nd rfl (Or.inl rfl))
    (pss_one (ps_if (pt_val (pe_call d_is_fill.G (hr.mono (by decide)) (by rfl) d_is_fill.g d_is_fill.kp d_is_fill.b .nil pass0 (pa_cons (pv 1) pa_nil)))
    (pss_one (ps_ret (pv 1)))
    pss_nil)))
  (pss_one (ps_ret pe_non))), ?_⟩
    cases hd with
    | @tup p xs _ ht hx =>
      have hl := dpLen hx
      refine ⟨_, rfl, p, rfl, ⟨xs, ht⟩, for_tup (K := K) (a := p) (xs := xs) (fun i σ H' => Same H H' ∧ (∀ e ∈ ds.take i, isFl e = false) ∧ ∃ u, σ = [some (.ref p), u]) ⟨Same.refl H, (fun e h => nomatch h), _, rfl⟩ (fun i σ H' _ h => Same.seqT h.1 ht) ?_ ?_⟩
      · rintro i x σ H2 hi ⟨s2, hn, u, rfl⟩
        have hi' := (List.getElem?_eq_some_iff.mp hi).1
        have he : ds[i]? = some (ds[i]'(by omega)) := List.getElem?_eq_getElem _
        obtain ⟨u', eu, hu⟩ := dpAt i hx he
        rw [hi] at eu
        cases eu
        generalize ds[i]'(by omega) = e at he hu
        refine ⟨_, rfl, x, e, rfl, dpS s2 hu, trivial, fun H3 s3 => ⟨_, rfl, ite2 (fun c => ?_) (fun c => ?_)⟩⟩
        · refine ⟨_, rfl, k H3 x (s2.trans s3) ?_⟩
          have hf : ds.find? isFl = some e := by
            have hsplit : ds = ds.take i ++ e :: ds.drop (i + 1) := by
              obtain ⟨h1, h2⟩ := List.getElem?_eq_some_iff.mp he
              rw [← h2, List.getElem_cons_drop, List.take_append_drop]
            rw [hsplit, List.find?_append, List.find?_eq_none.mpr (fun y hy => by rw [hn y hy]; decide), List.find?_cons_of_pos c]
            rfl
          unfold fillerOf
          rw [hf]
          exact dpS (s2.trans s3) hu
        · refine ⟨s2.trans s3, fun y hy => ?_, _, rfl⟩
          rw [List.take_succ, he] at hy
          rcases List.mem_append.mp hy with q | q
          · exact hn y q
          · rw [Option.toList_some, List.mem_singleton] at q
            rw [q]
            exact Bool.eq_false_iff.mpr c
      · rintro σ H2 ⟨s2, hn, u, rfl⟩
        rw [hl, List.take_length] at hn
        have hf : ds.find? isFl = none := List.find?_eq_none.mpr (fun y hy => by rw [hn y hy]; decide)
        refine k H2 .non s2 ?_
        unfold fillerOf
        rw [hf]
        exact .non
/-- a new list of data that stand at H -/
def spLs (K : PySem.W.Frag) (f : List PyData → List PyData) : Sp := fun vs H Q _ => ∃ (v : V) (ds : List PyData) (p : Addr) (xs : List V), vs = [v] ∧ v = .ref p ∧ (SqL K H p xs ∨ SqT K H p xs) ∧ DpAll K H xs ds ∧ ds.length ≤ 600000 ∧ ∀ H' q us, Same H H' → H q = none → H' q = some (.lst us) → DpAll K H us (f ds) → Q (.ref q) H'
theorem scIS : FnScope ["entries", "entry"] ["entries"] (defScope (top 87)) := ⟨rfl, rfl, rfl, by decide +kernel, rfl, by decide +kernel, by decide +kernel⟩
theorem ok_is {f f1 : Addr} {fd d1 : FuncData} (F : FnP K "inner_sizes" (top 87) f fd) (d_is_names : D1 P w K mg base "is_names" "entry" 3 (spQ K any isNm) f1 d1) : FnOk P w K mg base CX0 4 f fd ["entries"] (spLs K noNm) := by
  refine F.ok scIS (fun vs H Q E h => ?_) (fun cdv A outer s H vs Q E hr h => ?_)
  · obtain ⟨v, ds, p, xs, rfl, _⟩ := h
    rfl
  · obtain ⟨v, ds, p, xs, rfl, rfl, hs, hx, hn, k⟩ := h
    have hl := dpLen hx
    have at_ : ∀ i x, xs[i]? = some x → ∃ e, ds[i]? = some e ∧ Dp K H x e := fun i x hi => by
      have hi' := (List.getElem?_eq_some_iff.mp hi).1
      have he : ds[i]? = some (ds[i]'(by omega)) := List.getElem?_eq_getElem _
      obtain ⟨u, eu, hu⟩ := dpAt i hx he
      rw [hi] at eu
      cases eu
      exact ⟨_, he, hu⟩
    have snoc : ∀ {i : Nat} {e : PyData}, ds[i]? = some e → noNm (ds.take (i + 1)) = noNm (ds.take i) ++ (if isNm e = true then [] else [e]) := fun {i e} h => by
      unfold noNm
      rw [List.take_succ, h, List.filter_append]
      congr 1
      by_cases hs : isNm e = true
      · rw [if_pos hs]
        exact List.filter_cons_of_neg (by rw [hs]; decide)
      · rw [if_neg hs]
        exact List.filter_cons_of_pos (by rw [Bool.eq_false_iff.mpr hs]; rfl)
    have short : ∀ (i : Nat) (us : List V), DpAll K H us (noNm (ds.take i)) → us.length < sizeLine := fun i us h => by
      rw [dpLen h, sizeLine_eq]
      have := List.length_filter_le (fun e => !isNm e) (ds.take i)
      have h2 : (ds.take i).length ≤ ds.length := by
        rw [List.length_take]
        exact Nat.min_le_right _ _
      unfold noNm
      omega
    rcases hs with hs | hs
    · skip
      refine ⟨_, PSs.nox (pss_one (ps_ret (pe_lc (own := [("entry", 1)]) (g := gName 1) rfl scIS.nd (pi_list (pv 0)) (blkOk_by (own := [("entry", 1)]) (N := ["entries", "entry"]) (sc := defScope (top 87)) (by decide +kernel)) (fun _ _ _ _ _ => (pg_name (i := 1) scIS.nd rfl (Or.inl rfl))) (fun _ _ _ _ _ => pts_one (pt_not (pt_val (pe_call d_is_names.G (hr.mono (by decide)) (by rfl) d_is_names.g d_is_names.kp d_is_names.b .nil pass0 (pa_cons (pv 1) pa_nil))))) (fun _ _ _ _ _ => (pv 1))))), ?_⟩
      refine ⟨_, rfl, p, rfl, ⟨xs, hs⟩, fun D nD => ?_⟩
      refine lc_list (K := K) (a := p) (xs := xs) (fun i H' => Same H H' ∧ ∃ us, H' D = some (.lst us) ∧ DpAll K H us (noNm (ds.take i))) ⟨same_upd nD, [], upd_same, .nil⟩ (fun i H' _ h => h.1.seq hs) ?_ ?_
      · rintro i x H2 hi ⟨s2, us, hD, hu⟩
        obtain ⟨e, he, hx⟩ := at_ i x hi
        refine ⟨rfl, _, rfl, x, e, rfl, dpS s2 hx, trivial, fun H3 s3 => ⟨_, rfl, ite2 (fun c => ?_) (fun c => ?_)⟩⟩
        · refine ⟨_, rfl, us, s3 _ _ hD, short _ _ hu, same_upd' nD (s2.trans s3), _, upd_same, ?_⟩
          rw [snoc he, if_neg (by rw [tB c]; decide)]
          exact dpSnoc hu (.cons hx .nil)
        · refine ⟨s2.trans s3, us, s3 _ _ hD, ?_⟩
          rw [snoc he, if_pos (fB c), List.append_nil]
          exact hu
      · rintro H2 ⟨s2, us, hD, hu⟩
        rw [hl, List.take_length] at hu
        exact k H2 D us s2 nD hD hu
    · skip
      refine ⟨_, PSs.nox (pss_one (ps_ret (pe_lc (own := [("entry", 1)]) (g := gName 1) rfl scIS.nd (pi_tup (pv 0)) (blkOk_by (own := [("entry", 1)]) (N := ["entries", "entry"]) (sc := defScope (top 87)) (by decide +kernel)) (fun _ _ _ _ _ => (pg_name (i := 1) scIS.nd rfl (Or.inl rfl))) (fun _ _ _ _ _ => pts_one (pt_not (pt_val (pe_call d_is_names.G (hr.mono (by decide)) (by rfl) d_is_names.g d_is_names.kp d_is_names.b .nil pass0 (pa_cons (pv 1) pa_nil))))) (fun _ _ _ _ _ => (pv 1))))), ?_⟩
      refine ⟨_, rfl, p, rfl, ⟨xs, hs⟩, fun D nD => ?_⟩
      refine lc_tup (K := K) (a := p) (xs := xs) (fun i H' => Same H H' ∧ ∃ us, H' D = some (.lst us) ∧ DpAll K H us (noNm (ds.take i))) ⟨same_upd nD, [], upd_same, .nil⟩ (fun i H' _ h => Same.seqT h.1 hs) ?_ ?_
      · rintro i x H2 hi ⟨s2, us, hD, hu⟩
        obtain ⟨e, he, hx⟩ := at_ i x hi
        refine ⟨rfl, _, rfl, x, e, rfl, dpS s2 hx, trivial, fun H3 s3 => ⟨_, rfl, ite2 (fun c => ?_) (fun c => ?_)⟩⟩
        · refine ⟨_, rfl, us, s3 _ _ hD, short _ _ hu, same_upd' nD (s2.trans s3), _, upd_same, ?_⟩
          rw [snoc he, if_neg (by rw [tB c]; decide)]
          exact dpSnoc hu (.cons hx .nil)
        · refine ⟨s2.trans s3, us, s3 _ _ hD, ?_⟩
          rw [snoc he, if_pos (fB c), List.append_nil]
          exact hu
      · rintro H2 ⟨s2, us, hD, hu⟩
        rw [hl, List.take_length] at hu
        exact k H2 D us s2 nD hD hu
end
end K5

set_option Elab.async false
set_option linter.all false
set_option maxRecDepth 100000
set_option maxHeartbeats 4000000
namespace K5
open PySem PySem.Spec PyProof.Rows L2
open K1 (FnP top Nm wm)
/-! ### templates written out, lanes told -/
def szW (ds : List PyData) (n : Nat) : List PyData := noNm (wrt ds n)
def filledN (ds : List PyData) (n : Nat) : Nat := (szW ds 0).length + (match ds.find? isFl with
  | some f => n * (noNm (itemsOf (itemAt f 1))).length
  | none => 0)
def toldN (g : Gr) (col : Bool) (n : Nat) : Nat := max (filledN (itemsOf (tmplT g col)) n) (wideOf g.rows col)
/-- the template of an axis is one -/
def TmG (g : Gr) (col : Bool) : Prop := ∃ ds, tmplT g col = .tuple ds ∧ TmC ds
section
variable {P : Program} {w : World} {K : PySem.W.Frag} {mg : Str → Option Value} {base : Heap} {C fI fE : Addr}
def spWE (K : PySem.W.Frag) : Sp := fun vs H Q _ => ∃ (v : V) (ds : List PyData) (n : Nat), vs = [v, .int (n : Int)] ∧ Dp K H v (.tuple ds) ∧ TmC ds ∧ n ≤ 60 ∧ ∀ H' q us, Same H H' → H q = none → H' q = some (.lst us) → DpAll K H us (wrt ds n) → Q (.ref q) H'
theorem scWrE : FnScope ["template", "count", "entries", "entry"] ["template", "count"] (defScope (top 88)) := ⟨rfl, rfl, rfl, by decide +kernel, rfl, by decide +kernel, by decide +kernel⟩
theorem ok_wre {f f1 f2 : Addr} {fd d1 d2 : FuncData} (F : FnP K "written_entries" (top 88) f fd) (d_is_marked : D3 P w K mg base "is_marked" "value" "word" "many" 2 (spMark K) f1 d1) (d_is_fill : D1 P w K mg base "is_fill" "entry" 3 (spQ K any isFl) f2 d2) : FnOk P w K mg base CX0 4 f fd ["template", "count"] (spWE K) := by
  refine F.ok scWrE (fun vs H Q E h => ?_) (fun cdv A outer s H vs Q E hr h => ?_)
  · obtain ⟨v, ds, n, rfl, _⟩ := h
    rfl
  · obtain ⟨v, ds, n, rfl, hd, ⟨hn, hc⟩, n60, k⟩ := h
    refine ⟨_, PSs.nox (pss_cons (ps_set (i := 2) scWrE.nd rfl (Or.inl rfl) (pe_lst pa_nil))
  (pss_cons (ps_for PassesOwn.never rfl (pi_tup (pv 0))
    (pg_name (i := 3) scWrE.nd rfl (Or.inl rfl))
    (pss_one (ps_if (pt_val (pe_call d_is_marked.G (hr.mono (by decide)) (by rfl) d_is_marked.g d_is_marked.kp d_is_marked.b .nil pass0 (pa_cons (pv 3) (pa_cons pe_str (pa_cons pe_int pa_nil)))))
    (pss_one (ps_expr (pe_bm PySem.F.plainAttrs_list PySem.F.slot_list_extend PySem.F.type_list_extend mt_extendT (pv 2) (pa_cons (pe_op op_repTA (pe_ix ix_tup (pv 3) pe_int (fun _ _ => rfl)) (pe_ix ix_tup (pv 3) pe_int (fun _ _ => rfl))) pa_nil))))
    (pss_one (ps_if (pt_val (pe_call d_is_fill.G (hr.mono (by decide)) (by rfl) d_is_fill.g d_is_fill.kp d_is_fill.b .nil pass0 (pa_cons (pv 3) pa_nil)))
    (pss_one (ps_expr (pe_bm PySem.F.plainAttrs_list PySem.F.slot_list_extend PySem.F.type_list_extend mt_extendT (pv 2) (pa_cons (pe_op op_repTA (pe_ix ix_tup (pv 3) pe_int (fun _ _ => rfl)) (pv 1)) pa_nil))))
    (pss_one (ps_expr (pe_bm PySem.F.plainAttrs_list PySem.F.slot_list_append PySem.F.type_list_append mt_append (pv 2) (pa_cons (pv 3) pa_nil)))))))))
  (pss_one (ps_ret (pv 2))))), ?_⟩
    cases hd with
    | @tup p xs _ ht hx =>
      have hl := dpLen hx
      refine ⟨(by show 0 ≤ sizeLine; decide), fun q nq => ?_⟩
      have s0 := same_upd (o := .lst []) nq
      refine ⟨_, rfl, p, rfl, ⟨xs, Same.seqT s0 ht⟩, for_tup (K := K) (a := p) (xs := xs) (fun i σ H' => Same H H' ∧ ∃ us u, H' q = some (.lst us) ∧ DpAll K H us (wrt (ds.take i) n) ∧ σ = [some (.ref p), some (.int (n : Int)), some (.ref q), u]) ⟨s0, [], _, upd_same, .nil, rfl⟩ (fun i σ H' _ h => Same.seqT h.1 ht) ?_ ?_⟩
      · rintro i x σ H2 hi ⟨s2, us, u, hq, hus, rfl⟩
        have hi' := (List.getElem?_eq_some_iff.mp hi).1
        have he : ds[i]? = some (ds[i]'(by omega)) := List.getElem?_eq_getElem _
        obtain ⟨u', eu, hu⟩ := dpAt i hx he
        rw [hi] at eu
        cases eu
        have hm : ds[i]'(by omega) ∈ ds := List.getElem_mem _
        generalize ds[i]'(by omega) = e at he hu hm
        have ce := hc e hm
        have lus : us.length + 6000 ≤ sizeLine := by
          rw [dpLen hus, sizeLine_eq]
          have l1 := wrt_len (ds.take i) (n := n) (fun y hy => hc y (List.mem_of_mem_take hy)) n60
          have l2 : (ds.take i).length ≤ i := by
            rw [List.length_take]
            exact Nat.min_le_left _ _
          have l3 : (ds.take i).length * 6000 ≤ 99 * 6000 := Nat.mul_le_mul_right _ (by omega)
          omega
        have l1e := wrtOne_len ce n60
        refine ⟨_, rfl, x, e, "repeat", 3, rfl, dpS s2 hu, by decide, fun H3 s3 => ⟨_, rfl, ite2 (fun c => ?_) (fun c => ?_)⟩⟩
        · have s23 := s2.trans s3
          have hm : isMark e "repeat" ((3 : Nat) : Int) = true := c
          obtain ⟨m, es, e1, hm20, e2, les⟩ := ce.1 c
          obtain ⟨pe, ye, v2, rfl, hT, ev2, hv2⟩ := dpItem hu hm 2 (by decide)
          obtain ⟨pe', ye', v1, ep, hT', ev1, hv1⟩ := dpItem hu hm 1 (by decide)
          cases ep
          rw [e1] at hv1
          cases hv1
          rw [e2] at hv2
          cases hv2 with
          | @tup r zs _ hr hz =>
            have lz := dpLen hz
            refine ⟨_, rfl, .inl ⟨rfl, _, SqL.of (s3 _ _ hq)⟩, _, rfl, pe, _, _, _, rfl, rfl, Same.seqT s23 hT, atI_nat (j := 2) ev2, _, rfl, pe, _, _, _, rfl, rfl, Same.seqT s23 hT', atI_nat (j := 1) ev1, ?_⟩
            refine ⟨r, (m : Int), zs, rfl, rfl, Same.seqT s23 hr, by omega, by omega, by omega, fun p2 H4 s4 hp2 => ⟨q, p2, us, _, rfl, rfl, s4 _ _ (s3 _ _ hq), hp2, ?_, same_upd' nq (s23.trans s4), _, _, upd_same, ?_, rfl⟩⟩
            · rw [Int.toNat_natCast, flat_len]
              have : m * zs.length ≤ 20 * 100 := Nat.mul_le_mul hm20 (by omega)
              omega
            · rw [wrt_snoc he, show wrtOne n e = (List.replicate m es).flatten by
                unfold wrtOne
                rw [if_pos (show isRp e = true from c), e1, e2]
                rfl]
              rw [Int.toNat_natCast]
              exact dpSnoc hus (dpRep hz m)
        · refine ⟨_, rfl, x, e, rfl, dpS (s2.trans s3) hu, trivial, fun H4 s4 => ⟨_, rfl, ite2 (fun c2 => ?_) (fun c2 => ?_)⟩⟩
          · have s24 := (s2.trans s3).trans s4
            obtain ⟨es, e1, les⟩ := ce.2 c2
            obtain ⟨z, hm⟩ : ∃ z, isMark e z ((2 : Nat) : Int) = true := by
              rcases Bool.or_eq_true_iff.mp (show (isMark e "fill" 2 || isMark e "fit" 2) = true from c2) with h | h
              · exact ⟨_, h⟩
              · exact ⟨_, h⟩
            obtain ⟨pe, ye, v1, rfl, hT, ev1, hv1⟩ := dpItem hu hm 1 (by decide)
            rw [e1] at hv1
            cases hv1 with
            | @tup r zs _ hr hz =>
              have lz := dpLen hz
              refine ⟨_, rfl, .inl ⟨rfl, _, SqL.of (s4 _ _ (s3 _ _ hq))⟩, _, rfl, pe, _, _, _, rfl, rfl, Same.seqT s24 hT, atI_nat (j := 1) ev1, _, rfl, ?_⟩
              refine ⟨r, (n : Int), zs, rfl, rfl, Same.seqT s24 hr, by omega, by omega, by omega, fun p2 H5 s5 hp2 => ⟨q, p2, us, _, rfl, rfl, s5 _ _ (s4 _ _ (s3 _ _ hq)), hp2, ?_, same_upd' nq (s24.trans s5), _, _, upd_same, ?_, rfl⟩⟩
              · rw [Int.toNat_natCast, flat_len]
                have : n * zs.length ≤ 60 * 100 := Nat.mul_le_mul n60 (by omega)
                omega
              · rw [wrt_snoc he, show wrtOne n e = (List.replicate n es).flatten by
                  unfold wrtOne
                  rw [if_neg (show ¬ isRp e = true from c), if_pos c2, e1]
                  rfl]
                rw [Int.toNat_natCast]
                exact dpSnoc hus (dpRep hz n)
          · have s24 := (s2.trans s3).trans s4
            have hq4 := s4 _ _ (s3 _ _ hq)
            refine ⟨_, rfl, .inl ⟨rfl, _, SqL.of hq4⟩, _, rfl, q, _, _, rfl, rfl, hq4, by omega, same_upd' nq s24, _, _, upd_same, ?_, rfl⟩
            rw [wrt_snoc he, show wrtOne n e = [e] by
              unfold wrtOne
              rw [if_neg (show ¬ isRp e = true from c), if_neg c2]]
            exact dpSnoc hus (.cons hu .nil)
      · rintro σ H2 ⟨s2, us, u, hq, hus, rfl⟩
        rw [hl, List.take_length] at hus
        exact ⟨_, rfl, k H2 q us s2 nq hq hus⟩
def spWS (K : PySem.W.Frag) : Sp := fun vs H Q _ => ∃ (v : V) (ds : List PyData) (n : Nat), vs = [v, .int (n : Int)] ∧ Dp K H v (.tuple ds) ∧ TmC ds ∧ n ≤ 60 ∧ ∀ H' q us, Same H H' → H q = none → H' q = some (.lst us) → DpAll K H' us (szW ds n) → Q (.ref q) H'
theorem scWrS : FnScope ["template", "count"] ["template", "count"] (defScope (top 89)) := ⟨rfl, rfl, rfl, by decide +kernel, rfl, by decide +kernel, by decide +kernel⟩
theorem ok_wrs {f f1 f2 : Addr} {fd d1 d2 : FuncData} (F : FnP K "written_sizes" (top 89) f fd) (d_written_entries : D2 P w K mg base "written_entries" "template" "count" 4 (spWE K) f1 d1) (d_inner_sizes : D1 P w K mg base "inner_sizes" "entries" 4 (spLs K noNm) f2 d2) : FnOk P w K mg base CX0 5 f fd ["template", "count"] (spWS K) := by
  refine F.ok scWrS (fun vs H Q E h => ?_) (fun cdv A outer s H vs Q E hr h => ?_)
  · obtain ⟨v, ds, n, rfl, _⟩ := h
    rfl
  · obtain ⟨v, ds, n, rfl, hd, hc, n60, k⟩ := h
    refine ⟨_, PSs.nox (pss_one (ps_ret (pe_call d_inner_sizes.G (hr.mono (by decide)) (by rfl) d_inner_sizes.g d_inner_sizes.kp d_inner_sizes.b .nil pass0 (pa_cons (pe_call d_written_entries.G (hr.mono (by decide)) (by rfl) d_written_entries.g d_written_entries.kp d_written_entries.b .nil pass0 (pa_cons (pv 0) (pa_cons (pv 1) pa_nil))) pa_nil)))), ?_⟩
    refine ⟨_, rfl, _, rfl, v, ds, n, rfl, hd, hc, n60, fun H1 q us s1 nq hq hu => ?_⟩
    refine ⟨_, wrt ds n, q, us, rfl, rfl, .inl (SqL.of hq), dpSA s1 hu, ?_, fun H2 q2 us2 s2 nq2 hq2 hu2 => k H2 q2 us2 (s1.trans s2) (none_of s1 nq2) hq2 (dpSA s2 hu2)⟩
    have := wrt_len ds (n := n) hc.2 n60
    have h2 : ds.length * 6000 ≤ 100 * 6000 := Nat.mul_le_mul_right _ hc.1
    omega
def spFi (K : PySem.W.Frag) : Sp := fun vs H Q _ => ∃ (v : V) (ds : List PyData) (n : Nat), vs = [v, .int (n : Int)] ∧ Dp K H v (.tuple ds) ∧ TmC ds ∧ n ≤ 1000 ∧ ∀ H', Same H H' → Q (.int (filledN ds n : Nat)) H'
theorem find_fl {ds : List PyData} {f : PyData} (h : TmC ds) (e : ds.find? isFl = some f) : (∃ z, isMark f z ((2 : Nat) : Int) = true) ∧ ∃ es, itemAt f 1 = .tuple es ∧ es.length ≤ 100 := by
  have hf : isFl f = true := List.find?_some e
  refine ⟨?_, (h.2 f (List.mem_of_find?_eq_some e)).2 hf⟩
  rcases Bool.or_eq_true_iff.mp (show (isMark f "fill" 2 || isMark f "fit" 2) = true from hf) with q | q
  · exact ⟨_, q⟩
  · exact ⟨_, q⟩
theorem scFiL : FnScope ["template", "count", "filler"] ["template", "count"] (defScope (top 90)) := ⟨rfl, rfl, rfl, by decide +kernel, rfl, by decide +kernel, by decide +kernel⟩
theorem ok_fil {f f1 f2 f3 : Addr} {fd d1 d2 d3 : FuncData} (F : FnP K "filled_lanes" (top 90) f fd) (N : Nm mg) (d_filler_of : D1 P w K mg base "filler_of" "template" 4 (spFo K) f1 d1) (d_written_sizes : D2 P w K mg base "written_sizes" "template" "count" 5 (spWS K) f2 d2) (d_inner_sizes : D1 P w K mg base "inner_sizes" "entries" 4 (spLs K noNm) f3 d3) : FnOk P w K mg base CX0 6 f fd ["template", "count"] (spFi K) := by
  refine F.ok scFiL (fun vs H Q E h => ?_) (fun cdv A outer s H vs Q E hr h => ?_)
  · obtain ⟨v, ds, n, rfl, _⟩ := h
    rfl
  · obtain ⟨v, ds, n, rfl, hd, hc, hn, k⟩ := h
    refine ⟨_, PSs.nox (pss_cons (ps_set (i := 2) scFiL.nd rfl (Or.inl rfl) (pe_call d_filler_of.G (hr.mono (by decide)) (by rfl) d_filler_of.g d_filler_of.kp d_filler_of.b .nil pass0 (pa_cons (pv 0) pa_nil)))
  (pss_cons (ps_if (pt_cmp (pc_isN (pv 2)))
    (pss_one (ps_ret (pe_callB call_len_seq (by rfl) N.len PySem.boot_len (pa_cons (pe_call d_written_sizes.G (hr.mono (by decide)) (by rfl) d_written_sizes.g d_written_sizes.kp d_written_sizes.b .nil pass0 (pa_cons (pv 0) (pa_cons pe_int pa_nil))) pa_nil))))
    pss_nil)
  (pss_one (ps_ret (pe_op op_add (pe_callB call_len_seq (by rfl) N.len PySem.boot_len (pa_cons (pe_call d_written_sizes.G (hr.mono (by decide)) (by rfl) d_written_sizes.g d_written_sizes.kp d_written_sizes.b .nil pass0 (pa_cons (pv 0) (pa_cons pe_int pa_nil))) pa_nil)) (pe_op op_mulW (pv 1) (pe_callB call_len_seq (by rfl) N.len PySem.boot_len (pa_cons (pe_call d_inner_sizes.G (hr.mono (by decide)) (by rfl) d_inner_sizes.g d_inner_sizes.kp d_inner_sizes.b .nil pass0 (pa_cons (pe_ix ix_tup (pv 2) pe_int (fun _ _ => rfl)) pa_nil)) pa_nil)))))))), ?_⟩
    refine ⟨_, rfl, v, ds, rfl, hd, fun H1 x s1 hx => ?_⟩
    cases hf : ds.find? isFl with
    | none =>
      rw [show fillerOf ds = .none by unfold fillerOf; rw [hf]; rfl] at hx
      cases hx
      refine ⟨_, rfl, true, rfl, iteT ⟨_, rfl, v, ds, 0, rfl, dpS s1 hd, hc, by decide, fun H2 q us s2 nq hq hu => ⟨q, us, rfl, .inl (SqL.of hq), ?_⟩⟩⟩
      have e : us.length = filledN ds n := by
        unfold filledN
        rw [hf, dpLen hu]
        rfl
      rw [e]
      exact k H2 (s1.trans s2)
    | some fl =>
      rw [show fillerOf ds = fl by unfold fillerOf; rw [hf]; rfl] at hx
      obtain ⟨⟨z, hm⟩, es, e1, les⟩ := find_fl hc hf
      obtain ⟨pe, ye, v1, rfl, hT, ev1, hv1⟩ := dpItem hx hm 1 (by decide)
      rw [e1] at hv1
      cases hv1 with
      | @tup r zs _ hr hz =>
        have lz := dpLen hz
        refine ⟨_, rfl, false, rfl, iteF ⟨_, rfl, v, ds, 0, rfl, dpS s1 hd, hc, by decide, fun H2 q us s2 nq hq hu => ⟨q, us, rfl, .inl (SqL.of hq), ?_⟩⟩⟩
        refine ⟨_, rfl, _, rfl, pe, _, _, _, rfl, rfl, Same.seqT s2 hT, atI_nat (j := 1) ev1, ?_⟩
        refine ⟨_, es, r, zs, rfl, rfl, .inr (Same.seqT s2 hr), dpSA s2 hz, by omega, fun H3 q2 us2 s3 nq2 hq2 hu2 => ⟨q2, us2, rfl, .inl (SqL.of hq2), ?_⟩⟩
        have l2 : us2.length ≤ 100 := by
          rw [dpLen hu2]
          exact Nat.le_trans (List.length_filter_le _ _) les
        refine ⟨_, _, rfl, rfl, wm (by omega) (by omega), _, _, rfl, rfl, ?_⟩
        have e : ((us.length : Nat) : Int) + (n : Int) * ((us2.length : Nat) : Int) = ((filledN ds n : Nat) : Int) := by
          unfold filledN
          rw [hf, dpLen hu, dpLen hu2]
          show _ = (((szW ds 0).length + n * (noNm (itemsOf (itemAt fl 1))).length : Nat) : Int)
          rw [e1, Int.natCast_add, Int.natCast_mul]
          rfl
        have q := k H3 ((s1.trans s2).trans s3)
        rw [← e] at q
        exact q
def spTL (K : PySem.W.Frag) (C : Addr) : Sp := fun vs H Q _ => ∃ (a : Addr) (xs : List V) (g : Gr) (col : Bool) (n : Nat), vs = [.ref a, .str (axS col), .int (n : Int)] ∧ GridAt K C H a xs g.ds ∧ TmG g col ∧ n ≤ 1000 ∧ ∀ H', Same H H' → Q (.int (toldN g col n : Nat)) H'
theorem scTL : FnScope ["grid", "axis", "count"] ["grid", "axis", "count"] (defScope (top 91)) := ⟨rfl, rfl, rfl, by decide +kernel, rfl, by decide +kernel, by decide +kernel⟩
theorem ok_tl {f f1 f2 f3 : Addr} {fd d1 d2 d3 : FuncData} (F : FnP K "told_lanes" (top 91) f fd) (N : Nm mg) (hmax : mg "max" = none) (d_template_of : D2 P w K mg base "template_of" "grid" "axis" 4 (spGA K C tmplT) f1 d1) (d_filled_lanes : D2 P w K mg base "filled_lanes" "template" "count" 6 (spFi K) f2 d2) (d_field_lanes : D2 P w K mg base "field_lanes" "grid" "axis" 1 (spGN K C fun g col => wideOf g.rows col) f3 d3) :
    FnOk P w K mg base CX0 7 f fd ["grid", "axis", "count"] (spTL K C) := by
  refine F.ok scTL (fun vs H Q E h => ?_) (fun cdv A outer s H vs Q E hr h => ?_)
  · obtain ⟨a, xs, g, col, n, rfl, _⟩ := h
    rfl
  · obtain ⟨a, xs, g, col, n, rfl, hg, ⟨ds, et, hc⟩, hn, k⟩ := h
    refine ⟨_, PSs.nox (pss_one (ps_ret (pe_callB (call_max2 rfl) (by rfl) hmax (by decide +kernel) (pa_cons (pe_call d_filled_lanes.G (hr.mono (by decide)) (by rfl) d_filled_lanes.g d_filled_lanes.kp d_filled_lanes.b .nil pass0 (pa_cons (pe_call d_template_of.G (hr.mono (by decide)) (by rfl) d_template_of.g d_template_of.kp d_template_of.b .nil pass0 (pa_cons (pv 0) (pa_cons (pv 1) pa_nil))) (pa_cons (pv 2) pa_nil))) (pa_cons (pe_call d_field_lanes.G (hr.mono (by decide)) (by rfl) d_field_lanes.g d_field_lanes.kp d_field_lanes.b .nil pass0 (pa_cons (pv 0) (pa_cons (pv 1) pa_nil))) pa_nil))))), ?_⟩
    refine ⟨_, rfl, _, rfl, a, xs, g, col, rfl, hg, fun H1 x s1 hx => ?_⟩
    rw [et] at hx
    refine ⟨_, rfl, x, ds, n, rfl, hx, hc, hn, fun H2 s2 => ?_⟩
    have s12 := s1.trans s2
    refine ⟨_, rfl, _, rfl, a, xs, g, col, rfl, hg.same s12, fun H3 s3 => ⟨_, _, rfl, ?_⟩⟩
    have e : (if ((wideOf g.rows col : Nat) : Int) > ((filledN ds n : Nat) : Int) then ((wideOf g.rows col : Nat) : Int) else ((filledN ds n : Nat) : Int)) = ((toldN g col n : Nat) : Int) := by
      unfold toldN
      rw [et]
      show _ = ((max (filledN ds n) (wideOf g.rows col) : Nat) : Int)
      split <;> omega
    have q := k H3 (s12.trans s3)
    rw [← e] at q
    exact q
end
end K5

set_option Elab.async false
set_option linter.all false
set_option maxRecDepth 100000
set_option maxHeartbeats 4000000
namespace K5
open PySem PySem.Spec PyProof.Rows L2
open K1 (FnP top Nm wm)
/-! ### drawn data -/
/-- data of no great size: numbers, texts, tuples, at most n deep -/
def smN : Nat → PyData → Bool
  | _, .none => true
  | _, .bool _ => true
  | _, .int i => decide (i.natAbs < 2 ^ 98)
  | _, .str z => decide (z.length ≤ 1000) && (PyData.str z).canLay0
  | n + 1, .tuple ds => decide (ds.length ≤ 100) && ds.all (smN n)
  | _, _ => false
theorem smN_mono : ∀ (n : Nat) (d : PyData), smN n d = true → smN (n + 1) d = true
  | _, .none, _ => rfl
  | _, .bool _, _ => rfl
  | 0, .int _, h => h
  | _ + 1, .int _, h => h
  | 0, .str _, h => h
  | _ + 1, .str _, h => h
  | n + 1, .tuple ds, h => by
    obtain ⟨h1, h2⟩ := ba (show (decide (ds.length ≤ 100) && ds.all (smN n)) = true from h)
    show (decide (ds.length ≤ 100) && ds.all (smN (n + 1))) = true
    rw [h1, Bool.true_and, List.all_eq_true]
    exact fun e he => smN_mono n e (List.all_eq_true.mp h2 e he)
  | 0, .tuple _, h => nomatch h
  | 0, .list _, h => nomatch h
  | _ + 1, .list _, h => nomatch h
  | 0, .dict _, h => nomatch h
  | _ + 1, .dict _, h => nomatch h
theorem smN_le {m n : Nat} {d : PyData} (h : smN m d = true) (l : m ≤ n) : smN n d = true := by
  induction l with
  | refl => exact h
  | step _ ih => exact smN_mono _ _ ih
def Sm (d : PyData) : Prop := smN 20 d = true
theorem sm_tup {n : Nat} {ds : List PyData} (h : smN n (.tuple ds) = true) : ds.length ≤ 100 ∧ ∀ e ∈ ds, smN n e = true := by
  cases n with
  | zero => exact nomatch h
  | succ n =>
    obtain ⟨h1, h2⟩ := ba (show (decide (ds.length ≤ 100) && ds.all (smN n)) = true from h)
    exact ⟨of_decide_eq_true h1, fun e he => smN_mono _ _ (List.all_eq_true.mp h2 e he)⟩
theorem sm_mk {n : Nat} {ds : List PyData} (l : ds.length ≤ 100) (h : ∀ e ∈ ds, smN n e = true) : smN (n + 1) (.tuple ds) = true := by
  show (decide (ds.length ≤ 100) && ds.all (smN n)) = true
  rw [decide_eq_true l, Bool.true_and, List.all_eq_true]
  exact h
theorem sm_item {n : Nat} {d : PyData} (h : smN n d = true) (i : Nat) : smN n (itemAt d i) = true := by
  unfold itemAt
  split
  · rename_i ds
    obtain ⟨_, h2⟩ := sm_tup h
    rw [List.getD_eq_getElem?_getD]
    cases e : ds[i]? with
    | none => cases n <;> rfl
    | some x => exact h2 x (List.mem_of_getElem? e)
  · cases n <;> rfl
theorem sm_okL {n : Nat} {d : PyData} (h : smN n d = true) : okL d := fun hn => by
  rcases num_shape hn with ⟨i, rfl⟩ | ⟨t, b, rfl, hb⟩
  · have : smN n (.int i) = decide (i.natAbs < 2 ^ 98) := by cases n <;> rfl
    rw [this] at h
    exact ⟨of_decide_eq_true h, by show (1 : Int).natAbs < 2 ^ 98; decide⟩
  · obtain ⟨_, h2⟩ := sm_tup h
    have h3 := h2 (.int t) (by simp)
    have h4 := h2 (.int b) (by simp)
    rw [show smN n (.int t) = decide (t.natAbs < 2 ^ 98) by cases n <;> rfl] at h3
    rw [show smN n (.int b) = decide (b.natAbs < 2 ^ 98) by cases n <;> rfl] at h4
    exact ⟨of_decide_eq_true h3, of_decide_eq_true h4⟩
theorem sm_okS {n : Nat} {d : PyData} (h : smN n d = true) : okS d := ⟨sm_okL h, fun i => sm_okL (sm_item h i)⟩
theorem sm_okB {n : Nat} {d : PyData} (h : smN n d = true) : okB d := ⟨sm_okS h, fun i => sm_okS (sm_item h i)⟩
theorem sm_okZ {n : Nat} {d : PyData} (h : smN n d = true) : okZ d := fun z e => by
  subst e
  rw [show smN n (.str z) = (decide (z.length ≤ 1000) && (PyData.str z).canLay0) by cases n <;> rfl] at h
  exact of_decide_eq_true (ba h).1
theorem sm_okNs {n : Nat} {d : PyData} (h : smN n d = true) : okNs d := fun ds e => by
  subst e
  obtain ⟨h1, h2⟩ := sm_tup h
  exact ⟨by omega, fun e he => sm_okZ (h2 e he)⟩
theorem sm_okE {n : Nat} {d : PyData} (h : smN n d = true) : okE d := ⟨sm_okB h, sm_okNs (sm_item h 1)⟩
theorem sm_okIn {n : Nat} {d : PyData} (h : smN n d = true) : okIn d := fun ds e => by
  subst e
  obtain ⟨h1, h2⟩ := sm_tup h
  exact ⟨by omega, fun e he => sm_okE (h2 e he)⟩
theorem sm_okR {n : Nat} {d : PyData} (h : smN n d = true) : okR d := ⟨sm_okE h, sm_okIn (sm_item h 1), sm_okIn (sm_item h 2)⟩
theorem sm_items {n : Nat} {d : PyData} (h : smN n d = true) : (itemsOf d).length ≤ 100 ∧ ∀ e ∈ itemsOf d, smN n e = true := by
  unfold itemsOf
  split
  · exact sm_tup h
  · exact ⟨Nat.zero_le _, fun e he => nomatch he⟩
theorem sm_okEnt {n : Nat} {d : PyData} (h : smN n d = true) : okEnt d := fun ds e => by
  subst e
  obtain ⟨h1, h2⟩ := sm_tup h
  refine ⟨h1, fun e he => ⟨sm_okR (h2 e he), fun i => ?_⟩⟩
  obtain ⟨g1, g2⟩ := sm_items (sm_item (h2 e he) i)
  exact ⟨g1, fun e' he' => sm_okR (g2 e' he')⟩
theorem sm_okInh {n : Nat} {d : PyData} (h : smN n d = true) : okInh d := fun ds e => by
  have h := sm_item h 1
  rw [e] at h
  obtain ⟨h1, h2⟩ := sm_tup h
  exact ⟨by omega, fun e he => sm_okNs (h2 e he)⟩
theorem sm_all : ∀ (n : Nat) (ds : List PyData), (∀ d ∈ ds, d.canLay0 = true ∧ d.depth ≤ n) → PyData.canLayAll0 ds = true ∧ PyData.depthAll ds ≤ n
  | _, [], _ => ⟨rfl, Nat.zero_le _⟩
  | n, d :: ds, h => by
    obtain ⟨i1, i2⟩ := sm_all n ds fun x hx => h x (List.mem_cons_of_mem _ hx)
    obtain ⟨j1, j2⟩ := h d (List.mem_cons_self ..)
    refine ⟨by rw [PyData.canLayAll0, j1, i1]; rfl, ?_⟩
    rw [PyData.depthAll]
    exact Nat.max_le.mpr ⟨j2, i2⟩
theorem sm_lay : ∀ (n : Nat) (d : PyData), smN n d = true → d.canLay0 = true ∧ d.depth ≤ n + 1
  | n, .none, _ => ⟨rfl, by rw [PyData.depth]; omega⟩
  | n, .bool _, _ => ⟨rfl, by rw [PyData.depth]; omega⟩
  | n, .int _, _ => ⟨rfl, by rw [PyData.depth]; omega⟩
  | n, .str z, h => ⟨by
      rw [show smN n (.str z) = (decide (z.length ≤ 1000) && (PyData.str z).canLay0) by cases n <;> rfl] at h
      exact (ba h).2, by rw [PyData.depth]; omega⟩
  | n + 1, .tuple ds, h => by
    obtain ⟨h1, h2⟩ := ba (show (decide (ds.length ≤ 100) && ds.all (smN n)) = true from h)
    obtain ⟨i1, i2⟩ := sm_all (n + 1) ds fun x hx => sm_lay n x (List.all_eq_true.mp h2 x hx)
    exact ⟨by rw [PyData.canLay0]; exact i1, by rw [PyData.depth]; omega⟩
  | 0, .tuple _, h => nomatch h
  | 0, .list _, h => nomatch h
  | _ + 1, .list _, h => nomatch h
  | 0, .dict _, h => nomatch h
  | _ + 1, .dict _, h => nomatch h
theorem sm_sh {n : Nat} {d : PyData} (h : smN n d = true) (l : n ≤ 40) : SeqAt.shaped d = true := by
  obtain ⟨h1, h2⟩ := sm_lay n d h
  exact Bool.and_eq_true_iff.mpr ⟨h1, decide_eq_true (by omega)⟩
/-- what holds all but a list stays -/
theorem seqT_keep {K : PySem.W.Frag} {a : Addr} {H H' : Hp} {p : Addr} {xs ws : List V} (s : Keep a H H') (ha : H a = some (.lst ws)) (h : SqT K H p xs) : SqT K H' p xs := by
  have np : ∀ o : HO, H p = some o → (∀ w, o ≠ .lst w) → p ≠ a := fun o e n z => by
    rw [z, ha] at e
    injection e with e
    exact n _ e.symm
  rcases h with (h | ⟨o, h⟩) | h
  · exact .inl (.inl (s _ _ (np _ h (fun w e => nomatch e)) h))
  · exact .inl (.inr ⟨o, s _ _ (np _ h (fun w e => nomatch e)) h⟩)
  · exact .inr h
theorem dpKall {K : PySem.W.Frag} {H H' : Hp} {n : Nat} (f : ∀ (d : PyData) (v : V), smN n d = true → Dp K H v d → Dp K H' v d) : ∀ (ds : List PyData) (xs : List V), (∀ e ∈ ds, smN n e = true) → DpAll K H xs ds → DpAll K H' xs ds
  | [], _, _, h => by cases h; exact .nil
  | d :: ds, _, h2, h => by
    cases h with
    | cons q1 q2 => exact .cons (f d _ (h2 d (List.mem_cons_self ..)) q1) (dpKall f ds _ (fun e he => h2 e (List.mem_cons_of_mem _ he)) q2)
theorem dpK {K : PySem.W.Frag} {a : Addr} {H H' : Hp} {ws : List V} (s : Keep a H H') (ha : H a = some (.lst ws)) : ∀ (n : Nat) (d : PyData) (v : V), smN n d = true → Dp K H v d → Dp K H' v d
  | _, .none, _, _, h => by cases h; exact .non
  | _, .bool _, _, _, h => by cases h; exact .bl _
  | _, .int _, _, _, h => by cases h; exact .int _
  | _, .str _, _, _, h => by cases h; exact .str _
  | n + 1, .tuple ds, _, z, h => by
    obtain ⟨_, h2⟩ := ba (show (decide (ds.length ≤ 100) && ds.all (smN n)) = true from z)
    cases h with
    | tup h1 hx =>
      refine .tup (seqT_keep s ha h1) ?_
      exact dpKall (fun d v => dpK s ha n d v) ds _ (List.all_eq_true.mp h2) hx
  | 0, .tuple _, _, z, _ => nomatch z
  | 0, .list _, _, z, _ => nomatch z
  | _ + 1, .list _, _, z, _ => nomatch z
  | 0, .dict _, _, z, _ => nomatch z
  | _ + 1, .dict _, _, z, _ => nomatch z
theorem _root_.L2.Well.lst {H : Hp} {a : Addr} {n : Int} (h : Well H a n) : ∃ ws, H a = some (.lst ws) := by
  obtain ⟨w0, w1, w2, e, _⟩ := h
  exact ⟨_, e⟩
theorem _root_.L2.Well.same {H H' : Hp} {a : Addr} {n : Int} (h : Well H a n) (s : Same H H') : Well H' a n := by
  obtain ⟨w0, w1, w2, e, r⟩ := h
  exact ⟨w0, w1, w2, s _ _ e, r⟩
theorem _root_.L2.Well.mono {H : Hp} {a : Addr} {n m : Int} (h : Well H a n) (l : n ≤ m) : Well H a m := by
  obtain ⟨w0, w1, w2, e, h1, h2, h3, h4, h5⟩ := h
  exact ⟨w0, w1, w2, e, h1, h2, h3, h4, by omega⟩
theorem _root_.L2.But.keep {a : Addr} {H H' : Hp} (h : But a H H') : Keep a H H' := fun b o n e => (h b n).trans e
theorem well_tup {H : Hp} {a : Addr} {n : Int} {p : Addr} {o : HO} (h : Well H a n) (hp : H p = some o) (hn : ∀ w, o ≠ .lst w) : p ≠ a := fun z => by
  obtain ⟨w0, w1, w2, e, _⟩ := h
  rw [z, e] at hp
  injection hp with hp
  exact hn _ hp.symm
theorem well_new {H : Hp} {a : Addr} {n : Int} {p : Addr} (h : Well H a n) (hp : H p = none) : p ≠ a := fun z => by
  obtain ⟨w0, w1, w2, e, _⟩ := h
  rw [z, e] at hp
  cases hp
theorem _root_.L2.Well.updNe {H : Hp} {a b : Addr} {n : Int} {o : HO} (h : Well H a n) (hb : b ≠ a) : Well (upd H b o) a n := by
  obtain ⟨w0, w1, w2, e, r⟩ := h
  exact ⟨w0, w1, w2, by rw [upd_ne (Ne.symm hb)]; exact e, r⟩
theorem lstNew {H : Hp} {p : Addr} {xs : List V} (n : H p = none) : upd H p (.lst xs) p = some (.lst xs) := upd_same
theorem tupNew {K : PySem.W.Frag} {H : Hp} {p : Addr} {xs : List V} {ds : List PyData} (n : H p = none) (h : DpAll K (upd H p (.tup xs)) xs ds) : Dp K (upd H p (.tup xs)) (.ref p) (.tuple ds) := .tup (SqT.of upd_same) h
/-! ### lists of drawn data -/
def AllSm (ds : List PyData) : Prop := ∀ d ∈ ds, smN 20 d = true
def Bag (K : PySem.W.Frag) (H : Hp) (D : Addr) (ds : List PyData) : Prop := ∃ xs, H D = some (.lst xs) ∧ DpAll K H xs ds
theorem Bag.same {K : PySem.W.Frag} {H H' : Hp} {D : Addr} {ds : List PyData} (h : Bag K H D ds) (s : Same H H') : Bag K H' D ds := by
  obtain ⟨xs, h1, h2⟩ := h
  exact ⟨xs, s _ _ h1, dpSA s h2⟩
theorem Bag.keep {K : PySem.W.Frag} {H H' : Hp} {a D : Addr} {ds : List PyData} {ws : List V} (h : Bag K H D ds) (s : Keep a H H') (ha : H a = some (.lst ws)) (hD : D ≠ a) (hs : AllSm ds) : Bag K H' D ds := by
  obtain ⟨xs, h1, h2⟩ := h
  exact ⟨xs, s _ _ hD h1, dpKall (fun d v => dpK s ha 20 d v) ds xs hs h2⟩
theorem dpU {K : PySem.W.Frag} {H : Hp} {D : Addr} {ws : List V} {o : HO} (hD : H D = some (.lst ws)) {n : Nat} {d : PyData} {v : V} (z : smN n d = true) (h : Dp K H v d) : Dp K (upd H D o) v d := dpK (a := D) (Keep.upd (Keep.of (Same.refl H))) hD n d v z h
theorem Bag.push {K : PySem.W.Frag} {H : Hp} {D : Addr} {ds : List PyData} {xs : List V} {x : V} {d : PyData} (h1 : H D = some (.lst xs)) (h2 : DpAll K H xs ds) (hs : AllSm ds) (hd : Dp K H x d) (z : smN 20 d = true) : Bag K (upd H D (.lst (xs ++ [x]))) D (ds ++ [d]) :=
  ⟨_, upd_same, dpSnoc (dpKall (fun d v => dpK (a := D) (Keep.upd (Keep.of (Same.refl H))) h1 20 d v) ds xs hs h2) (.cons (dpU h1 z hd) .nil)⟩
theorem allSm_snoc {ds : List PyData} {d : PyData} (h : AllSm ds) (z : smN 20 d = true) : AllSm (ds ++ [d]) := fun e he => by
  rcases List.mem_append.mp he with h' | h'
  · exact h e h'
  · rw [List.mem_singleton] at h'
    rw [h']
    exact z
/-- drawn so far by a comprehension, in the list at D -/
def PvB (K : PySem.W.Frag) (a D : Addr) (H0 : Hp) (n c : Int) (Pd : PyData → Prop) (i : Nat) (H : Hp) : Prop := Keep a H0 H ∧ Well H a (n + c * (i : Int)) ∧ ∃ ds : List PyData, ds.length = i ∧ Bag K H D ds ∧ ∀ d ∈ ds, Pd d
theorem PvB.zero {K : PySem.W.Frag} {a D : Addr} {H : Hp} {n c : Int} {Pd : PyData → Prop} (w : Well H a n) (nD : H D = none) : PvB K a D H n c Pd 0 (upd H D (.lst [])) := by
  have s := same_upd (o := .lst []) nD
  refine ⟨Keep.of s, ?_, [], rfl, ⟨[], upd_same, .nil⟩, fun d h => nomatch h⟩
  rw [show n + c * ((0 : Nat) : Int) = n by rw [show ((0 : Nat) : Int) = 0 from rfl, Int.mul_zero, Int.add_zero]]
  exact w.same s
theorem PvB.next {K : PySem.W.Frag} {a D : Addr} {H0 H H' : Hp} {n c : Int} {Pd : PyData → Prop} {i : Nat} {x : V} {d : PyData} {m : Int} (hs : ∀ d, Pd d → smN 20 d = true) (nDa : D ≠ a) (nD0 : H0 D = none) (h : PvB K a D H0 n c Pd i H) (hi : i < 1000) (kp : Keep a H H') (w' : Well H' a m) (hm : m ≤ n + c * (i : Int) + c)
    (hd : Dp K H' x d) (pd : Pd d) : ∃ acc, H' D = some (.lst acc) ∧ acc.length < sizeLine ∧ PvB K a D H0 n c Pd (i + 1) (upd H' D (.lst (acc ++ [x]))) := by
  obtain ⟨k0, w, ds, hl, hb, hp⟩ := h
  have ss : AllSm ds := fun e he => hs e (hp e he)
  obtain ⟨xs, b1, b2⟩ := hb.keep kp w.lst.choose_spec nDa ss
  have lx : xs.length = i := by rw [dpLen b2, hl]
  refine ⟨xs, b1, by rw [lx]; exact Nat.lt_trans hi (by decide), fun b o nb e => ?_, (w'.mono ?_).updNe nDa, ds ++ [d], by rw [List.length_append, hl]; rfl, Bag.push b1 b2 ss hd (hs d pd), fun e he => ?_⟩
  · rw [upd_ne (ne_of_none e nD0)]
    exact kp _ _ nb (k0 _ _ nb e)
  · rw [show ((i + 1 : Nat) : Int) = (i : Int) + 1 by omega, Int.mul_add, Int.mul_one, ← Int.add_assoc]
    exact hm
  · rcases List.mem_append.mp he with h' | h'
    · exact hp e h'
    · rw [List.mem_singleton] at h'
      rw [h']
      exact pd
end K5

set_option Elab.async false
set_option linter.all false
set_option maxRecDepth 100000
set_option maxHeartbeats 4000000
namespace K5
open PySem PySem.Spec PyProof.Rows L2
open K1 (FnP top Nm wm)
/-! ### sizes of all lanes -/
def moreAt (ds : List PyData) (i : Int) : PyData := ds.getD (i.fmod (ds.length : Int)).toNat .none
def betw (ms w : List PyData) (F B : Nat) : List PyData := ((List.range F).map fun (j : Nat) => moreAt ms (-(F : Int) + (j : Int))) ++ w ++ ((List.range (B - w.length)).map fun (j : Nat) => moreAt ms (j : Int))
theorem lstNew' {H : Hp} {p : Addr} {xs : List V} : upd H p (.lst xs) p = some (.lst xs) := upd_same
/-- so far, by a comprehension, in the list at D -/
def PvS (K : PySem.W.Frag) (D : Addr) (H0 : Hp) (f : Nat → PyData) (i : Nat) (H : Hp) : Prop := Same H0 H ∧ Bag K H D ((List.range i).map f)
theorem PvS.next {K : PySem.W.Frag} {D : Addr} {H0 H H' : Hp} {f : Nat → PyData} {i : Nat} {x : V} (hs : ∀ i, smN 20 (f i) = true) (nD0 : H0 D = none) (h : PvS K D H0 f i H) (hi : i < 1000) (s : Same H H') (hd : Dp K H' x (f i)) :
    ∃ acc, H' D = some (.lst acc) ∧ acc.length < sizeLine ∧ PvS K D H0 f (i + 1) (upd H' D (.lst (acc ++ [x]))) := by
  obtain ⟨s0, hb⟩ := h
  have ss : AllSm ((List.range i).map f) := fun e he => by
    obtain ⟨j, _, rfl⟩ := List.mem_map.mp he
    exact hs j
  obtain ⟨xs, b1, b2⟩ := hb.same s
  have lx : xs.length = i := by rw [dpLen b2, List.length_map, List.length_range]
  refine ⟨xs, b1, by rw [lx]; exact Nat.lt_trans hi (by decide), same_upd' nD0 (s0.trans s), ?_⟩
  rw [List.range_succ, List.map_append]
  exact Bag.push b1 b2 ss hd (hs i)
section
variable {P : Program} {w : World} {K : PySem.W.Frag} {mg : Str → Option Value} {base : Heap} {C fI fE : Addr}
def spFu (K : PySem.W.Frag) (C : Addr) : Sp := fun vs H Q _ => ∃ (a : Addr) (xs : List V) (g : Gr) (col : Bool) (i : Int), vs = [.ref a, .str (axS col), .int i] ∧ GridAt K C H a xs g.ds ∧ moreT g col ≠ [] ∧ ∀ H' x, Same H H' → Dp K H' x (moreAt (moreT g col) i) → Q x H'
theorem scFu : FnScope ["grid", "axis", "index", "sizes"] ["grid", "axis", "index"] (defScope (top 94)) := ⟨rfl, rfl, rfl, by decide +kernel, rfl, by decide +kernel, by decide +kernel⟩
theorem ok_fu {f f1 : Addr} {fd d1 : FuncData} (F : FnP K "further_size" (top 94) f fd) (N : Nm mg) (d_further_sizes : D2 P w K mg base "further_sizes" "grid" "axis" 1 (spGA K C fun g col => .tuple (moreT g col)) f1 d1) : FnOk P w K mg base CX0 2 f fd ["grid", "axis", "index"] (spFu K C) := by
  refine F.ok scFu (fun vs H Q E h => ?_) (fun cdv A outer s H vs Q E hr h => ?_)
  · obtain ⟨a, xs, g, col, i, rfl, _⟩ := h
    rfl
  · obtain ⟨a, xs, g, col, i, rfl, hg, hne, k⟩ := h
    refine ⟨_, PSs.nox (pss_cons (ps_set (i := 3) scFu.nd rfl (Or.inl rfl) (pe_call d_further_sizes.G (hr.mono (by decide)) (by rfl) d_further_sizes.g d_further_sizes.kp d_further_sizes.b .nil pass0 (pa_cons (pv 0) (pa_cons (pv 1) pa_nil))))
  (pss_one (ps_ret (pe_ix ix_tup (pv 3) (pe_op op_modN (pv 2) (pe_callB call_len_seq (by rfl) N.len PySem.boot_len (pa_cons (pv 3) pa_nil))) (fun _ _ => rfl))))), ?_⟩
    refine ⟨_, rfl, _, rfl, a, xs, g, col, rfl, hg, fun H1 x s1 hx => ?_⟩
    cases hx with
    | @tup p ys _ ht hy =>
      have ly := dpLen hy
      have l0 : 0 < (moreT g col).length := List.length_pos_iff.mpr hne
      obtain ⟨r0, r1⟩ := fmod_in (x := i) (m := ((ys.length : Nat) : Int)) (by omega)
      obtain ⟨j, hj⟩ := Int.eq_ofNat_of_zero_le r0
      have hd : (moreT g col)[j]? = some ((moreT g col)[j]'(by omega)) := List.getElem?_eq_getElem _
      generalize (moreT g col)[j]'(by omega) = de at hd
      obtain ⟨u, eu, hu⟩ := dpAt j hy hd
      have em : moreAt (moreT g col) i = de := by
        have hj' := hj
        rw [ly] at hj'
        unfold moreAt
        rw [hj', List.getD_eq_getElem?_getD]
        show ((moreT g col)[((j : Nat) : Int).toNat]?).getD .none = de
        rw [Int.toNat_natCast, hd]
        rfl
      refine ⟨_, rfl, _, rfl, _, rfl, p, _, rfl, .inr ht, _, _, rfl, rfl, (by show ((ys.length : Nat) : Int) ≠ 0; omega), p, _, _, u, rfl, rfl, ht, ?_, ?_⟩
      · rw [hj]
        exact atI_nat eu
      · have q := k H1 u s1
        rw [em] at q
        exact q hu
def spBw (K : PySem.W.Frag) (C : Addr) : Sp := fun vs H Q _ => ∃ (a : Addr) (xs : List V) (g : Gr) (col : Bool) (n F B : Nat) (ds : List PyData), vs = [.ref a, .str (axS col), .int (n : Int), .int (-(F : Int)), .int (B : Int)] ∧ GridAt K C H a xs g.ds ∧ moreT g col ≠ [] ∧ AllSm (moreT g col) ∧ AllSm (szW ds n) ∧ tmplT g col = .tuple ds ∧ TmC ds ∧ n ≤ 60 ∧ F ≤ 60 ∧ B ≤ 60 ∧ (szW ds n).length ≤ B ∧
  ∀ H' q us, Same H H' → H q = none → H' q = some (.lst us) → DpAll K H' us (betw (moreT g col) (szW ds n) F B) → Q (.ref q) H'
theorem scBw : FnScope ["grid", "axis", "count", "first", "behind", "sizes", "lane", "ahead"] ["grid", "axis", "count", "first", "behind"] (defScope (top 95)) := ⟨rfl, rfl, rfl, by decide +kernel, rfl, by decide +kernel, by decide +kernel⟩
theorem ok_bw {f f1 f2 f3 : Addr} {fd d1 d2 d3 : FuncData} (F : FnP K "sizes_between" (top 95) f fd) (N : Nm mg) (d_further_size : D3 P w K mg base "further_size" "grid" "axis" "index" 2 (spFu K C) f1 d1) (d_template_of : D2 P w K mg base "template_of" "grid" "axis" 4 (spGA K C tmplT) f2 d2) (d_written_sizes : D2 P w K mg base "written_sizes" "template" "count" 5 (spWS K) f3 d3) :
    FnOk P w K mg base CX0 6 f fd ["grid", "axis", "count", "first", "behind"] (spBw K C) := by
  refine F.ok scBw (fun vs H Q E h => ?_) (fun cdv A outer s H vs Q E hr h => ?_)
  · obtain ⟨a, xs, g, col, n, F, B, ds, rfl, _⟩ := h
    rfl
  · obtain ⟨a, xs, g, col, n, FF, B, ds, rfl, hg, hne, am, aw, et, hc, n60, F60, B60, hB, k⟩ := h
    refine ⟨_, PSs.nox (pss_cons (ps_setLc (i := 5) (own := [("lane", 6)]) (g := gName 6) (tt := tYes) rfl scBw.nd rfl rfl (sw_true rfl rfl rfl (by decide +kernel)) (pi_range2 rfl N.rng (pa_cons (pv 3) (pa_cons pe_int pa_nil))) (blkOk_by (own := [("lane", 6)]) (N := ["grid", "axis", "count", "first", "behind", "sizes", "lane", "ahead"]) (sc := defScope (top 95)) (by decide +kernel)) (fun _ _ _ _ _ => (pg_name (i := 6) scBw.nd rfl (Or.inl rfl))) (fun _ _ _ _ _ => pts_nil) (fun _ _ _ _ _ => (pe_call d_further_size.G (hr.mono (by decide)) (by rfl) d_further_size.g d_further_size.kp d_further_size.b .nil pass0 (pa_cons (pv 0) (pa_cons (pv 1) (pa_cons (pv 6) pa_nil))))))
  (pss_cons (ps_expr (pe_bm PySem.F.plainAttrs_list PySem.F.slot_list_extend PySem.F.type_list_extend mt_extend (pv 5) (pa_cons (pe_call d_written_sizes.G (hr.mono (by decide)) (by rfl) d_written_sizes.g d_written_sizes.kp d_written_sizes.b .nil pass0 (pa_cons (pe_call d_template_of.G (hr.mono (by decide)) (by rfl) d_template_of.g d_template_of.kp d_template_of.b .nil pass0 (pa_cons (pv 0) (pa_cons (pv 1) pa_nil))) (pa_cons (pv 2) pa_nil))) pa_nil)))
  (pss_cons (ps_set (i := 7) scBw.nd rfl (Or.inr rfl) (pe_op op_add (pe_callB call_len_seq (by rfl) N.len PySem.boot_len (pa_cons (pv 5) pa_nil)) (pv 3)))
  (pss_cons (ps_expr (pe_bm PySem.F.plainAttrs_list PySem.F.slot_list_extend PySem.F.type_list_extend mt_extend (pv 5) (pa_cons (pe_lc (own := [("lane", 6)]) (g := gName 6) (tt := tYes) rfl scBw.nd (pi_range2 rfl N.rng (pa_cons (pv 7) (pa_cons (pv 4) pa_nil))) (blkOk_by (own := [("lane", 6)]) (N := ["grid", "axis", "count", "first", "behind", "sizes", "lane", "ahead"]) (sc := defScope (top 95)) (by decide +kernel)) (fun _ _ _ _ _ => (pg_name (i := 6) scBw.nd rfl (Or.inl rfl))) (fun _ _ _ _ _ => pts_nil) (fun _ _ _ _ _ => (pe_call d_further_size.G (hr.mono (by decide)) (by rfl) d_further_size.g d_further_size.kp d_further_size.b .nil pass0 (pa_cons (pv 0) (pa_cons (pv 1) (pa_cons (pe_op op_sub (pv 6) (pv 7)) pa_nil)))))) pa_nil)))
  (pss_one (ps_ret (pv 5))))))), ?_⟩
    have fm : ∀ i : Int, smN 20 (moreAt (moreT g col) i) = true := fun i => by
      unfold moreAt
      rw [List.getD_eq_getElem?_getD]
      cases e : (moreT g col)[(i.fmod ((moreT g col).length : Int)).toNat]? with
      | none => rfl
      | some d => exact am d (List.mem_of_getElem? e)
    refine ⟨_, rfl, -(FF : Int), 0, rfl, ⟨by omega, by omega, by decide, by decide⟩, fun D nD => ?_⟩
    refine lc_range (lo := -(FF : Int)) (n := (0 - -(FF : Int)).toNat) (PvS K D H fun j => moreAt (moreT g col) (-(FF : Int) + (j : Int))) ⟨same_upd nD, [], upd_same, .nil⟩ ?_ ?_
    · rintro i H2 hi pv
      refine ⟨rfl, iteT (B := PvS K D H (fun j => moreAt (moreT g col) (-(FF : Int) + (j : Int))) (i + 1) H2) ?_⟩
      exact ⟨_, rfl, _, rfl, _, rfl, a, xs, g, col, _, rfl, hg.same pv.1, hne, fun H3 x s3 hx => pv.next (fun j => fm _) nD (by omega) s3 hx⟩
    rintro H2 ⟨s2, hb2⟩
    rw [show (0 - -(FF : Int)).toNat = FF by omega] at hb2
    obtain ⟨us2, hD2, _⟩ := id hb2
    refine ⟨_, rfl, .inl ⟨rfl, _, SqL.of hD2⟩, _, rfl, _, rfl, a, xs, g, col, rfl, hg.same s2, fun H3 x s3 hx => ?_⟩
    rw [et] at hx
    refine ⟨_, rfl, x, ds, n, rfl, hx, hc, n60, fun H4 q us s4 nq hq hu => ?_⟩
    have s24 := (s2.trans s3).trans s4
    obtain ⟨us4, hD4, hu4⟩ := hb2.same (s3.trans s4)
    have l4 : us4.length = FF := by rw [dpLen hu4, List.length_map, List.length_range]
    have l5 : us.length ≤ 60 := by
      rw [dpLen hu]
      exact Nat.le_trans hB B60
    have lw : us.length = (szW ds n).length := dpLen hu
    have aA : AllSm ((List.range FF).map fun (j : Nat) => moreAt (moreT g col) (-(FF : Int) + (j : Int))) := fun e he => by
      obtain ⟨j, _, rfl⟩ := List.mem_map.mp he
      exact fm _
    have up : ∀ {G : Hp} {ws vs : List V} {o : HO} {es : List PyData}, G D = some (.lst ws) → AllSm es → DpAll K G vs es → DpAll K (upd G D o) vs es := fun {G ws vs o es} hG ha h => dpKall (fun d v => dpK (a := D) (Keep.upd (o := o) (Keep.of (Same.refl G))) hG 20 d v) es vs ha h
    refine ⟨D, q, us4, us, rfl, rfl, hD4, hq, by rw [sizeLine_eq]; omega, ?_⟩
    have u1 := up (o := .lst (us4 ++ us)) hD4 aA hu4
    have u2 := up (o := .lst (us4 ++ us)) hD4 aw hu
    have hG := lstNew' (H := H4) (p := D) (xs := us4 ++ us)
    have sG := same_upd' (o := .lst (us4 ++ us)) nD s24
    generalize upd H4 D (.lst (us4 ++ us)) = G at u1 u2 hG sG ⊢
    have lG : (us4 ++ us).length = FF + us.length := by rw [List.length_append, l4]
    refine ⟨_, rfl, D, _, rfl, .inl (SqL.of hG), _, rfl, _, _, rfl, rfl, ?_⟩
    have eW : (((us4 ++ us).length : Nat) : Int) + -(FF : Int) = ((us.length : Nat) : Int) := by
      rw [lG]
      omega
    refine ⟨_, rfl, .inl ⟨rfl, _, SqL.of hG⟩, _, rfl, _, rfl, _, _, rfl, ⟨by omega, by omega, by omega, by omega⟩, fun D2 nD2 => ?_⟩
    have eN : ((B : Int) - ((((us4 ++ us).length : Nat) : Int) + -(FF : Int))).toNat = B - us.length := by
      rw [eW]
      omega
    refine lc_range (n := ((B : Int) - ((((us4 ++ us).length : Nat) : Int) + -(FF : Int))).toNat) (PvS K D2 G fun j => moreAt (moreT g col) (j : Int)) ⟨same_upd nD2, [], upd_same, .nil⟩ ?_ ?_
    · rintro i H5 hi pv
      refine ⟨rfl, iteT (B := PvS K D2 G (fun j => moreAt (moreT g col) (j : Int)) (i + 1) H5) ?_⟩
      refine ⟨_, rfl, _, rfl, _, rfl, _, rfl, _, _, rfl, rfl, a, xs, g, col, _, rfl, hg.same (sG.trans pv.1), hne, fun H6 x s6 hx => pv.next (fun j => fm _) nD2 (by omega) s6 ?_⟩
      rw [show ((((us4 ++ us).length : Nat) : Int) + -(FF : Int)) + (i : Int) - ((((us4 ++ us).length : Nat) : Int) + -(FF : Int)) = (i : Int) by omega] at hx
      exact hx
    rintro H5 ⟨s5, hb5⟩
    rw [eN] at hb5
    obtain ⟨us5, hD5, hu5⟩ := hb5
    have aB : AllSm ((List.range (B - us.length)).map fun (j : Nat) => moreAt (moreT g col) (j : Int)) := fun e he => by
      obtain ⟨j, _, rfl⟩ := List.mem_map.mp he
      exact fm _
    have l6 : us5.length ≤ 60 := by
      rw [dpLen hu5, List.length_map, List.length_range]
      omega
    have hG5 := s5 _ _ hG
    refine ⟨D, D2, _, us5, rfl, rfl, hG5, hD5, by rw [sizeLine_eq]; omega, ?_⟩
    have w1 := up (o := .lst ((us4 ++ us) ++ us5)) hG5 aA (dpSA s5 u1)
    have w2 := up (o := .lst ((us4 ++ us) ++ us5)) hG5 aw (dpSA s5 u2)
    have w3 := up (o := .lst ((us4 ++ us) ++ us5)) hG5 aB hu5
    refine ⟨_, rfl, k _ D _ (same_upd' nD (sG.trans s5)) nD upd_same ?_⟩
    unfold betw
    rw [← lw]
    exact dpSnoc (dpSnoc w1 w2) w3
end
end K5

set_option Elab.async false
set_option linter.all false
set_option maxRecDepth 100000
set_option maxHeartbeats 4000000
namespace K5
open PySem PySem.Spec PyProof.Rows L2
open K1 (FnP top Nm wm)
/-! ### template_sizes, lane_count, lane_sizes -/
theorem szW_cons (e : PyData) (ds : List PyData) (n : Nat) : szW (e :: ds) n = noNm (wrtOne n e) ++ szW ds n := by
  unfold szW wrt noNm
  rw [List.flatMap_cons, List.filter_append]
theorem szW_app (l r : List PyData) (n : Nat) : szW (l ++ r) n = szW l n ++ szW r n := by
  unfold szW wrt noNm
  rw [List.flatMap_append, List.filter_append]
theorem wrtOne_no {e : PyData} (h : isFl e = false) (n : Nat) : wrtOne n e = wrtOne 0 e := by
  unfold wrtOne
  rw [h]
  rfl
theorem szW_no : ∀ (ds : List PyData) (n : Nat), (∀ e ∈ ds, isFl e = false) → szW ds n = szW ds 0
  | [], _, _ => rfl
  | e :: ds, n, h => by
    rw [szW_cons, szW_cons, wrtOne_no (h e (List.mem_cons_self ..)), szW_no ds n fun x hx => h x (List.mem_cons_of_mem _ hx)]
theorem fl_rp {e : PyData} (h : isFl e = true) : isRp e = false := by
  cases q : isRp e with
  | false => rfl
  | true =>
    rcases Bool.or_eq_true_iff.mp (show (isMark e "fill" 2 || isMark e "fit" 2) = true from h) with p | p
    · exact absurd (mark_uniq p q) (by decide)
    · exact absurd (mark_uniq p q) (by decide)
theorem filter_rep (l : List PyData) : ∀ n, noNm (List.replicate n l).flatten = (List.replicate n (noNm l)).flatten
  | 0 => rfl
  | n + 1 => by
    rw [List.replicate_succ, List.replicate_succ, List.flatten_cons, List.flatten_cons, ← filter_rep l n]
    unfold noNm
    rw [List.filter_append]
theorem szW_len {ds : List PyData} (h1 : (ds.filter isFl).length ≤ 1) (n : Nat) : (szW ds n).length = filledN ds n := by
  unfold filledN
  cases hf : ds.find? isFl with
  | none =>
    have hn : ∀ e ∈ ds, isFl e = false := fun e he => Bool.eq_false_iff.mpr (List.find?_eq_none.mp hf e he)
    rw [szW_no ds n hn]
    rfl
  | some f =>
    obtain ⟨ff, l, r, rfl, hl⟩ := List.find?_eq_some_iff_append.mp hf
    have hl : ∀ e ∈ l, isFl e = false := fun e he => by
      have := hl e he
      rw [Bool.not_eq_true'] at this
      exact this
    rw [List.filter_append, List.filter_cons_of_pos ff, List.length_append, List.length_cons] at h1
    have hr : r.filter isFl = [] := List.eq_nil_of_length_eq_zero (by omega)
    have hr : ∀ e ∈ r, isFl e = false := fun e he => Bool.eq_false_iff.mpr (List.filter_eq_nil_iff.mp hr e he)
    have ef : ∀ m, wrtOne m f = (List.replicate m (itemsOf (itemAt f 1))).flatten := fun m => by
      unfold wrtOne
      rw [fl_rp ff, if_pos ff]
      rfl
    rw [szW_app, szW_cons, szW_app, szW_cons, szW_no l n hl, szW_no r n hr, ef, ef, filter_rep, filter_rep]
    rw [List.length_append, List.length_append, List.length_append, List.length_append, flat_len, flat_len]
    show _ = _ + n * (noNm (itemsOf (itemAt f 1))).length
    omega
/-- a count that an axis takes -/
structure GC (g : Gr) (col : Bool) (n : Nat) (ds : List PyData) : Prop where
  t : tmplT g col = .tuple ds
  c : TmC ds
  n60 : n ≤ 60
  f : ds.find? isFl ≠ none → 1 ≤ n
  l : toldN g col n ≤ 60
  o : (ds.filter isFl).length ≤ 1
theorem GC.w {g : Gr} {col : Bool} {n : Nat} {ds : List PyData} (h : GC g col n ds) : (szW ds n).length ≤ toldN g col n := by
  rw [szW_len h.o]
  unfold toldN
  rw [h.t]
  exact Nat.le_max_left _ _
structure D5 (P : Program) (w : World) (K : PySem.W.Frag) (mg : Str → Option Value) (base : Heap) (x : Str) (ps : List Str) (k : Nat) (sp : Sp) (f : Addr) (fd : FuncData) : Prop where
  G : FnOk P w K mg base CX0 k f fd ps sp
  g : mg x = some (.ref f)
  kp : PySem.W.keepIn K (.ref f) = true
  b : Binds K fd ps []
section
variable {P : Program} {w : World} {K : PySem.W.Frag} {mg : Str → Option Value} {base : Heap} {C fI fE : Addr}
def spCR (K : PySem.W.Frag) (C : Addr) : Sp := fun vs H Q _ => ∃ (a : Addr) (xs : List V) (g : Gr) (col : Bool) (n : Nat) (ds : List PyData), vs = [.ref a, .str (axS col), .int (n : Int)] ∧ GridAt K C H a xs g.ds ∧ GC g col n ds ∧ ∀ H', Same H H' → Q .non H'
theorem scCR : FnScope ["grid", "axis", "count", "fewest"] ["grid", "axis", "count"] (defScope (top 93)) := ⟨rfl, rfl, rfl, by decide +kernel, rfl, by decide +kernel, by decide +kernel⟩
theorem ok_cr {f f1 f2 f3 f4 f5 : Addr} {fd d1 d2 d3 d4 d5 : FuncData} (F : FnP K "check_repeats" (top 93) f fd) (d_template_of : D2 P w K mg base "template_of" "grid" "axis" 4 (spGA K C tmplT) f1 d1) (d_filler_of : D1 P w K mg base "filler_of" "template" 4 (spFo K) f2 d2) (d_is_integer : D1 P w K mg base "is_integer" "value" 1 (spQ K any isInt) f3 d3)
    (d_told_lanes : D3 P w K mg base "told_lanes" "grid" "axis" "count" 7 (spTL K C) f4 d4) (d_check_lanes : D2 P w K mg base "check_lanes" "axis" "many" 1 spCL f5 d5) : FnOk P w K mg base CX0 8 f fd ["grid", "axis", "count"] (spCR K C) := by
  refine F.ok scCR (fun vs H Q E h => ?_) (fun cdv A outer s H vs Q E hr h => ?_)
  · obtain ⟨a, xs, g, col, n, ds, rfl, _⟩ := h
    rfl
  · obtain ⟨a, xs, g, col, n, ds, rfl, hg, hc, k⟩ := h
    refine ⟨_, PSs.nox (pss_cons (ps_set (i := 3) scCR.nd rfl (Or.inl rfl) (pe_ifExp (pt_cmp (pc_isN (pe_call d_filler_of.G (hr.mono (by decide)) (by rfl) d_filler_of.g d_filler_of.kp d_filler_of.b .nil pass0 (pa_cons (pe_call d_template_of.G (hr.mono (by decide)) (by rfl) d_template_of.g d_template_of.kp d_template_of.b .nil pass0 (pa_cons (pv 0) (pa_cons (pv 1) pa_nil))) pa_nil)))) pe_int pe_int))
  (pss_cons (ps_if (PW.pt (pw_or (pt_not (pt_val (pe_call d_is_integer.G (hr.mono (by decide)) (by rfl) d_is_integer.g d_is_integer.kp d_is_integer.b .nil pass0 (pa_cons (pv 2) pa_nil)))) (pw_or1 (pt_cmpR op_lt (pv 2) (pv 3) (nomark _)))))
    pss_never
    pss_nil)
  (pss_one (ps_expr (pe_call d_check_lanes.G (hr.mono (by decide)) (by rfl) d_check_lanes.g d_check_lanes.kp d_check_lanes.b .nil pass0 (pa_cons (pv 1) (pa_cons (pe_call d_told_lanes.G (hr.mono (by decide)) (by rfl) d_told_lanes.g d_told_lanes.kp d_told_lanes.b .nil pass0 (pa_cons (pv 0) (pa_cons (pv 1) (pa_cons (pv 2) pa_nil)))) pa_nil))))))), ?_⟩
    refine ⟨_, rfl, _, rfl, a, xs, g, col, rfl, hg, fun H1 x s1 hx => ?_⟩
    rw [hc.t] at hx
    refine ⟨x, ds, rfl, hx, fun H2 y s2 hy => ?_⟩
    have s12 := s1.trans s2
    have fin : ∀ fewest : Int, fewest ≤ (n : Int) → True := fun _ _ => trivial
    cases hf : ds.find? isFl with
    | none =>
      rw [show fillerOf ds = .none by unfold fillerOf; rw [hf]; rfl] at hy
      cases hy
      refine ⟨true, rfl, iteT ?_⟩
      refine ⟨_, rfl, .int (n : Int), .int (n : Int), rfl, .int _, trivial, fun H3 s3 => ⟨true, rfl, iteF ?_⟩⟩
      refine ⟨_, rfl, _, rfl, _, _, rfl, rfl, _, rfl, ite2 (fun c => absurd (of_decide_eq_true c) (by omega)) (fun _ => ?_)⟩
      refine ⟨_, rfl, _, rfl, _, rfl, _, rfl, a, xs, g, col, n, rfl, hg.same (s12.trans s3), ⟨ds, hc.t, hc.c⟩, by have := hc.n60; omega, fun H4 s4 => ⟨_, _, rfl, by have := hc.l; omega, k H4 ((s12.trans s3).trans s4)⟩⟩
    | some fl =>
      rw [show fillerOf ds = fl by unfold fillerOf; rw [hf]; rfl] at hy
      obtain ⟨⟨z, hm⟩, _⟩ := find_fl hc.c hf
      obtain ⟨pe, ye, v1, rfl, _⟩ := dpItem hy hm 1 (by decide)
      have n1 : 1 ≤ n := hc.f (by rw [hf]; exact fun e => nomatch e)
      refine ⟨false, rfl, iteF ?_⟩
      refine ⟨_, rfl, .int (n : Int), .int (n : Int), rfl, .int _, trivial, fun H3 s3 => ⟨true, rfl, iteF ?_⟩⟩
      refine ⟨_, rfl, _, rfl, _, _, rfl, rfl, _, rfl, ite2 (fun c => absurd (of_decide_eq_true c) (by omega)) (fun _ => ?_)⟩
      refine ⟨_, rfl, _, rfl, _, rfl, _, rfl, a, xs, g, col, n, rfl, hg.same (s12.trans s3), ⟨ds, hc.t, hc.c⟩, by have := hc.n60; omega, fun H4 s4 => ⟨_, _, rfl, by have := hc.l; omega, k H4 ((s12.trans s3).trans s4)⟩⟩
def spTS (K : PySem.W.Frag) (C : Addr) : Sp := fun vs H Q _ => ∃ (a : Addr) (xs : List V) (g : Gr) (col : Bool) (n : Nat) (ds : List PyData), vs = [.ref a, .str (axS col), .int (n : Int)] ∧ GridAt K C H a xs g.ds ∧ GC g col n ds ∧ ∀ H' q us, Same H H' → H q = none → H' q = some (.lst us) → DpAll K H' us (szW ds n) → Q (.ref q) H'
theorem scTS : FnScope ["grid", "axis", "count"] ["grid", "axis", "count"] (defScope (top 96)) := ⟨rfl, rfl, rfl, by decide +kernel, rfl, by decide +kernel, by decide +kernel⟩
theorem ok_ts {f f1 f2 f3 f4 : Addr} {fd d1 d2 d3 d4 : FuncData} (F : FnP K "template_sizes" (top 96) f fd) (d_check_grid_axis : D2 P w K mg base "check_grid_axis" "grid" "axis" 3 (spCGA K C) f1 d1) (d_check_repeats : D3 P w K mg base "check_repeats" "grid" "axis" "count" 8 (spCR K C) f2 d2)
    (d_template_of : D2 P w K mg base "template_of" "grid" "axis" 4 (spGA K C tmplT) f3 d3) (d_written_sizes : D2 P w K mg base "written_sizes" "template" "count" 5 (spWS K) f4 d4) : FnOk P w K mg base CX0 9 f fd ["grid", "axis", "count"] (spTS K C) := by
  refine F.ok scTS (fun vs H Q E h => ?_) (fun cdv A outer s H vs Q E hr h => ?_)
  · obtain ⟨a, xs, g, col, n, ds, rfl, _⟩ := h
    rfl
  · obtain ⟨a, xs, g, col, n, ds, rfl, hg, hc, k⟩ := h
    refine ⟨_, PSs.nox (pss_cons (ps_expr (pe_call d_check_grid_axis.G (hr.mono (by decide)) (by rfl) d_check_grid_axis.g d_check_grid_axis.kp d_check_grid_axis.b .nil pass0 (pa_cons (pv 0) (pa_cons (pv 1) pa_nil))))
  (pss_cons (ps_expr (pe_call d_check_repeats.G (hr.mono (by decide)) (by rfl) d_check_repeats.g d_check_repeats.kp d_check_repeats.b .nil pass0 (pa_cons (pv 0) (pa_cons (pv 1) (pa_cons (pv 2) pa_nil)))))
  (pss_one (ps_ret (pe_call d_written_sizes.G (hr.mono (by decide)) (by rfl) d_written_sizes.g d_written_sizes.kp d_written_sizes.b .nil pass0 (pa_cons (pe_call d_template_of.G (hr.mono (by decide)) (by rfl) d_template_of.g d_template_of.kp d_template_of.b .nil pass0 (pa_cons (pv 0) (pa_cons (pv 1) pa_nil))) (pa_cons (pv 2) pa_nil))))))), ?_⟩
    refine ⟨_, rfl, _, rfl, a, xs, g, col, rfl, hg, fun H1 s1 => ?_⟩
    refine ⟨_, rfl, _, rfl, _, rfl, a, xs, g, col, n, ds, rfl, hg.same s1, hc, fun H2 s2 => ?_⟩
    have s12 := s1.trans s2
    refine ⟨_, rfl, _, rfl, a, xs, g, col, rfl, hg.same s12, fun H3 x s3 hx => ?_⟩
    rw [hc.t] at hx
    have s13 := s12.trans s3
    exact ⟨_, rfl, x, ds, n, rfl, hx, hc.c, hc.n60, fun H4 q us s4 nq hq hu => k H4 q us (s13.trans s4) (none_of s13 nq) hq hu⟩
def spLC (K : PySem.W.Frag) (C : Addr) : Sp := fun vs H Q _ => ∃ (a : Addr) (xs : List V) (g : Gr) (col : Bool) (n : Nat) (ds : List PyData), vs = [.ref a, .str (axS col), .int (n : Int)] ∧ GridAt K C H a xs g.ds ∧ GC g col n ds ∧ ∀ H', Same H H' → Q (.int (toldN g col n : Nat)) H'
theorem scLC : FnScope ["grid", "axis", "count"] ["grid", "axis", "count"] (defScope (top 97)) := ⟨rfl, rfl, rfl, by decide +kernel, rfl, by decide +kernel, by decide +kernel⟩
theorem ok_lc {f f1 f2 f3 : Addr} {fd d1 d2 d3 : FuncData} (F : FnP K "lane_count" (top 97) f fd) (d_check_grid_axis : D2 P w K mg base "check_grid_axis" "grid" "axis" 3 (spCGA K C) f1 d1) (d_check_repeats : D3 P w K mg base "check_repeats" "grid" "axis" "count" 8 (spCR K C) f2 d2) (d_told_lanes : D3 P w K mg base "told_lanes" "grid" "axis" "count" 7 (spTL K C) f3 d3) :
    FnOk P w K mg base CX0 9 f fd ["grid", "axis", "count"] (spLC K C) := by
  refine F.ok scLC (fun vs H Q E h => ?_) (fun cdv A outer s H vs Q E hr h => ?_)
  · obtain ⟨a, xs, g, col, n, ds, rfl, _⟩ := h
    rfl
  · obtain ⟨a, xs, g, col, n, ds, rfl, hg, hc, k⟩ := h
    refine ⟨_, PSs.nox (pss_cons (ps_expr (pe_call d_check_grid_axis.G (hr.mono (by decide)) (by rfl) d_check_grid_axis.g d_check_grid_axis.kp d_check_grid_axis.b .nil pass0 (pa_cons (pv 0) (pa_cons (pv 1) pa_nil))))
  (pss_cons (ps_expr (pe_call d_check_repeats.G (hr.mono (by decide)) (by rfl) d_check_repeats.g d_check_repeats.kp d_check_repeats.b .nil pass0 (pa_cons (pv 0) (pa_cons (pv 1) (pa_cons (pv 2) pa_nil)))))
  (pss_one (ps_ret (pe_call d_told_lanes.G (hr.mono (by decide)) (by rfl) d_told_lanes.g d_told_lanes.kp d_told_lanes.b .nil pass0 (pa_cons (pv 0) (pa_cons (pv 1) (pa_cons (pv 2) pa_nil)))))))), ?_⟩
    refine ⟨_, rfl, _, rfl, a, xs, g, col, rfl, hg, fun H1 s1 => ?_⟩
    refine ⟨_, rfl, _, rfl, _, rfl, a, xs, g, col, n, ds, rfl, hg.same s1, hc, fun H2 s2 => ?_⟩
    have s12 := s1.trans s2
    exact ⟨_, rfl, _, rfl, _, rfl, a, xs, g, col, n, rfl, hg.same s12, ⟨ds, hc.t, hc.c⟩, by have := hc.n60; omega, fun H3 s3 => k H3 (s12.trans s3)⟩
def spLZ (K : PySem.W.Frag) (C : Addr) : Sp := fun vs H Q _ => ∃ (a : Addr) (xs : List V) (g : Gr) (col : Bool) (n F B : Nat) (ds : List PyData), vs = [.ref a, .str (axS col), .int (n : Int), .int (-(F : Int)), .int (B : Int)] ∧ GridAt K C H a xs g.ds ∧ GC g col n ds ∧ moreT g col ≠ [] ∧ AllSm (moreT g col) ∧ AllSm (szW ds n) ∧ B + F ≤ 60 ∧ toldN g col n ≤ B ∧
  ∀ H' q us, Same H H' → H q = none → H' q = some (.lst us) → DpAll K H' us (betw (moreT g col) (szW ds n) F B) → Q (.ref q) H'
theorem scLZ : FnScope ["grid", "axis", "count", "first", "behind"] ["grid", "axis", "count", "first", "behind"] (defScope (top 98)) := ⟨rfl, rfl, rfl, by decide +kernel, rfl, by decide +kernel, by decide +kernel⟩
theorem ok_lz {f f1 f2 f3 f4 f5 f6 : Addr} {fd d1 d2 d3 d4 d5 d6 : FuncData} (F : FnP K "lane_sizes" (top 98) f fd) (d_check_grid_axis : D2 P w K mg base "check_grid_axis" "grid" "axis" 3 (spCGA K C) f1 d1) (d_check_repeats : D3 P w K mg base "check_repeats" "grid" "axis" "count" 8 (spCR K C) f2 d2) (d_is_integer : D1 P w K mg base "is_integer" "value" 1 (spQ K any isInt) f3 d3)
    (d_told_lanes : D3 P w K mg base "told_lanes" "grid" "axis" "count" 7 (spTL K C) f4 d4) (d_check_lanes : D2 P w K mg base "check_lanes" "axis" "many" 1 spCL f5 d5) (d_sizes_between : D5 P w K mg base "sizes_between" ["grid", "axis", "count", "first", "behind"] 6 (spBw K C) f6 d6) :
    FnOk P w K mg base CX0 9 f fd ["grid", "axis", "count", "first", "behind"] (spLZ K C) := by
  refine F.ok scLZ (fun vs H Q E h => ?_) (fun cdv A outer s H vs Q E hr h => ?_)
  · obtain ⟨a, xs, g, col, n, F, B, ds, rfl, _⟩ := h
    rfl
  · obtain ⟨a, xs, g, col, n, FF, B, ds, rfl, hg, hc, hne, am, aw, hFB, hB, k⟩ := h
    refine ⟨_, PSs.nox (pss_cons (ps_expr (pe_call d_check_grid_axis.G (hr.mono (by decide)) (by rfl) d_check_grid_axis.g d_check_grid_axis.kp d_check_grid_axis.b .nil pass0 (pa_cons (pv 0) (pa_cons (pv 1) pa_nil))))
  (pss_cons (ps_expr (pe_call d_check_repeats.G (hr.mono (by decide)) (by rfl) d_check_repeats.g d_check_repeats.kp d_check_repeats.b .nil pass0 (pa_cons (pv 0) (pa_cons (pv 1) (pa_cons (pv 2) pa_nil)))))
  (pss_cons (ps_if (PW.pt (pw_or (pt_not (pt_val (pe_call d_is_integer.G (hr.mono (by decide)) (by rfl) d_is_integer.g d_is_integer.kp d_is_integer.b .nil pass0 (pa_cons (pv 3) pa_nil)))) (pw_or1 (pt_cmpR op_gt (pv 3) pe_int (nomark _)))))
    pss_never
    pss_nil)
  (pss_cons (ps_if (PW.pt (pw_or (pt_not (pt_val (pe_call d_is_integer.G (hr.mono (by decide)) (by rfl) d_is_integer.g d_is_integer.kp d_is_integer.b .nil pass0 (pa_cons (pv 4) pa_nil)))) (pw_or1 (pt_cmpR op_lt (pv 4) (pe_call d_told_lanes.G (hr.mono (by decide)) (by rfl) d_told_lanes.g d_told_lanes.kp d_told_lanes.b .nil pass0 (pa_cons (pv 0) (pa_cons (pv 1) (pa_cons (pv 2) pa_nil)))) (nomark _)))))
    pss_never
    pss_nil)
  (pss_cons (ps_expr (pe_call d_check_lanes.G (hr.mono (by decide)) (by rfl) d_check_lanes.g d_check_lanes.kp d_check_lanes.b .nil pass0 (pa_cons (pv 1) (pa_cons (pe_op op_sub (pv 4) (pv 3)) pa_nil))))
  (pss_one (ps_ret (pe_call d_sizes_between.G (hr.mono (by decide)) (by rfl) d_sizes_between.g d_sizes_between.kp d_sizes_between.b .nil pass0 (pa_cons (pv 0) (pa_cons (pv 1) (pa_cons (pv 2) (pa_cons (pv 3) (pa_cons (pv 4) pa_nil))))))))))))), ?_⟩
    refine ⟨_, rfl, _, rfl, a, xs, g, col, rfl, hg, fun H1 s1 => ?_⟩
    refine ⟨_, rfl, _, rfl, _, rfl, a, xs, g, col, n, ds, rfl, hg.same s1, hc, fun H2 s2 => ?_⟩
    have s12 := s1.trans s2
    refine ⟨_, rfl, .int (-(FF : Int)), .int (-(FF : Int)), rfl, .int _, trivial, fun H3 s3 => ⟨true, rfl, iteF ?_⟩⟩
    refine ⟨_, rfl, _, _, rfl, rfl, _, rfl, ite2 (fun c => absurd (of_decide_eq_true c) (by omega)) (fun _ => ?_)⟩
    refine ⟨_, rfl, .int (B : Int), .int (B : Int), rfl, .int _, trivial, fun H4 s4 => ⟨true, rfl, iteF ?_⟩⟩
    have s14 := (s12.trans s3).trans s4
    refine ⟨_, rfl, _, rfl, _, rfl, _, rfl, a, xs, g, col, n, rfl, hg.same s14, ⟨ds, hc.t, hc.c⟩, by have := hc.n60; omega, fun H5 s5 => ⟨_, _, rfl, rfl, _, rfl, ite2 (fun c => absurd (of_decide_eq_true c) (by omega)) (fun _ => ?_)⟩⟩
    have s15 := s14.trans s5
    refine ⟨_, rfl, _, rfl, _, rfl, _, _, rfl, rfl, _, _, rfl, by omega, ?_⟩
    refine ⟨_, rfl, _, rfl, _, rfl, _, rfl, _, rfl, a, xs, g, col, n, FF, B, ds, rfl, hg.same s15, hne, am, aw, hc.t, hc.c, hc.n60, by omega, by omega, Nat.le_trans hc.w hB, fun H6 q us s6 nq hq hu => k H6 q us (s15.trans s6) (none_of s15 nq) hq hu⟩
end
end K5

set_option Elab.async false
set_option linter.all false
set_option maxRecDepth 100000
set_option maxHeartbeats 4000000
namespace K5
open PySem PySem.Spec PyProof.Rows L2
open K1 (FnP top Nm wm)
/-! ### draws of the other kind: any whole number in the well -/
/-- a well: two numbers and a count of draws -/
def Wl (H : Hp) (a : Addr) (n : Int) : Prop := ∃ w0 w1 w2 : Int, H a = some (.lst [.int w0, .int w1, .int w2]) ∧ 0 ≤ w2 ∧ w2 ≤ n
theorem Wl.lst {H : Hp} {a : Addr} {n : Int} (h : Wl H a n) : ∃ ws, H a = some (.lst ws) := by
  obtain ⟨w0, w1, w2, e, _⟩ := h
  exact ⟨_, e⟩
theorem Wl.same {H H' : Hp} {a : Addr} {n : Int} (h : Wl H a n) (s : Same H H') : Wl H' a n := by
  obtain ⟨w0, w1, w2, e, r⟩ := h
  exact ⟨w0, w1, w2, s _ _ e, r⟩
theorem Wl.mono {H : Hp} {a : Addr} {n m : Int} (h : Wl H a n) (l : n ≤ m) : Wl H a m := by
  obtain ⟨w0, w1, w2, e, h1, h2⟩ := h
  exact ⟨w0, w1, w2, e, h1, by omega⟩
theorem Wl.updNe {H : Hp} {a b : Addr} {n : Int} {o : HO} (h : Wl H a n) (hb : b ≠ a) : Wl (upd H b o) a n := by
  obtain ⟨w0, w1, w2, e, r⟩ := h
  exact ⟨w0, w1, w2, by rw [upd_ne (Ne.symm hb)]; exact e, r⟩
theorem Wl.new {H : Hp} {a : Addr} {n : Int} {p : Addr} (h : Wl H a n) (hp : H p = none) : p ≠ a := fun z => by
  obtain ⟨w0, w1, w2, e, _⟩ := h
  rw [z, e] at hp
  cases hp
section
variable {P : Program} {w : World} {K : PySem.W.Frag} {mg : Str → Option Value} {base : Heap} {C fI fE : Addr}
def spMx : Sp := fun vs H Q _ => ∃ (c lap : Int), vs = [.int c, .int lap] ∧ 0 ≤ lap ∧ lap ≤ 2000000 ∧ ∀ r : Int, 0 ≤ r → Q (.int r) H
theorem scMx : FnScope ["cell", "lap", "blend"] ["cell", "lap"] (defScope (top 100)) := ⟨rfl, rfl, rfl, by decide +kernel, rfl, by decide +kernel, by decide +kernel⟩
theorem ok_mx {f : Addr} {fd : FuncData} (F : FnP K "_law_mix" (top 100) f fd) (N : Nm mg) : FnOk P w K mg base CX0 1 f fd ["cell", "lap"] spMx := by
  refine F.ok scMx (fun vs H Q E h => ?_) (fun cdv A outer s H vs Q E hr h => ?_)
  · obtain ⟨c, lap, rfl, _⟩ := h
    rfl
  · obtain ⟨c, lap, rfl, l0, l1, k⟩ := h
    refine ⟨_, PSs.nox (pss_cons (ps_set (i := 2) scMx.nd rfl (Or.inl rfl) (pe_op op_add (pe_op op_add (pe_op op_add (pe_op op_modN (pe_callTy call_int1 (by rfl) N.tint (by decide +kernel) (pa_cons (pv 0) pa_nil)) pe_int) (pe_op op_mulW pe_int (pv 1))) (pe_op op_modN (pe_callTy call_int1 (by rfl) N.tint (by decide +kernel) (pa_cons (pe_op op_fdivW (pv 0) pe_int) pa_nil)) pe_int)) pe_int))
  (pss_cons (ps_set (i := 2) scMx.nd rfl (Or.inl rfl) (pe_op op_modN (pe_callTy call_int1 (by rfl) N.tint (by decide +kernel) (pa_cons (pe_op op_mulW (pv 2) pe_int) pa_nil)) pe_int))
  (pss_cons (ps_set (i := 2) scMx.nd rfl (Or.inl rfl) (pe_op op_modN (pe_callTy call_int1 (by rfl) N.tint (by decide +kernel) (pa_cons (pe_op op_mulW (pv 2) (pe_op op_add (pe_op op_add (pe_op op_fdivW (pv 2) pe_int) pe_int) (pv 1))) pa_nil)) pe_int))
  (pss_one (ps_ret (pe_op op_modN (pe_callTy call_int1 (by rfl) N.tint (by decide +kernel) (pa_cons (pe_op op_mulW (pv 2) (pe_op op_add (pe_op op_fdivW (pv 2) pe_int) pe_int)) pa_nil)) pe_int)))))), ?_⟩
    obtain ⟨a0, a1⟩ := fmod_in (x := c) (m := 2147483629) (by decide)
    obtain ⟨b0, b1⟩ := fmod_in (x := c / 2147483629) (m := 1000003) (by decide)
    refine ⟨_, rfl, .inl ⟨_, rfl, _, _, rfl, rfl, (by show (2147483629 : Int) ≠ 0; decide), ?_⟩⟩
    refine ⟨_, rfl, _, _, rfl, rfl, wm (by decide) (by omega), _, _, rfl, rfl, ?_⟩
    refine ⟨_, rfl, _, _, rfl, rfl, wide_div (b := 40) (by decide) (by decide) (by decide) (by decide), .inl ⟨_, rfl, _, _, rfl, rfl, (by show (1000003 : Int) ≠ 0; decide), ?_⟩⟩
    refine ⟨_, _, rfl, rfl, _, _, rfl, rfl, ?_⟩
    have x0 : 0 ≤ (c.fmod 2147483629 + 30011 * lap + (c / 2147483629).fmod 1000003 + 1) ∧ (c.fmod 2147483629 + 30011 * lap + (c / 2147483629).fmod 1000003 + 1) < 100000000000 := by omega
    refine ⟨_, rfl, _, _, rfl, rfl, wm (by omega) (by decide), .inl ⟨_, rfl, _, _, rfl, rfl, (by show (2147483629 : Int) ≠ 0; decide), ?_⟩⟩
    obtain ⟨y0, y1⟩ := fmod_in (x := (c.fmod 2147483629 + 30011 * lap + (c / 2147483629).fmod 1000003 + 1) * 48271) (m := 2147483629) (by decide)
    refine ⟨_, rfl, _, rfl, _, _, rfl, rfl, wide_div (b := 40) (by decide) (by decide) (by decide) (by decide), _, _, rfl, rfl, _, rfl, _, _, rfl, rfl, _, _, rfl, rfl, wm (by omega) (by omega), .inl ⟨_, rfl, _, _, rfl, rfl, (by show (2147483587 : Int) ≠ 0; decide), ?_⟩⟩
    obtain ⟨z0, z1⟩ := fmod_in (x := (((c.fmod 2147483629 + 30011 * lap + (c / 2147483629).fmod 1000003 + 1) * 48271).fmod 2147483629) * ((((c.fmod 2147483629 + 30011 * lap + (c / 2147483629).fmod 1000003 + 1) * 48271).fmod 2147483629) / 1021 + 65539 + lap)) (m := 2147483587) (by decide)
    refine ⟨_, rfl, _, rfl, _, _, rfl, rfl, wide_div (b := 40) (by decide) (by decide) (by decide) (by decide), _, _, rfl, rfl, _, _, rfl, rfl, wm (by omega) (by omega), .inl ⟨_, rfl, _, _, rfl, rfl, (by show (2147483563 : Int) ≠ 0; decide), ?_⟩⟩
    exact k _ (fmod_in (by decide)).1
/-- draw(well, limit): a number from 0 to limit - 1, the well at most one count further -/
def spDr : Sp := fun vs H Q _ => ∃ (a : Addr) (m n : Int), vs = [.ref a, .int m] ∧ Wl H a n ∧ n < 1000000 ∧ 0 < m ∧ m < 1073741824 ∧ ∀ r H', 0 ≤ r → r < m → But a H H' → Wl H' a (n + 1) → Q (.int r) H'
theorem scDr : FnScope ["well", "limit", "drawn"] ["well", "limit"] (defScope (top 102)) := ⟨rfl, rfl, rfl, by decide +kernel, rfl, by decide +kernel, by decide +kernel⟩
theorem ok_dr {f f1 : Addr} {fd d1 : FuncData} (F : FnP K "_law_draw" (top 102) f fd) (N : Nm mg) (d__law_mix : D2 P w K mg base "_law_mix" "cell" "lap" 1 spMx f1 d1) : FnOk P w K mg base CX0 2 f fd ["well", "limit"] spDr := by
  refine F.ok scDr (fun vs H Q E h => ?_) (fun cdv A outer s H vs Q E hr h => ?_)
  · obtain ⟨a, m, n, rfl, _⟩ := h
    rfl
  · obtain ⟨a, m, n, rfl, ⟨w0, w1, w2, hw, h2, h3⟩, hn, m0, m1, k⟩ := h
    refine ⟨_, PSs.nox (pss_cons (ps_if (pt_cmpR op_ge (pe_ix ix_list (pv 0) pe_int (fun _ _ => rfl)) (pe_op op_pow pe_int pe_int) (nomark _))
    (pss_cons (ps_set (i := 2) scDr.nd rfl (Or.inl rfl) (pe_op op_modN (pe_callTy call_int1 (by rfl) N.tint (by decide +kernel) (pa_cons (pe_ix ix_list (pv 0) pe_int (fun _ _ => rfl)) pa_nil)) (pv 1)))
  (pss_cons (ps_asg (pe_op op_fdivW (pe_ix ix_list (pv 0) pe_int (fun _ _ => rfl)) (pv 1)) (pg_sub (pv 0) pe_int set_list))
  (pss_one (ps_ret (pv 2)))))
    pss_nil)
  (pss_cons (ps_asg (pe_op op_add (pe_ix ix_list (pv 0) pe_int (fun _ _ => rfl)) pe_int) (pg_sub (pv 0) pe_int set_list))
  (pss_one (ps_ret (pe_op op_modN (pe_callTy call_int1 (by rfl) N.tint (by decide +kernel) (pa_cons (pe_call d__law_mix.G (hr.mono (by decide)) (by rfl) d__law_mix.g d__law_mix.kp d__law_mix.b .nil pass0 (pa_cons (pe_ix ix_list (pv 0) pe_int (fun _ _ => rfl)) (pa_cons (pe_ix ix_list (pv 0) pe_int (fun _ _ => rfl)) pa_nil))) pa_nil)) (pv 1)))))), ?_⟩
    refine ⟨_, rfl, a, _, _, _, rfl, rfl, SqL.of hw, at0, _, _, rfl, rfl, ⟨by decide, by decide, by decide⟩, _, _, rfl, rfl, _, rfl, ite2 (fun c => ?_) (fun c => ?_)⟩
    · refine ⟨_, rfl, a, _, _, _, rfl, rfl, SqL.of hw, at0, .inl ⟨_, rfl, _, rfl, _, _, rfl, rfl, (by show m ≠ 0; omega), ?_⟩⟩
      refine ⟨_, rfl, a, _, _, _, rfl, rfl, SqL.of hw, at0, _, rfl, _, _, rfl, rfl, wide_div (b := 40) m0 (by omega) (by decide) (by decide), ?_⟩
      refine ⟨_, rfl, a, _, _, 0, rfl, rfl, hw, rfl, ?_⟩
      obtain ⟨r0, r1⟩ := fmod_in (x := w0) m0
      exact ⟨_, rfl, k _ _ r0 r1 But.upd ⟨w0 / m, w1, w2, upd_same, h2, by omega⟩⟩
    · refine ⟨_, rfl, a, _, _, _, rfl, rfl, SqL.of hw, at2, _, _, rfl, rfl, ?_⟩
      refine ⟨_, rfl, a, _, _, 2, rfl, rfl, hw, rfl, ?_⟩
      have hw' : upd H a (.lst [.int w0, .int w1, .int (w2 + 1)]) a = some (.lst [.int w0, .int w1, .int (w2 + 1)]) := upd_same
      refine ⟨_, rfl, a, _, _, _, rfl, rfl, SqL.of hw', at1, _, rfl, a, _, _, _, rfl, rfl, SqL.of hw', at2, w1, w2 + 1, rfl, by omega, by omega, fun r r0 => .inl ⟨_, rfl, _, rfl, _, _, rfl, rfl, (by show m ≠ 0; omega), ?_⟩⟩
      obtain ⟨q0, q1⟩ := fmod_in (x := r) m0
      exact k _ _ q0 q1 But.upd ⟨w0, w1, w2 + 1, upd_same, by omega, by omega⟩
def spSo (K : PySem.W.Frag) : Sp := fun vs H Q _ => ∃ (p : Addr) (ns : List Int) (k : Nat), vs = [.ref p, .int (k : Int)] ∧ SqL K H p (ns.map V.int) ∧ ns.length ≤ 63 ∧ k ≤ 100 ∧ ∀ H' a, Same H H' → H a = none → Wl H' a 0 → Q (.ref a) H'
theorem scSo : FnScope ["script", "k", "cell"] ["script", "k"] (defScope (top 101)) := ⟨rfl, rfl, rfl, by decide +kernel, rfl, by decide +kernel, by decide +kernel⟩
theorem ok_so {f : Addr} {fd : FuncData} (F : FnP K "_law_source" (top 101) f fd) (N : Nm mg) : FnOk P w K mg base CX0 1 f fd ["script", "k"] (spSo K) := by
  refine F.ok scSo (fun vs H Q E h => ?_) (fun cdv A outer s H vs Q E hr h => ?_)
  · obtain ⟨p, ns, k, rfl, _⟩ := h
    rfl
  · obtain ⟨p, ns, kk, rfl, hp, hn, hk, k⟩ := h
    refine ⟨_, PSs.nox (pss_cons (ps_set (i := 2) scSo.nd rfl (Or.inl rfl) (pe_op op_add (pe_ix ix_list (pe_op op_catS (pv 0) (pe_lst (pa_cons pe_int pa_nil))) pe_int (fun _ _ => rfl)) (pe_op op_mulW pe_int (pv 1))))
  (pss_cons (ps_if (pt_cmpR op_lt (pv 1) (pe_callB call_len_seq (by rfl) N.len PySem.boot_len (pa_cons (pv 0) pa_nil)) (nomark _))
    (pss_one (ps_set (i := 2) scSo.nd rfl (Or.inl rfl) (pe_ix ix_list (pv 0) (pv 1) (fun _ _ => rfl))))
    pss_nil)
  (pss_one (ps_ret (pe_lst (pa_cons (pv 2) (pa_cons (pv 2) (pa_cons pe_int pa_nil)))))))), ?_⟩
    refine ⟨_, rfl, (by show 1 ≤ sizeLine; decide), fun z nz => ?_⟩
    have s1 := same_upd (o := .lst [.int 0]) nz
    have hp1 := s1.seq hp
    refine ⟨p, z, _, _, rfl, rfl, hp1, SqL.of upd_same, by rw [List.length_map, sizeLine_eq]; show ns.length + 1 ≤ _; omega, fun q nq => ?_⟩
    have s2 := same_upd (o := .lst (ns.map V.int ++ [.int 0])) nq
    obtain ⟨x, hx⟩ : ∃ x : Int, (ns.map V.int ++ [V.int 0])[0]? = some (.int x) := by
      cases ns with
      | nil => exact ⟨0, rfl⟩
      | cons y ys => exact ⟨y, rfl⟩
    refine ⟨q, _, _, _, rfl, rfl, SqL.of upd_same, atI_nat (j := 0) hx, _, rfl, _, _, rfl, rfl, wm (by decide) (by omega), _, _, rfl, rfl, ?_⟩
    have hp2 := s2.seq hp1
    have s12 := s1.trans s2
    have fin : ∀ (x : Int) (H' : Hp) (a : Addr), Same H H' → H' a = none → Q (.ref a) (upd H' a (.lst [.int x, .int x, .int 0])) := fun x H' a s n => k _ a (s.trans (same_upd n)) (none_of s n) ⟨x, x, 0, upd_same, by decide, by decide⟩
    refine ⟨_, rfl, _, rfl, p, _, rfl, .inl hp2, _, _, rfl, rfl, _, rfl, ite2 (fun c => ?_) (fun c => ?_)⟩
    · have c : ((kk : Nat) : Int) < (((ns.map V.int).length : Nat) : Int) := of_decide_eq_true c
      rw [List.length_map] at c
      have hj : (ns.map V.int)[kk]? = some (.int (ns[kk]'(by omega))) := by
        rw [List.getElem?_map, List.getElem?_eq_getElem (by omega)]
        rfl
      refine ⟨_, rfl, _, rfl, p, _, _, _, rfl, rfl, hp2, atI_nat hj, ?_⟩
      exact ⟨_, rfl, _, rfl, (by show 3 ≤ sizeLine; decide), fun a na => fin _ _ a s12 na⟩
    · exact ⟨_, rfl, _, rfl, (by show 3 ≤ sizeLine; decide), fun a na => fin _ _ a s12 na⟩
def spOn : Sp := fun vs H Q _ => ∃ (a b : Addr) (n : Int) (xs : List V), vs = [.ref a, .ref b] ∧ Wl H a n ∧ n < 1000000 ∧ a ≠ b ∧ H b = some (.lst xs) ∧ 0 < xs.length ∧ xs.length < 1000000 ∧ ∀ x H', x ∈ xs → But a H H' → Wl H' a (n + 1) → Q x H'
theorem scOn : FnScope ["well", "items"] ["well", "items"] (defScope (top 103)) := ⟨rfl, rfl, rfl, by decide +kernel, rfl, by decide +kernel, by decide +kernel⟩
theorem ok_on {f f1 : Addr} {fd d1 : FuncData} (F : FnP K "_law_one" (top 103) f fd) (N : Nm mg) (d__law_draw : D2 P w K mg base "_law_draw" "well" "limit" 2 spDr f1 d1) : FnOk P w K mg base CX0 3 f fd ["well", "items"] spOn := by
  refine F.ok scOn (fun vs H Q E h => ?_) (fun cdv A outer s H vs Q E hr h => ?_)
  · obtain ⟨a, b, n, xs, rfl, _⟩ := h
    rfl
  · obtain ⟨a, b, n, xs, rfl, hw, hn, hab, hb, l0, l1, k⟩ := h
    refine ⟨_, PSs.nox (pss_one (ps_ret (pe_ix ix_list (pv 1) (pe_call d__law_draw.G (hr.mono (by decide)) (by rfl) d__law_draw.g d__law_draw.kp d__law_draw.b .nil pass0 (pa_cons (pv 0) (pa_cons (pe_callB call_len_seq (by rfl) N.len PySem.boot_len (pa_cons (pv 1) pa_nil)) pa_nil))) (fun _ _ => rfl)))), ?_⟩
    refine ⟨_, rfl, _, rfl, _, rfl, b, _, rfl, .inl (SqL.of hb), a, _, n, rfl, hw, hn, by omega, by omega, fun r H1 r0 r1 b1 hw1 => ?_⟩
    obtain ⟨j, rfl⟩ := Int.eq_ofNat_of_zero_le r0
    have hj : j < xs.length := by omega
    have hb1 : H1 b = some (.lst xs) := b1.keep _ _ (Ne.symm hab) hb
    exact ⟨b, _, _, _, rfl, rfl, SqL.of hb1, atI_nat (List.getElem?_eq_getElem hj), k _ _ (List.getElem_mem hj) b1 hw1⟩
end
end K5

set_option Elab.async false
set_option linter.all false
set_option maxRecDepth 100000
set_option maxHeartbeats 4000000
namespace K5
open PySem PySem.Spec PyProof.Rows L2
open K1 (FnP top Nm wm)
def fixB (d : PyData) : Bool := isFixed d && (mayFill d && (isSize d && smN 2 d))
def shrB (d : PyData) : Bool := isShare d && (isSize d && smN 2 d)
/-! ### drawn sizes -/
def plnB (d : PyData) : Bool := isPlain d && smN 2 d
def hghB (d : PyData) : Bool := (isPlain d || isShare d) && smN 2 d
def sizB (d : PyData) : Bool := isSize d && smN 3 d
def cntB (d : PyData) : Bool := mayFill d && sizB d
theorem fix_all {d : PyData} (h : fixB d = true) : isFixed d = true ∧ mayFill d = true ∧ isSize d = true ∧ smN 2 d = true := by
  obtain ⟨h1, h⟩ := ba h
  obtain ⟨h2, h⟩ := ba h
  obtain ⟨h3, h4⟩ := ba h
  exact ⟨h1, h2, h3, h4⟩
theorem shr_all {d : PyData} (h : shrB d = true) : isShare d = true ∧ isSize d = true ∧ smN 2 d = true := by
  obtain ⟨h1, h⟩ := ba h
  obtain ⟨h3, h4⟩ := ba h
  exact ⟨h1, h3, h4⟩
theorem fix_pln {d : PyData} (h : fixB d = true) : plnB d = true := by
  obtain ⟨h1, _, _, h4⟩ := fix_all h
  unfold plnB isPlain
  rw [h1, h4]
  rfl
theorem pln_hgh {d : PyData} (h : plnB d = true) : hghB d = true := by
  obtain ⟨h1, h4⟩ := ba h
  unfold hghB
  rw [h1, h4]
  rfl
theorem shr_hgh {d : PyData} (h : shrB d = true) : hghB d = true := by
  obtain ⟨h1, _, h4⟩ := shr_all h
  unfold hghB
  rw [h1, h4, Bool.or_true]
  rfl
theorem fix_siz {d : PyData} (h : fixB d = true) : sizB d = true := by
  obtain ⟨_, _, h3, h4⟩ := fix_all h
  unfold sizB
  rw [h3, smN_mono _ _ h4]
  rfl
theorem fix_cnt {d : PyData} (h : fixB d = true) : cntB d = true := by
  obtain ⟨_, h2, _, _⟩ := fix_all h
  unfold cntB
  rw [h2, fix_siz h]
  rfl
theorem shr_siz {d : PyData} (h : shrB d = true) : sizB d = true := by
  obtain ⟨_, h3, h4⟩ := shr_all h
  unfold sizB
  rw [h3, smN_mono _ _ h4]
  rfl
theorem sm3 {l h : PyData} {z : Str} (hz : smN 2 (.str z) = true) (hl : smN 2 l = true) (hh : smN 2 h = true) : smN 3 (.tuple [.str z, l, h]) = true := sm_mk (by show 3 ≤ 100; decide) fun e he => by
  simp only [List.mem_cons, List.not_mem_nil, or_false] at he
  rcases he with rfl | rfl | rfl
  · exact hz
  · exact hl
  · exact hh
theorem sm2 {n : Nat} {l : PyData} {z : Str} (hz : smN n (.str z) = true) (hl : smN n l = true) : smN (n + 1) (.tuple [.str z, l]) = true := sm_mk (by show 2 ≤ 100; decide) fun e he => by
  simp only [List.mem_cons, List.not_mem_nil, or_false] at he
  rcases he with rfl | rfl
  · exact hz
  · exact hl
theorem betw_mk {l h : PyData} (hl : isPlain l = true) (hh : (isPlain h || isShare h) = true) : isBetw (.tuple [.str "between", l, h]) = true := by
  show ((decide ((3 : Int) = 3) && isWord (.str "between") ["between"]) && (isPlain l && (isPlain h || isShare h))) = true
  rw [hl, hh]
  decide
theorem betw_siz {l h : PyData} (hl : plnB l = true) (hh : hghB h = true) : sizB (.tuple [.str "between", l, h]) = true := by
  obtain ⟨l1, l2⟩ := ba hl
  obtain ⟨h1, h2⟩ := ba hh
  unfold sizB isSize
  rw [betw_mk l1 h1, sm3 (by decide +kernel) l2 h2]
  simp
theorem betw_cnt {l h : PyData} (hl : plnB l = true) (hh : hghB h = true) (hf : (isFixed l || isFixed h) = true) : cntB (.tuple [.str "between", l, h]) = true := by
  have hb : isBetw (.tuple [.str "between", l, h]) = true := betw_mk (ba hl).1 (ba hh).1
  unfold cntB
  rw [betw_siz hl hh, Bool.and_true]
  show (isFixed (lowOf (.tuple [.str "between", l, h])) || isFixed (highOf (.tuple [.str "between", l, h]))) = true
  unfold lowOf highOf
  rw [if_pos hb, if_pos hb]
  exact hf
theorem upto_siz {l : PyData} (hl : fixB l = true) : sizB (.tuple [.str "upto", l]) = true := by
  obtain ⟨h1, _, _, h4⟩ := fix_all hl
  have hu : isUpto (.tuple [.str "upto", l]) = true := by
    show ((decide ((2 : Int) = 2) && isWord (.str "upto") ["upto"]) && isFixed l) = true
    rw [h1]
    decide
  unfold sizB isSize
  rw [hu, sm2 (n := 2) (by decide +kernel) h4]
  simp
def wordsL : List V := [.str "auto", .str "least", .str "most"]
theorem words_d {K : PySem.W.Frag} {H : Hp} {x : V} (h : x ∈ wordsL) : ∃ d, Dp K H x d ∧ plnB d = true ∧ sizB d = true := by
  simp only [wordsL, List.mem_cons, List.not_mem_nil, or_false] at h
  rcases h with rfl | rfl | rfl
  · exact ⟨_, .str _, by decide +kernel, by decide +kernel⟩
  · exact ⟨_, .str _, by decide +kernel, by decide +kernel⟩
  · exact ⟨_, .str _, by decide +kernel, by decide +kernel⟩
/-- each of them a datum that keeps Pd -/
def Each (K : PySem.W.Frag) (H : Hp) (Pd : PyData → Prop) (xs : List V) : Prop := ∀ x ∈ xs, ∃ d, Dp K H x d ∧ Pd d
theorem each_words {K : PySem.W.Frag} {H : Hp} {Pd : PyData → Prop} (hp : ∀ d, plnB d = true → Pd d) {x1 x2 : V} {d1 d2 : PyData} (h1 : Dp K H x1 d1) (h2 : Dp K H x2 d2) (p1 : Pd d1) (p2 : Pd d2) : Each K H Pd (wordsL ++ [x1, x2]) := fun x hx => by
  rcases List.mem_append.mp hx with h | h
  · obtain ⟨d, e, q, _⟩ := words_d (K := K) (H := H) h
    exact ⟨d, e, hp d q⟩
  · simp only [List.mem_cons, List.not_mem_nil, or_false] at h
    rcases h with rfl | rfl
    · exact ⟨_, h1, p1⟩
    · exact ⟨_, h2, p2⟩
def nmsB (d : PyData) : Bool := areNames d && smN 2 d
def nameD (d : PyData) : Bool := isName d && smN 1 d
theorem nms_mk {ds : List PyData} (h : ∀ d ∈ ds, nameD d = true) (l : ds.length ≤ 100) : nmsB (.tuple ds) = true := by
  have h1 : areNames (.tuple ds) = true := List.all_eq_true.mpr fun e he => (ba (h e he)).1
  unfold nmsB
  rw [h1, sm_mk l fun e he => (ba (h e he)).2]
  rfl
/-! ### entries drawn -/
def entB (wf : Bool) (e : PyData) : Bool := (isSize e || isNamesE e) && ((!wf || (!isSize e || mayFill e)) && smN 4 e)
theorem ent_names {wf : Bool} {d : PyData} (h : nmsB d = true) : entB wf (.tuple [.str "names", d]) = true ∧ isSize (.tuple [.str "names", d]) = false := by
  obtain ⟨h1, h2⟩ := ba h
  have hm : isMark (.tuple [.str "names", d]) "names" 2 = true := by
    show (decide ((2 : Int) = 2) && isWord (.str "names") ["names"]) = true
    decide
  have hs : isSize (.tuple [.str "names", d]) = false := mark_size hm (by decide) (by decide) (by decide) (by decide)
  have hn : isNamesE (.tuple [.str "names", d]) = true := by
    unfold isNamesE
    rw [hm]
    exact h1
  refine ⟨?_, hs⟩
  unfold entB
  rw [hs, hn, smN_mono _ _ (sm2 (n := 2) (by decide +kernel) h2)]
  cases wf <;> rfl
theorem ent_size {d : PyData} (h : sizB d = true) : entB false d = true ∧ isSize d = true := by
  obtain ⟨h1, h2⟩ := ba h
  refine ⟨?_, h1⟩
  unfold entB
  rw [h1, smN_mono _ _ h2]
  rfl
theorem ent_cnt {d : PyData} (h : cntB d = true) : entB true d = true ∧ isSize d = true := by
  obtain ⟨h0, h⟩ := ba h
  obtain ⟨h1, h2⟩ := ba h
  refine ⟨?_, h1⟩
  unfold entB
  rw [h0, h1, smN_mono _ _ h2]
  rfl
structure PlP (m : Int) (wf : Bool) (ds : List PyData) : Prop where
  e : ∀ d ∈ ds, entB wf d = true
  l : 1 ≤ (ds.filter isSize).length
  u : ((ds.filter isSize).length : Int) ≤ m
  n : ds.length ≤ 6
theorem PlP.flat {m : Int} {wf : Bool} {ds : List PyData} (h : PlP m wf ds) : ∀ d ∈ ds, (isSize d || isNamesE d) = true ∧ smN 4 d = true := fun d hd => by
  obtain ⟨h1, h2⟩ := ba (h.e d hd)
  exact ⟨h1, (ba h2).2⟩
theorem PlP.may {m : Int} {ds : List PyData} (h : PlP m true ds) : ∀ d ∈ ds, isSize d = true → mayFill d = true := fun d hd hs => by
  obtain ⟨_, h2⟩ := ba (h.e d hd)
  have h3 := (ba h2).1
  rw [hs] at h3
  exact h3
theorem PlP.inner {m : Int} {wf : Bool} {ds : List PyData} (h : PlP m wf ds) : areInner (.tuple ds) = true := by
  have h1 : (ds.all fun d => isSize d || isNamesE d) = true := List.all_eq_true.mpr fun e he => (h.flat e he).1
  have h2 : ds.any isSize = true := by
    have := h.l
    rw [List.any_eq_true]
    cases hf : ds.filter isSize with
    | nil =>
      rw [hf] at this
      exact absurd this (by decide)
    | cons x xs =>
      have hm : x ∈ ds.filter isSize := by rw [hf]; exact List.mem_cons_self ..
      exact ⟨x, (List.mem_filter.mp hm).1, (List.mem_filter.mp hm).2⟩
  unfold areInner
  simp only [h1, h2, Bool.and_self]
theorem PlP.sm {m : Int} {wf : Bool} {ds : List PyData} (h : PlP m wf ds) : smN 5 (.tuple ds) = true := sm_mk (by have := h.n; omega) fun e he => (h.flat e he).2
/-! ### templates drawn -/
structure TI (wf : Bool) (b : Nat) (ds : List PyData) : Prop where
  e : ∀ d ∈ ds, isEntry d = true ∧ isFill d = false ∧ smN 7 d = true
  z : (szs ds).length ≤ b
  m : wf = true → ∀ d ∈ szs ds, mayFill d = true
  n : ds.length ≤ 7
theorem TI.sm {wf : Bool} {b : Nat} {ds : List PyData} (h : TI wf b ds) : AllSm ds := fun d hd => smN_le (h.e d hd).2.2 (by decide)
theorem szs_app (l r : List PyData) : szs (l ++ r) = szs l ++ szs r := List.flatMap_append
theorem szOne_flat {e : PyData} (h : (isSize e || isNamesE e) = true) : szOne e = if isSize e = true then [e] else [] := by
  unfold szOne
  rw [flat_rep h, flat_fill h]
  rfl
theorem szs_flat : ∀ ds : List PyData, (∀ d ∈ ds, (isSize d || isNamesE d) = true) → szs ds = ds.filter isSize
  | [], _ => rfl
  | d :: ds, h => by
    have ih := szs_flat ds fun e he => h e (List.mem_cons_of_mem _ he)
    show szOne d ++ szs ds = _
    rw [szOne_flat (h d (List.mem_cons_self ..)), ih]
    by_cases hs : isSize d = true
    · rw [if_pos hs, List.filter_cons_of_pos hs]
      rfl
    · rw [if_neg hs, List.filter_cons_of_neg hs]
      rfl
theorem TI.nil {wf : Bool} : TI wf 3 [] := ⟨fun d h => (nomatch h), Nat.zero_le _, fun _ d h => (nomatch h), Nat.zero_le _⟩
theorem TI.plain {wf : Bool} {ds : List PyData} (h : PlP 3 wf ds) : TI wf 3 ds := by
  have hz := szs_flat ds fun d hd => (h.flat d hd).1
  refine ⟨fun d hd => ?_, ?_, fun e d hd => ?_, by have := h.n; omega⟩
  · obtain ⟨h1, h2⟩ := h.flat d hd
    refine ⟨?_, flat_fill h1, smN_le h2 (by decide)⟩
    unfold isEntry
    rcases Bool.or_eq_true_iff.mp h1 with q | q
    · rw [q, Bool.true_or]
    · rw [q, Bool.true_or, Bool.or_true]
  · rw [hz]
    have := h.u
    omega
  · subst e
    rw [hz] at hd
    obtain ⟨q1, q2⟩ := List.mem_filter.mp hd
    exact h.may d q1 q2
theorem TI.le {wf : Bool} {b c : Nat} {ds : List PyData} (h : TI wf b ds) (l : b ≤ c) : TI wf c ds := ⟨h.e, Nat.le_trans h.z l, h.m, h.n⟩
theorem rep_all {wf : Bool} {r : Int} {es : List PyData} (h : PlP 2 wf es) (r0 : 1 ≤ r) (r1 : r ≤ 3) : isEntry (.tuple [.str "repeat", .int r, .tuple es]) = true ∧ isFill (.tuple [.str "repeat", .int r, .tuple es]) = false ∧ smN 7 (.tuple [.str "repeat", .int r, .tuple es]) = true ∧
    (szOne (.tuple [.str "repeat", .int r, .tuple es])).length ≤ 6 ∧ (wf = true → ∀ d ∈ szOne (.tuple [.str "repeat", .int r, .tuple es]), mayFill d = true) := by
  have hr : isRepeat (.tuple [.str "repeat", .int r, .tuple es]) = true := by
    show ((decide ((3 : Int) = 3) && isWord (.str "repeat") ["repeat"]) && (true && ((decide (1 ≤ r) && decide (r ≤ 20)) && areInner (.tuple es)))) = true
    rw [h.inner, decide_eq_true r0, decide_eq_true (by omega : r ≤ 20)]
    decide
  have hf : isFill (.tuple [.str "repeat", .int r, .tuple es]) = false := by
    show (((decide ((3 : Int) = 2) && isWord (.str "repeat") ["fill"]) || (decide ((3 : Int) = 2) && isWord (.str "repeat") ["fit"])) && areInner (.int r)) = false
    rfl
  have hz : szOne (.tuple [.str "repeat", .int r, .tuple es]) = (List.replicate r.toNat (es.filter isSize)).flatten := by
    unfold szOne
    rw [if_pos hr]
    rfl
  refine ⟨?_, hf, ?_, ?_, fun e d hd => ?_⟩
  · unfold isEntry
    rw [hr, Bool.true_or, Bool.or_true, Bool.or_true]
  · refine smN_le (m := 6) (sm_mk (by show 3 ≤ 100; decide) fun e he => ?_) (by decide)
    simp only [List.mem_cons, List.not_mem_nil, or_false] at he
    rcases he with rfl | rfl | rfl
    · decide +kernel
    · show decide (r.natAbs < 2 ^ 98) = true
      exact decide_eq_true (by omega)
    · exact h.sm
  · rw [hz, flat_len]
    have h2 : (es.filter isSize).length ≤ 2 := by
      have := h.u
      omega
    have h3 : r.toNat ≤ 3 := by omega
    exact Nat.le_trans (Nat.mul_le_mul h3 h2) (by decide)
  · subst e
    rw [hz] at hd
    obtain ⟨l, hl, hdl⟩ := List.mem_flatten.mp hd
    rw [List.eq_of_mem_replicate hl] at hdl
    obtain ⟨q1, q2⟩ := List.mem_filter.mp hdl
    exact h.may d q1 q2
theorem TI.rep {wf : Bool} {ds : List PyData} {r : Int} {es : List PyData} (t : TI wf 3 ds) (hn : ds.length ≤ 6) (h : PlP 2 wf es) (r0 : 1 ≤ r) (r1 : r ≤ 3) : TI wf 9 (ds ++ [.tuple [.str "repeat", .int r, .tuple es]]) := by
  obtain ⟨a1, a2, a3, a4, a5⟩ := rep_all h r0 r1
  have hz : szs (ds ++ [.tuple [.str "repeat", .int r, .tuple es]]) = szs ds ++ szOne (.tuple [.str "repeat", .int r, .tuple es]) := by
    rw [szs_app]
    congr 1
    exact List.append_nil _
  refine ⟨fun d hd => ?_, ?_, fun e d hd => ?_, by rw [List.length_append, List.length_singleton]; omega⟩
  · rcases List.mem_append.mp hd with q | q
    · exact t.e d q
    · rw [List.mem_singleton] at q
      subst q
      exact ⟨a1, a2, a3⟩
  · rw [hz, List.length_append]
    have := t.z
    omega
  · rw [hz] at hd
    rcases List.mem_append.mp hd with q | q
    · exact t.m e d q
    · exact a5 e d q
theorem fill_all {z : Str} {es : List PyData} (hz : z = "fill" ∨ z = "fit") (h : PlP 2 true es) : isEntry (.tuple [.str z, .tuple es]) = true ∧ isFill (.tuple [.str z, .tuple es]) = true ∧ smN 7 (.tuple [.str z, .tuple es]) = true ∧
    (szOne (.tuple [.str z, .tuple es])).length ≤ 2 ∧ ∀ d ∈ szOne (.tuple [.str z, .tuple es]), mayFill d = true := by
  have hr : isRepeat (.tuple [.str z, .tuple es]) = false := by
    unfold isRepeat
    rw [show isMark (.tuple [.str z, .tuple es]) "repeat" 3 = false by
      show (decide ((2 : Int) = 3) && isWord (.str z) ["repeat"]) = false
      rfl]
    rfl
  have hf : isFill (.tuple [.str z, .tuple es]) = true := by
    show (((decide ((2 : Int) = 2) && isWord (.str z) ["fill"]) || (decide ((2 : Int) = 2) && isWord (.str z) ["fit"])) && areInner (.tuple es)) = true
    rw [h.inner]
    rcases hz with rfl | rfl <;> decide
  have hzz : szOne (.tuple [.str z, .tuple es]) = es.filter isSize := by
    unfold szOne
    rw [hr, if_pos hf]
    rfl
  refine ⟨?_, hf, ?_, ?_, fun d hd => ?_⟩
  · unfold isEntry
    rw [hf, Bool.or_true, Bool.or_true, Bool.or_true]
  · refine smN_le (m := 6) (sm_mk (by show 2 ≤ 100; decide) fun e he => ?_) (by decide)
    simp only [List.mem_cons, List.not_mem_nil, or_false] at he
    rcases he with rfl | rfl
    · rcases hz with rfl | rfl <;> decide +kernel
    · exact h.sm
  · rw [hzz]
    have := h.u
    omega
  · rw [hzz] at hd
    obtain ⟨q1, q2⟩ := List.mem_filter.mp hd
    exact h.may d q1 q2
def TpP (d : PyData) : Prop := areEnt d = true ∧ smN 9 d = true
theorem tp_plain {wf : Bool} {ds : List PyData} (t : TI wf 9 ds) : TpP (.tuple ds) := by
  have h1 : ds.all isEntry = true := List.all_eq_true.mpr fun e he => (t.e e he).1
  have h2 : ds.filter isFill = [] := List.filter_eq_nil_iff.mpr fun e he => by rw [(t.e e he).2.1]; decide
  have hz := t.z
  refine ⟨?_, smN_le (m := 8) (sm_mk (by have := t.n; omega) fun e he => (t.e e he).2.2) (by decide)⟩
  show (ds.all isEntry && (!(decide (40 < (szs ds).length) || decide (1 < (ds.filter isFill).length)) && (decide ((ds.filter isFill).length = 0) || (szs ds).all mayFill))) = true
  rw [h1, h2, decide_eq_false (by omega : ¬ 40 < (szs ds).length)]
  rfl
theorem tp_fill {l r : List PyData} {z : Str} {es : List PyData} (t : TI true 9 (l ++ r)) (hz : z = "fill" ∨ z = "fit") (h : PlP 2 true es) : TpP (.tuple (l ++ [.tuple [.str z, .tuple es]] ++ r)) := by
  obtain ⟨a1, a2, a3, a4, a5⟩ := fill_all hz h
  generalize PyData.tuple [.str z, .tuple es] = F at a1 a2 a3 a4 a5
  have mem : ∀ e ∈ l ++ [F] ++ r, e ∈ l ++ r ∨ e = F := fun e he => by
    rcases List.mem_append.mp he with q | q
    · rcases List.mem_append.mp q with q | q
      · exact .inl (List.mem_append.mpr (.inl q))
      · exact .inr (List.mem_singleton.mp q)
    · exact .inl (List.mem_append.mpr (.inr q))
  have h1 : (l ++ [F] ++ r).all isEntry = true := List.all_eq_true.mpr fun e he => by
    rcases mem e he with q | q
    · exact (t.e e q).1
    · rw [q]; exact a1
  have nf : ∀ k : List PyData, (∀ e ∈ k, e ∈ l ++ r) → k.filter isFill = [] := fun k hk => List.filter_eq_nil_iff.mpr fun e he => by rw [(t.e e (hk e he)).2.1]; decide
  have h2 : (l ++ [F] ++ r).filter isFill = [F] := by
    rw [List.filter_append, List.filter_append, nf l fun e he => List.mem_append.mpr (.inl he), nf r fun e he => List.mem_append.mpr (.inr he), List.filter_cons_of_pos a2]
    rfl
  have hz1 : szs (l ++ [F] ++ r) = szs l ++ szOne F ++ szs r := by
    rw [szs_app, szs_app]
    congr 2
    exact List.append_nil _
  have hz2 := t.z
  rw [szs_app, List.length_append] at hz2
  have h3 : (szs (l ++ [F] ++ r)).length ≤ 40 := by
    rw [hz1, List.length_append, List.length_append]
    omega
  have h4 : (szs (l ++ [F] ++ r)).all mayFill = true := List.all_eq_true.mpr fun e he => by
    rw [hz1] at he
    rcases List.mem_append.mp he with q | q
    · rcases List.mem_append.mp q with q | q
      · exact t.m rfl e (by rw [szs_app]; exact List.mem_append.mpr (.inl q))
      · exact a5 e q
    · exact t.m rfl e (by rw [szs_app]; exact List.mem_append.mpr (.inr q))
  refine ⟨?_, smN_le (m := 8) (sm_mk ?_ fun e he => ?_) (by decide)⟩
  · show ((l ++ [F] ++ r).all isEntry && (!(decide (40 < (szs (l ++ [F] ++ r)).length) || decide (1 < ((l ++ [F] ++ r).filter isFill).length)) && (decide (((l ++ [F] ++ r).filter isFill).length = 0) || (szs (l ++ [F] ++ r)).all mayFill))) = true
    rw [h1, h2, h4, decide_eq_false (by omega : ¬ 40 < (szs (l ++ [F] ++ r)).length)]
    rfl
  · have := t.n
    rw [List.length_append] at this
    rw [List.length_append, List.length_append, List.length_singleton]
    omega
  · rcases mem e he with q | q
    · exact (t.e e q).2.2
    · rw [q]; exact a3
theorem dpTake {K : PySem.W.Frag} {H : Hp} : ∀ {xs : List V} {ds : List PyData} (i : Nat), DpAll K H xs ds → DpAll K H (xs.take i) (ds.take i)
  | _, _, 0, _ => by rw [List.take_zero, List.take_zero]; exact .nil
  | _, _, _ + 1, .nil => by rw [List.take_nil, List.take_nil]; exact .nil
  | _, _, i + 1, .cons h1 h2 => .cons h1 (dpTake i h2)
theorem dpDrop {K : PySem.W.Frag} {H : Hp} : ∀ {xs : List V} {ds : List PyData} (i : Nat), DpAll K H xs ds → DpAll K H (xs.drop i) (ds.drop i)
  | _, _, 0, h => h
  | _, _, _ + 1, .nil => by rw [List.drop_nil, List.drop_nil]; exact .nil
  | _, _, i + 1, .cons _ h2 => dpDrop i h2
end K5

set_option Elab.async false
set_option linter.all false
set_option maxRecDepth 100000
set_option maxHeartbeats 4000000
namespace K5
open PySem PySem.Spec PyProof.Rows L2
open K1 (FnP top Nm wm)
/-! ### numbers and lengths drawn -/
def primes : List Int := [2, 2, 2, 2, 2, 2, 3, 3, 3]
def nstep (x : Int × Int) (p : Int) : Int × Int := if x.1.fmod p = 0 ∧ x.2.fmod p = 0 then (x.1 / p, x.2 / p) else x
def numF (u : Int) : Int × Int := primes.foldl nstep (u, 1728)
def numD (u : Int) : PyData := if (numF u).2 = 1 then .int (numF u).1 else .tuple [.int (numF u).1, .int (numF u).2]
def lnB (d : PyData) : Bool := isLen d && (smN 1 d && fixB d)
theorem num_all {d : Int} (h0 : 0 ≤ d) (h1 : d < 481) : lnB (numD (144 * d)) = true := by
  obtain ⟨n, rfl⟩ := Int.eq_ofNat_of_zero_le h0
  have all : ∀ r : Fin 481, lnB (numD (144 * (r.val : Int))) = true := by decide +kernel
  exact all ⟨n, by omega⟩
theorem int_all {d : Int} (h0 : 0 ≤ d) (h1 : d < 41) : lnB (.int d) = true := by
  obtain ⟨n, rfl⟩ := Int.eq_ofNat_of_zero_le h0
  have all : ∀ r : Fin 41, lnB (.int (r.val : Int)) = true := by decide +kernel
  exact all ⟨n, by omega⟩
theorem part_all {d : Int} (h0 : 0 ≤ d) (h1 : d < 15) : fixB (.tuple [.str "part", numD (144 * d)]) = true := by
  obtain ⟨n, rfl⟩ := Int.eq_ofNat_of_zero_le h0
  have all : ∀ r : Fin 15, fixB (.tuple [.str "part", numD (144 * (r.val : Int))]) = true := by decide +kernel
  exact all ⟨n, by omega⟩
theorem ln_all {d : PyData} (h : lnB d = true) : isLen d = true ∧ smN 1 d = true ∧ fixB d = true := by
  obtain ⟨h1, h⟩ := ba h
  obtain ⟨h2, h3⟩ := ba h
  exact ⟨h1, h2, h3⟩
theorem share_ln {d : PyData} (h : lnB d = true) : shrB (.tuple [.str "share", d]) = true := by
  obtain ⟨h1, h2, _⟩ := ln_all h
  have hs : isShare (.tuple [.str "share", d]) = true := by
    show ((decide ((2 : Int) = 2) && isWord (.str "share") ["share"]) && isLen d) = true
    rw [h1]
    decide
  unfold shrB isSize
  rw [hs, sm2 (n := 1) (by decide +kernel) h2]
  simp
section
variable {P : Program} {w : World} {K : PySem.W.Frag} {mg : Str → Option Value} {base : Heap} {C fI fE : Addr}
def spNu (K : PySem.W.Frag) : Sp := fun vs H Q _ => ∃ (u : Int), vs = [.int u] ∧ ∀ H' x, Same H H' → Dp K H' x (numD u) → Q x H'
theorem scNu : FnScope ["units", "top", "bottom", "prime"] ["units"] (defScope (top 104)) := ⟨rfl, rfl, rfl, by decide +kernel, rfl, by decide +kernel, by decide +kernel⟩
theorem ok_nu {f : Addr} {fd : FuncData} (F : FnP K "_law_num" (top 104) f fd) (N : Nm mg) : FnOk P w K mg base CX0 1 f fd ["units"] (spNu K) := by
  refine F.ok scNu (fun vs H Q E h => ?_) (fun cdv A outer s H vs Q E hr h => ?_)
  · obtain ⟨u, rfl, _⟩ := h
    rfl
  · obtain ⟨u, rfl, k⟩ := h
    refine ⟨_, PSs.nox (pss_cons (ps_par (i := 1) (j := 2) rfl scNu.nd rfl rfl (by decide) (by rfl) (by rfl) (pa_cons (pv 0) (pa_cons pe_int pa_nil)) (by rfl))
  (pss_cons (ps_for PassesOwn.never rfl (pi_tup (pe_tup (pa_cons pe_int (pa_cons pe_int (pa_cons pe_int (pa_cons pe_int (pa_cons pe_int (pa_cons pe_int (pa_cons pe_int (pa_cons pe_int (pa_cons pe_int pa_nil)))))))))))
    (pg_name (i := 3) scNu.nd rfl (Or.inl rfl))
    (pss_one (ps_if (PW.pt (pw_and (pt_cmpR op_eq (pe_op op_modN (pe_callTy call_int1 (by rfl) N.tint (by decide +kernel) (pa_cons (pv 1) pa_nil)) (pv 3)) pe_int (nomark _)) (pw_and1 (pt_cmpR op_eq (pe_op op_modN (pe_callTy call_int1 (by rfl) N.tint (by decide +kernel) (pa_cons (pv 2) pa_nil)) (pv 3)) pe_int (nomark _)))))
    (pss_one (ps_par (i := 1) (j := 2) rfl scNu.nd rfl rfl (by decide) (by rfl) (by rfl) (pa_cons (pe_op op_fdivW (pv 1) (pv 3)) (pa_cons (pe_op op_fdivW (pv 2) (pv 3)) pa_nil)) (by rfl)))
    pss_nil)))
  (pss_one (ps_ret (pe_ifExp (pt_cmpR op_eq (pv 2) pe_int (nomark _)) (pv 1) (pe_tup (pa_cons (pv 1) (pa_cons (pv 2) pa_nil)))))))), ?_⟩
    refine ⟨_, rfl, _, _, rfl, (by show 9 ≤ sizeLine; decide), fun p np => ?_⟩
    have s0 := same_upd (o := .tup (primes.map V.int)) np
    refine ⟨p, rfl, ⟨primes.map V.int, SqT.of upd_same⟩, for_tup (K := K) (a := p) (xs := primes.map V.int) (fun i σ H' => Same H H' ∧ H' p = some (.tup (primes.map V.int)) ∧ ∃ v3, σ = [some (.int u), some (.int ((primes.take i).foldl nstep (u, 1728)).1), some (.int ((primes.take i).foldl nstep (u, 1728)).2), v3])
      ⟨s0, upd_same, _, rfl⟩ (fun i σ H' _ h => SqT.of h.2.1) ?_ ?_⟩
    · rintro i x σ H2 hi ⟨s2, hp, v3, rfl⟩
      rw [List.getElem?_map] at hi
      obtain ⟨q, hq, rfl⟩ : ∃ q, primes[i]? = some q ∧ x = .int q := by
        cases e : primes[i]? with
        | none =>
          rw [e] at hi
          exact nomatch hi
        | some q =>
          rw [e] at hi
          cases hi
          exact ⟨q, rfl, rfl⟩
      have hm : q = 2 ∨ q = 3 := by
        have := List.mem_of_getElem? hq
        simp only [primes, List.mem_cons, List.not_mem_nil, or_false] at this
        omega
      have e : (primes.take (i + 1)).foldl nstep (u, 1728) = nstep ((primes.take i).foldl nstep (u, 1728)) q := by
        rw [List.take_succ, hq, List.foldl_append]
        rfl
      generalize (primes.take i).foldl nstep (u, 1728) = t at e
      have fin : ∀ t' : Int × Int, nstep t q = t' → Same H H2 ∧ H2 p = some (.tup (primes.map V.int)) ∧ ∃ v3', ([some (.int u), some (.int t'.1), some (.int t'.2), some (.int q)] : L2.St) = [some (.int u), some (.int ((primes.take (i + 1)).foldl nstep (u, 1728)).1), some (.int ((primes.take (i + 1)).foldl nstep (u, 1728)).2), v3'] := fun t' h => ⟨s2, hp, _, by rw [e, h]⟩
      have q0 : q ≠ 0 := by omega
      refine ⟨_, rfl, .inl ⟨_, rfl, _, rfl, _, _, rfl, rfl, q0, rfl, _, rfl, ite2 (fun c => ?_) (fun c => ?_)⟩⟩
      · have c1 : t.1.fmod q = 0 := by
          have c : V.int (t.1.fmod q) = V.int 0 := of_decide_eq_true c
          injection c
        refine ⟨_, rfl, .inl ⟨_, rfl, _, rfl, _, _, rfl, rfl, q0, rfl, _, rfl, ite2 (fun c2 => ?_) (fun c2 => ?_)⟩⟩
        · have c2 : t.2.fmod q = 0 := by
            have c2 : V.int (t.2.fmod q) = V.int 0 := of_decide_eq_true c2
            injection c2
          refine ⟨_, rfl, _, rfl, _, _, rfl, rfl, wide_div (b := 40) (by omega) (by omega) (by decide) (by decide), _, rfl, _, rfl, _, _, rfl, rfl, wide_div (b := 40) (by omega) (by omega) (by decide) (by decide), _, _, rfl, ?_⟩
          exact fin (t.1 / q, t.2 / q) (by unfold nstep; rw [if_pos ⟨c1, c2⟩])
        · exact fin t (by unfold nstep; rw [if_neg (fun z => c2 (decide_eq_true (show V.int (t.2.fmod q) = V.int 0 by rw [z.2])))])
      · exact fin t (by unfold nstep; rw [if_neg (fun z => c (decide_eq_true (show V.int (t.1.fmod q) = V.int 0 by rw [z.1])))])
    · rintro σ H2 ⟨s2, hp, v3, rfl⟩
      have e : (primes.take (primes.map V.int).length).foldl nstep (u, 1728) = numF u := rfl
      rw [e]
      refine ⟨_, rfl, rfl, _, rfl, ite2 (fun c => ?_) (fun c => ?_)⟩
      · have c : V.int (numF u).2 = V.int 1 := of_decide_eq_true c
        injection c with c
        refine ⟨_, rfl, k H2 _ s2 ?_⟩
        unfold numD
        rw [if_pos c]
        exact .int _
      · have c : ¬ (numF u).2 = 1 := fun z => c (decide_eq_true (by rw [z]))
        refine ⟨_, rfl, _, rfl, (by show 2 ≤ sizeLine; decide), fun t nt => k _ _ (s2.trans (same_upd nt)) ?_⟩
        unfold numD
        rw [if_neg c]
        exact tupNew nt (.cons (.int _) (.cons (.int _) .nil))
end
end K5

set_option Elab.async false
set_option linter.all false
set_option maxRecDepth 100000
set_option maxHeartbeats 4000000
namespace K5
open PySem PySem.Spec PyProof.Rows L2
open K1 (FnP top Nm wm)
/-! ### sizes drawn, of the other kind -/
/-- f(well): data that keep Pd, at most c draws -/
def spDl (K : PySem.W.Frag) (c : Int) (Pd : PyData → Prop) : Sp := fun vs H Q _ => ∃ (a : Addr) (n : Int), vs = [.ref a] ∧ Wl H a n ∧ n + c ≤ 1000000 ∧ ∀ x d H', Keep a H H' → Wl H' a (n + c) → Dp K H' x d → Pd d → Q x H'
section
variable {P : Program} {w : World} {K : PySem.W.Frag} {mg : Str → Option Value} {base : Heap} {C fI fE : Addr}
def spLn (K : PySem.W.Frag) : Sp := fun vs H Q _ => ∃ (a : Addr) (n m : Int), vs = [.ref a, .int m] ∧ Wl H a n ∧ n + 2 ≤ 1000000 ∧ 0 ≤ m ∧ m ≤ 40 ∧ ∀ x d H', Keep a H H' → Wl H' a (n + 2) → Dp K H' x d → lnB d = true → Q x H'
theorem scLl : FnScope ["well", "most"] ["well", "most"] (defScope (top 106)) := ⟨rfl, rfl, rfl, by decide +kernel, rfl, by decide +kernel, by decide +kernel⟩
theorem ok_ll {f f1 f2 : Addr} {fd d1 d2 : FuncData} (F : FnP K "_law_length" (top 106) f fd) (N : Nm mg) (d__law_draw : D2 P w K mg base "_law_draw" "well" "limit" 2 spDr f1 d1) (d__law_num : D1 P w K mg base "_law_num" "units" 1 (spNu K) f2 d2) : FnOk P w K mg base CX0 3 f fd ["well", "most"] (spLn K) := by
  refine F.ok scLl (fun vs H Q E h => ?_) (fun cdv A outer s H vs Q E hr h => ?_)
  · obtain ⟨a, n, m, rfl, _⟩ := h
    rfl
  · obtain ⟨a, n, m, rfl, hw, hn, m0, m1, k⟩ := h
    refine ⟨_, PSs.nox (pss_cons (ps_if (pt_cmpR op_gt (pe_call d__law_draw.G (hr.mono (by decide)) (by rfl) d__law_draw.g d__law_draw.kp d__law_draw.b .nil pass0 (pa_cons (pv 0) (pa_cons pe_int pa_nil))) pe_int (nomark _))
    (pss_one (ps_ret (pe_call d__law_draw.G (hr.mono (by decide)) (by rfl) d__law_draw.g d__law_draw.kp d__law_draw.b .nil pass0 (pa_cons (pv 0) (pa_cons (pe_op op_add (pv 1) pe_int) pa_nil)))))
    pss_nil)
  (pss_one (ps_ret (pe_call d__law_num.G (hr.mono (by decide)) (by rfl) d__law_num.g d__law_num.kp d__law_num.b .nil pass0 (pa_cons (pe_op op_mulW pe_int (pe_call d__law_draw.G (hr.mono (by decide)) (by rfl) d__law_draw.g d__law_draw.kp d__law_draw.b .nil pass0 (pa_cons (pv 0) (pa_cons (pe_op op_add (pe_op op_mulW pe_int (pv 1)) pe_int) pa_nil)))) pa_nil))))), ?_⟩
    refine ⟨_, rfl, a, 3, n, rfl, hw, by omega, by decide, by decide, fun r H1 r0 r1 b1 w1 => ⟨_, _, rfl, rfl, _, rfl, ite2 (fun c => ?_) (fun c => ?_)⟩⟩
    · refine ⟨_, rfl, _, rfl, _, _, rfl, rfl, a, _, _, rfl, w1, by omega, by omega, by omega, fun q H2 q0 q1 b2 w2 => ?_⟩
      exact k _ _ H2 (b1.keep.trans b2.keep) (w2.mono (by omega)) (.int q) (int_all q0 (by omega))
    · refine ⟨_, rfl, _, rfl, _, _, rfl, rfl, wm (by decide) (by omega), _, _, rfl, rfl, a, _, _, rfl, w1, by omega, by omega, by omega, fun q H2 q0 q1 b2 w2 => ?_⟩
      refine ⟨_, _, rfl, rfl, wm (by decide) (by omega), _, rfl, fun H3 x s3 hx => ?_⟩
      exact k x _ H3 ((b1.keep.trans b2.keep).trans (Keep.of s3)) ((w2.mono (by omega)).same s3) hx (num_all q0 (by omega))
theorem scLFx : FnScope ["well"] ["well"] (defScope (top 107)) := ⟨rfl, rfl, rfl, by decide +kernel, rfl, by decide +kernel, by decide +kernel⟩
theorem ok_lfx {f f1 f2 f3 : Addr} {fd d1 d2 d3 : FuncData} (F : FnP K "_law_fixed" (top 107) f fd) (N : Nm mg) (d__law_draw : D2 P w K mg base "_law_draw" "well" "limit" 2 spDr f1 d1) (d__law_num : D1 P w K mg base "_law_num" "units" 1 (spNu K) f2 d2) (d__law_length : D2 P w K mg base "_law_length" "well" "most" 3 (spLn K) f3 d3) :
    FnOk P w K mg base CX0 4 f fd ["well"] (spDl K 3 fun d => fixB d = true) := by
  refine F.ok scLFx (fun vs H Q E h => ?_) (fun cdv A outer s H vs Q E hr h => ?_)
  · obtain ⟨a, n, rfl, _⟩ := h
    rfl
  · obtain ⟨a, n, rfl, hw, hn, k⟩ := h
    refine ⟨_, PSs.nox (pss_one (ps_ret (pe_ifExp (pt_cmpR op_eq (pe_call d__law_draw.G (hr.mono (by decide)) (by rfl) d__law_draw.g d__law_draw.kp d__law_draw.b .nil pass0 (pa_cons (pv 0) (pa_cons pe_int pa_nil))) pe_int (nomark _)) (pe_tup (pa_cons pe_str (pa_cons (pe_call d__law_num.G (hr.mono (by decide)) (by rfl) d__law_num.g d__law_num.kp d__law_num.b .nil pass0 (pa_cons (pe_op op_mulW pe_int (pe_call d__law_draw.G (hr.mono (by decide)) (by rfl) d__law_draw.g d__law_draw.kp d__law_draw.b .nil pass0 (pa_cons (pv 0) (pa_cons pe_int pa_nil)))) pa_nil)) pa_nil))) (pe_call d__law_length.G (hr.mono (by decide)) (by rfl) d__law_length.g d__law_length.kp d__law_length.b .nil pass0 (pa_cons (pv 0) (pa_cons pe_int pa_nil)))))), ?_⟩
    refine ⟨_, rfl, a, 5, n, rfl, hw, by omega, by decide, by decide, fun r H1 r0 r1 b1 w1 => ⟨rfl, _, rfl, ite2 (fun c => ?_) (fun c => ?_)⟩⟩
    · refine ⟨_, rfl, a, 15, _, rfl, w1, by omega, by decide, by decide, fun q H2 q0 q1 b2 w2 => ?_⟩
      refine ⟨_, _, rfl, rfl, wm (by decide) (by omega), _, rfl, fun H3 x s3 hx => ⟨(by show 2 ≤ sizeLine; decide), fun t nt => ?_⟩⟩
      have st := same_upd (o := .tup [.str "part", x]) nt
      exact k _ _ _ (((b1.keep.trans b2.keep).trans (Keep.of s3)).trans (Keep.of st)) (((w2.mono (by omega)).same s3).same st) (tupNew nt (.cons (.str _) (.cons (dpS st hx) .nil))) (part_all q0 q1)
    · exact ⟨_, rfl, a, _, 40, rfl, w1, by omega, by decide, by decide, fun x d H2 k2 w2 hx p => k x d H2 (b1.keep.trans k2) (w2.mono (by omega)) hx (ln_all p).2.2⟩
def wordsT (ws : List V) : Prop := ∀ x ∈ ws, x = .str "auto" ∨ x = .str "least" ∨ x = .str "most"
theorem scLCs : FnScope ["well", "way", "word_so"] ["well"] (defScope (top 108)) := ⟨rfl, rfl, rfl, by decide +kernel, rfl, by decide +kernel, by decide +kernel⟩
theorem ok_lcs {f f1 f2 f3 f4 : Addr} {fd d1 d2 d3 d4 : FuncData} (F : FnP K "_law_counted_size" (top 108) f fd) (N : Nm mg) (d__law_draw : D2 P w K mg base "_law_draw" "well" "limit" 2 spDr f1 d1) (d__law_one : D2 P w K mg base "_law_one" "well" "items" 3 spOn f2 d2) (d__law_fixed : D1 P w K mg base "_law_fixed" "well" 4 (spDl K 3 fun d => fixB d = true) f3 d3) (d__law_length : D2 P w K mg base "_law_length" "well" "most" 3 (spLn K) f4 d4) :
    FnOk P w K mg base CX0 5 f fd ["well"] (spDl K 10 fun d => cntB d = true) := by
  refine F.ok scLCs (fun vs H Q E h => ?_) (fun cdv A outer s H vs Q E hr h => ?_)
  · obtain ⟨a, n, rfl, _⟩ := h
    rfl
  · obtain ⟨a, n, rfl, hw, hn, k⟩ := h
    refine ⟨_, PSs.nox (pss_cons (ps_par (i := 1) (j := 2) rfl scLCs.nd rfl rfl (by decide) (by rfl) (by rfl) (pa_cons (pe_call d__law_draw.G (hr.mono (by decide)) (by rfl) d__law_draw.g d__law_draw.kp d__law_draw.b .nil pass0 (pa_cons (pv 0) (pa_cons pe_int pa_nil))) (pa_cons (pe_call d__law_one.G (hr.mono (by decide)) (by rfl) d__law_one.g d__law_one.kp d__law_one.b .nil pass0 (pa_cons (pv 0) (pa_cons (pe_lst (pa_cons pe_str (pa_cons pe_str (pa_cons pe_str pa_nil)))) pa_nil))) pa_nil)) (by rfl))
  (pss_cons (ps_if (pt_cmpR op_lt (pv 1) pe_int (nomark _))
    (pss_one (ps_ret (pe_call d__law_fixed.G (hr.mono (by decide)) (by rfl) d__law_fixed.g d__law_fixed.kp d__law_fixed.b .nil pass0 (pa_cons (pv 0) pa_nil))))
    pss_nil)
  (pss_cons (ps_if (pt_cmpR op_eq (pv 1) pe_int (nomark _))
    (pss_one (ps_ret (pe_tup (pa_cons pe_str (pa_cons (pe_call d__law_fixed.G (hr.mono (by decide)) (by rfl) d__law_fixed.g d__law_fixed.kp d__law_fixed.b .nil pass0 (pa_cons (pv 0) pa_nil)) (pa_cons (pe_tup (pa_cons pe_str (pa_cons (pe_call d__law_length.G (hr.mono (by decide)) (by rfl) d__law_length.g d__law_length.kp d__law_length.b .nil pass0 (pa_cons (pv 0) (pa_cons pe_int pa_nil))) pa_nil))) pa_nil))))))
    pss_nil)
  (pss_cons (ps_if (pt_cmpR op_eq (pv 1) pe_int (nomark _))
    (pss_one (ps_ret (pe_tup (pa_cons pe_str (pa_cons (pv 2) (pa_cons (pe_call d__law_fixed.G (hr.mono (by decide)) (by rfl) d__law_fixed.g d__law_fixed.kp d__law_fixed.b .nil pass0 (pa_cons (pv 0) pa_nil)) pa_nil))))))
    pss_nil)
  (pss_one (ps_ret (pe_tup (pa_cons pe_str (pa_cons (pe_call d__law_fixed.G (hr.mono (by decide)) (by rfl) d__law_fixed.g d__law_fixed.kp d__law_fixed.b .nil pass0 (pa_cons (pv 0) pa_nil)) (pa_cons (pe_ifExp (pt_cmpR op_eq (pv 1) pe_int (nomark _)) (pe_call d__law_fixed.G (hr.mono (by decide)) (by rfl) d__law_fixed.g d__law_fixed.kp d__law_fixed.b .nil pass0 (pa_cons (pv 0) pa_nil)) (pv 2)) pa_nil)))))))))), ?_⟩
    refine ⟨_, rfl, a, 6, n, rfl, hw, by omega, by decide, by decide, fun r H1 r0 r1 b1 w1 => ?_⟩
    refine ⟨_, rfl, (by show 3 ≤ sizeLine; decide), fun z nz => ?_⟩
    have hz := w1.new nz
    have sz := same_upd (o := .lst wordsL) nz
    refine ⟨a, z, _, wordsL, rfl, w1.same sz, by omega, Ne.symm hz, upd_same, by decide, by decide, fun wx H2 hx b2 w2 => ⟨_, _, rfl, ?_⟩⟩
    have kk := (b1.keep.trans (Keep.of sz)).trans b2.keep
    clear b1 b2 w1 sz nz
    have hwd : ∀ G : Hp, ∃ d, Dp K G wx d ∧ plnB d = true ∧ sizB d = true := fun G => words_d hx
    refine ⟨_, rfl, _, _, rfl, rfl, _, rfl, ite2 (fun c => ?_) (fun c => ?_)⟩
    · exact ⟨_, rfl, a, _, rfl, w2, by omega, fun x d H3 k3 w3 e p => k x d H3 (kk.trans k3) (w3.mono (by omega)) e (fix_cnt p)⟩
    refine ⟨_, rfl, rfl, _, rfl, ite2 (fun c => ?_) (fun c => ?_)⟩
    · refine ⟨_, rfl, a, _, rfl, w2, by omega, fun x d H3 k3 w3 e p => ?_⟩
      refine ⟨_, rfl, a, _, 3, rfl, w3, by omega, by decide, by decide, fun y g H4 k4 w4 e2 p2 => ⟨(by show 2 ≤ sizeLine; decide), fun t nt => ?_⟩⟩
      have st := same_upd (o := .tup [.str "share", y]) nt
      have tt := tupNew (K := K) (xs := [.str "share", y]) (ds := [.str "share", g]) nt (.cons (.str _) (.cons (dpS st e2) .nil))
      have ps := share_ln p2
      have e := dpS st (dpK k4 w3.lst.choose_spec 2 _ _ (fix_all p).2.2.2 e)
      refine ⟨(by show 3 ≤ sizeLine; decide), fun q nq => ?_⟩
      have sq := same_upd (o := .tup [.str "between", x, .ref t]) nq
      exact k _ _ _ ((((kk.trans k3).trans k4).trans (Keep.of st)).trans (Keep.of sq)) (((w4.mono (by omega)).same st).same sq) (tupNew nq (.cons (.str _) (.cons (dpS sq e) (.cons (dpS sq tt) .nil)))) (betw_cnt (fix_pln p) (shr_hgh ps) (by rw [(fix_all p).1, Bool.true_or]))
    refine ⟨_, rfl, rfl, _, rfl, ite2 (fun c => ?_) (fun c => ?_)⟩
    · refine ⟨_, rfl, _, rfl, a, _, rfl, w2, by omega, fun x d H3 k3 w3 e p => ⟨(by show 3 ≤ sizeLine; decide), fun q nq => ?_⟩⟩
      obtain ⟨dw, ew, pw, _⟩ := hwd H3
      have sq := same_upd (o := .tup [.str "between", wx, x]) nq
      exact k _ _ _ ((kk.trans k3).trans (Keep.of sq)) ((w3.mono (by omega)).same sq) (tupNew nq (.cons (.str _) (.cons (dpS sq ew) (.cons (dpS sq e) .nil)))) (betw_cnt pw (pln_hgh (fix_pln p)) (by rw [(fix_all p).1, Bool.or_true]))
    · refine ⟨_, rfl, a, _, rfl, w2, by omega, fun x d H3 k3 w3 e p => ?_⟩
      refine ⟨_, rfl, rfl, _, rfl, ite2 (fun c => ?_) (fun c => ?_)⟩
      · refine ⟨_, rfl, a, _, rfl, w3, by omega, fun y g H4 k4 w4 e2 p2 => ⟨(by show 3 ≤ sizeLine; decide), fun q nq => ?_⟩⟩
        have sq := same_upd (o := .tup [.str "between", x, y]) nq
        have e := dpS sq (dpK k4 w3.lst.choose_spec 2 _ _ (fix_all p).2.2.2 e)
        exact k _ _ _ (((kk.trans k3).trans k4).trans (Keep.of sq)) ((w4.mono (by omega)).same sq) (tupNew nq (.cons (.str _) (.cons e (.cons (dpS sq e2) .nil)))) (betw_cnt (fix_pln p) (pln_hgh (fix_pln p2)) (by rw [(fix_all p).1, Bool.true_or]))
      · refine ⟨_, rfl, (by show 3 ≤ sizeLine; decide), fun q nq => ?_⟩
        obtain ⟨dw, ew, pw, _⟩ := hwd H3
        have sq := same_upd (o := .tup [.str "between", x, wx]) nq
        exact k _ _ _ ((kk.trans k3).trans (Keep.of sq)) ((w3.mono (by omega)).same sq) (tupNew nq (.cons (.str _) (.cons (dpS sq e) (.cons (dpS sq ew) .nil)))) (betw_cnt (fix_pln p) (pln_hgh pw) (by rw [(fix_all p).1, Bool.true_or]))
end
end K5

set_option Elab.async false
set_option linter.all false
set_option maxRecDepth 100000
set_option maxHeartbeats 4000000
namespace K5
open PySem PySem.Spec PyProof.Rows L2
open K1 (FnP top Nm wm)
/-! ### any size, lists of sizes -/
section
variable {P : Program} {w : World} {K : PySem.W.Frag} {mg : Str → Option Value} {base : Heap} {C fI fE : Addr}
theorem scLAs : FnScope ["well", "way"] ["well"] (defScope (top 109)) := ⟨rfl, rfl, rfl, by decide +kernel, rfl, by decide +kernel, by decide +kernel⟩
theorem ok_las {f f1 f2 f3 f4 f5 : Addr} {fd d1 d2 d3 d4 d5 : FuncData} (F : FnP K "_law_any_size" (top 109) f fd) (N : Nm mg) (d__law_draw : D2 P w K mg base "_law_draw" "well" "limit" 2 spDr f1 d1) (d__law_one : D2 P w K mg base "_law_one" "well" "items" 3 spOn f2 d2) (d__law_fixed : D1 P w K mg base "_law_fixed" "well" 4 (spDl K 3 fun d => fixB d = true) f3 d3) (d__law_length : D2 P w K mg base "_law_length" "well" "most" 3 (spLn K) f4 d4)
    (d__law_counted_size : D1 P w K mg base "_law_counted_size" "well" 5 (spDl K 10 fun d => cntB d = true) f5 d5) : FnOk P w K mg base CX0 6 f fd ["well"] (spDl K 11 fun d => sizB d = true) := by
  refine F.ok scLAs (fun vs H Q E h => ?_) (fun cdv A outer s H vs Q E hr h => ?_)
  · obtain ⟨a, n, rfl, _⟩ := h
    rfl
  · obtain ⟨a, n, rfl, hw, hn, k⟩ := h
    refine ⟨_, PSs.nox (pss_cons (ps_set (i := 1) scLAs.nd rfl (Or.inl rfl) (pe_call d__law_draw.G (hr.mono (by decide)) (by rfl) d__law_draw.g d__law_draw.kp d__law_draw.b .nil pass0 (pa_cons (pv 0) (pa_cons pe_int pa_nil))))
  (pss_cons (ps_if (pt_cmpR op_eq (pv 1) pe_int (nomark _))
    (pss_one (ps_ret (pe_tup (pa_cons pe_str (pa_cons (pe_call d__law_length.G (hr.mono (by decide)) (by rfl) d__law_length.g d__law_length.kp d__law_length.b .nil pass0 (pa_cons (pv 0) (pa_cons pe_int pa_nil))) pa_nil)))))
    pss_nil)
  (pss_cons (ps_if (pt_cmpR op_eq (pv 1) pe_int (nomark _))
    (pss_one (ps_ret (pe_tup (pa_cons pe_str (pa_cons (pe_call d__law_fixed.G (hr.mono (by decide)) (by rfl) d__law_fixed.g d__law_fixed.kp d__law_fixed.b .nil pass0 (pa_cons (pv 0) pa_nil)) pa_nil)))))
    pss_nil)
  (pss_cons (ps_if (pt_cmpR op_eq (pv 1) pe_int (nomark _))
    (pss_one (ps_ret (pe_tup (pa_cons pe_str (pa_cons pe_str (pa_cons (pe_tup (pa_cons pe_str (pa_cons pe_int pa_nil))) pa_nil))))))
    pss_nil)
  (pss_one (ps_ret (pe_ifExp (pt_cmpR op_lt (pv 1) pe_int (nomark _)) (pe_call d__law_one.G (hr.mono (by decide)) (by rfl) d__law_one.g d__law_one.kp d__law_one.b .nil pass0 (pa_cons (pv 0) (pa_cons (pe_lst (pa_cons pe_str (pa_cons pe_str (pa_cons pe_str pa_nil)))) pa_nil))) (pe_call d__law_counted_size.G (hr.mono (by decide)) (by rfl) d__law_counted_size.g d__law_counted_size.kp d__law_counted_size.b .nil pass0 (pa_cons (pv 0) pa_nil))))))))), ?_⟩
    refine ⟨_, rfl, a, 8, n, rfl, hw, by omega, by decide, by decide, fun r H1 r0 r1 b1 w1 => ?_⟩
    refine ⟨_, rfl, rfl, _, rfl, ite2 (fun c => ?_) (fun c => ?_)⟩
    · refine ⟨_, rfl, a, _, 3, rfl, w1, by omega, by decide, by decide, fun y g H4 k4 w4 e2 p2 => ⟨(by show 2 ≤ sizeLine; decide), fun t nt => ?_⟩⟩
      have st := same_upd (o := .tup [.str "share", y]) nt
      exact k _ _ _ ((b1.keep.trans k4).trans (Keep.of st)) ((w4.mono (by omega)).same st) (tupNew nt (.cons (.str _) (.cons (dpS st e2) .nil))) (shr_siz (share_ln p2))
    refine ⟨_, rfl, rfl, _, rfl, ite2 (fun c => ?_) (fun c => ?_)⟩
    · refine ⟨_, rfl, a, _, rfl, w1, by omega, fun x d H3 k3 w3 e p => ⟨(by show 2 ≤ sizeLine; decide), fun t nt => ?_⟩⟩
      have st := same_upd (o := .tup [.str "upto", x]) nt
      exact k _ _ _ ((b1.keep.trans k3).trans (Keep.of st)) ((w3.mono (by omega)).same st) (tupNew nt (.cons (.str _) (.cons (dpS st e) .nil))) (upto_siz p)
    refine ⟨_, rfl, rfl, _, rfl, ite2 (fun c => ?_) (fun c => ?_)⟩
    · refine ⟨(by show 2 ≤ sizeLine; decide), fun t nt => ⟨(by show 3 ≤ sizeLine; decide), fun q nq => ?_⟩⟩
      have st := same_upd (o := .tup [.str "share", .int 1]) nt
      have tt := tupNew (K := K) (xs := [.str "share", .int 1]) (ds := [.str "share", .int 1]) nt (.cons (.str _) (.cons (.int _) .nil))
      have sq := same_upd (o := .tup [.str "between", .str "least", .ref t]) nq
      exact k _ _ _ ((b1.keep.trans (Keep.of st)).trans (Keep.of sq)) (((w1.mono (by omega)).same st).same sq) (tupNew nq (.cons (.str _) (.cons (.str _) (.cons (dpS sq tt) .nil)))) (by decide +kernel)
    refine ⟨_, rfl, _, _, rfl, rfl, _, rfl, ite2 (fun c => ?_) (fun c => ?_)⟩
    · refine ⟨_, rfl, (by show 3 ≤ sizeLine; decide), fun z nz => ?_⟩
      have hz := w1.new nz
      have sz := same_upd (o := .lst wordsL) nz
      refine ⟨a, z, _, wordsL, rfl, w1.same sz, by omega, Ne.symm hz, upd_same, by decide, by decide, fun wx H2 hx b2 w2 => ?_⟩
      obtain ⟨d, e, _, p⟩ := words_d (K := K) (H := H2) hx
      exact k wx d H2 ((b1.keep.trans (Keep.of sz)).trans b2.keep) (w2.mono (by omega)) e p
    · exact ⟨_, rfl, a, _, rfl, w1, by omega, fun x d H2 k2 w2 e p => k x d H2 (b1.keep.trans k2) (w2.mono (by omega)) e (ba p).2⟩
end
end K5

set_option Elab.async false
set_option linter.all false
set_option maxRecDepth 100000
set_option maxHeartbeats 4000000
namespace K5
open PySem PySem.Spec PyProof.Rows L2
open K1 (FnP top Nm wm)
/-! ### rows of sizes with names between them -/
structure PlI (i j : Nat) (wf : Bool) (ds : List PyData) : Prop where
  e : ∀ d ∈ ds, entB wf d = true
  c : (ds.filter isSize).length = i
  n : ds.length ≤ j
theorem PlI.nil {wf : Bool} : PlI 0 0 wf [] := ⟨fun d h => (nomatch h), rfl, Nat.le_refl _⟩
theorem PlI.le {i j k : Nat} {wf : Bool} {ds : List PyData} (h : PlI i j wf ds) (l : j ≤ k) : PlI i k wf ds := ⟨h.e, h.c, Nat.le_trans h.n l⟩
theorem PlI.sm {i j : Nat} {wf : Bool} {ds : List PyData} (h : PlI i j wf ds) : AllSm ds := fun d hd => smN_le (ba (ba (h.e d hd)).2).2 (by decide)
theorem PlI.nm {i j : Nat} {wf : Bool} {ds : List PyData} {d : PyData} (h : PlI i j wf ds) (p : nmsB d = true) : PlI i (j + 1) wf (ds ++ [.tuple [.str "names", d]]) := by
  obtain ⟨q1, q2⟩ := ent_names (wf := wf) p
  refine ⟨fun e he => ?_, ?_, ?_⟩
  · rcases List.mem_append.mp he with z | z
    · exact h.e e z
    · rw [List.mem_singleton] at z
      rw [z]
      exact q1
  · rw [List.filter_append, List.length_append, h.c, List.filter_cons_of_neg (by rw [q2]; decide)]
    rfl
  · rw [List.length_append, List.length_singleton]
    exact Nat.succ_le_succ h.n
theorem PlI.sz {i j : Nat} {wf : Bool} {ds : List PyData} {d : PyData} (h : PlI i j wf ds) (p : entB wf d = true ∧ isSize d = true) : PlI (i + 1) (j + 1) wf (ds ++ [d]) := by
  refine ⟨fun e he => ?_, ?_, ?_⟩
  · rcases List.mem_append.mp he with z | z
    · exact h.e e z
    · rw [List.mem_singleton] at z
      rw [z]
      exact p.1
  · rw [List.filter_append, List.length_append, h.c, List.filter_cons_of_pos p.2]
    rfl
  · rw [List.length_append, List.length_singleton]
    exact Nat.succ_le_succ h.n
section
variable {P : Program} {w : World} {K : PySem.W.Frag} {mg : Str → Option Value} {base : Heap} {C fI fE : Addr}
theorem updK {a D : Addr} {H G : Hp} {o : HO} (kp : Keep a H G) (nD : H D = none) : Keep a H (upd G D o) := fun b x nb e => by
  rw [upd_ne (ne_of_none e nD)]
  exact kp _ _ nb e
/-- the two makers -/
def mkS (K : PySem.W.Frag) (fC fA : Addr) : Addr → Option Sp := fun f => if f = fC then some (spDl K 10 fun d => cntB d = true) else if f = fA then some (spDl K 11 fun d => sizB d = true) else none
theorem mk_sp (K : PySem.W.Frag) (fC fA : Addr) (wf : Bool) : ∃ sp, mkS K fC fA (if wf = true then fC else fA) = some sp ∧ ∀ (a : Addr) (n : Int) (H : Hp) (Q : VK) (E : XK), Wl H a n → n + 11 ≤ 1000000 → (∀ x d H', Keep a H H' → Wl H' a (n + 11) → Dp K H' x d → (entB wf d = true ∧ isSize d = true) → Q x H') → sp [.ref a] H Q E := by
  have h10 : (if wf = true then fC else fA) = fC → ∃ sp, mkS K fC fA (if wf = true then fC else fA) = some sp ∧ ∀ (a : Addr) (n : Int) (H : Hp) (Q : VK) (E : XK), Wl H a n → n + 11 ≤ 1000000 → (∀ x d H', Keep a H H' → Wl H' a (n + 11) → Dp K H' x d → (entB wf d = true ∧ isSize d = true) → Q x H') → sp [.ref a] H Q E := fun e => by
    refine ⟨spDl K 10 fun d => cntB d = true, by rw [e]; unfold mkS; rw [if_pos rfl], fun a n H Q E hw hn k => ⟨a, n, rfl, hw, by omega, fun x d H' kp w' hd p => k x d H' kp (w'.mono (by omega)) hd ?_⟩⟩
    cases wf with
    | true => exact ent_cnt p
    | false => exact ent_size (ba p).2
  cases wf with
  | true => exact h10 rfl
  | false =>
    by_cases e : fA = fC
    · exact h10 e
    · refine ⟨spDl K 11 fun d => sizB d = true, ?_, fun a n H Q E hw hn k => ⟨a, n, rfl, hw, hn, fun x d H' kp w' hd p => k x d H' kp w' hd (ent_size p)⟩⟩
      show mkS K fC fA fA = _
      unfold mkS
      rw [if_neg e, if_pos rfl]
def spPn (K : PySem.W.Frag) (fC fA : Addr) : Sp := fun vs H Q _ => ∃ (a : Addr) (n m : Int) (wf : Bool), vs = [.ref a, .int m, .ref (if wf = true then fC else fA)] ∧ Wl H a n ∧ 0 < m ∧ m ≤ 3 ∧ n + 50 ≤ 1000000 ∧ ∀ x ds H', Keep a H H' → Wl H' a (n + 50) → Dp K H' x (.tuple ds) → PlP m wf ds ∧ (ds.length : Int) ≤ 2 * m → Q x H'
theorem scPn : FnScope ["well", "many", "maker", "found", "turn"] ["well", "many", "maker"] (defScope (top 110)) := ⟨rfl, rfl, rfl, by decide +kernel, rfl, by decide +kernel, by decide +kernel⟩
theorem ok_pn {f f1 f2 fC fA : Addr} {fd d1 d2 dC dA : FuncData} (F : FnP K "_law_plain" (top 110) f fd) (N : Nm mg) (d__law_draw : D2 P w K mg base "_law_draw" "well" "limit" 2 spDr f1 d1) (d__law_one : D2 P w K mg base "_law_one" "well" "items" 3 spOn f2 d2)
    (d__law_counted_size : D1 P w K mg base "_law_counted_size" "well" 5 (spDl K 10 fun d => cntB d = true) fC dC) (d__law_any_size : D1 P w K mg base "_law_any_size" "well" 6 (spDl K 11 fun d => sizB d = true) fA dA) : FnOk P w K mg base CX0 7 f fd ["well", "many", "maker"] (spPn K fC fA) := by
  have held : ∀ g sp, mkS K fC fA g = some sp → Held P w K mg base 6 g sp := fun g sp h => by
    unfold mkS at h
    split at h
    · rename_i e
      cases h
      subst e
      exact ⟨dC, ["well"], d__law_counted_size.G.mono (by decide), d__law_counted_size.kp, d__law_counted_size.b⟩
    · split at h
      · rename_i e
        cases h
        subst e
        exact ⟨dA, ["well"], d__law_any_size.G, d__law_any_size.kp, d__law_any_size.b⟩
      · cases h
  refine F.ok scPn (fun vs H Q E h => ?_) (fun cdv A outer s H vs Q E hr h => ?_)
  · obtain ⟨a, n, m, wf, rfl, _⟩ := h
    rfl
  · obtain ⟨a, n, m, wf, rfl, hw, m0, m1, hn, k⟩ := h
    refine ⟨_, PSs.nox (pss_cons (ps_set (i := 3) scPn.nd rfl (Or.inl rfl) (pe_lst pa_nil))
  (pss_cons (ps_for PassesOwn.never rfl (pi_range1 rfl N.rng (pa_cons (pv 1) pa_nil))
    (pg_name (i := 4) scPn.nd rfl (Or.inl rfl))
    (pss_cons (ps_if (pt_cmpR op_eq (pe_call d__law_draw.G (hr.mono (by decide)) (by rfl) d__law_draw.g d__law_draw.kp d__law_draw.b .nil pass0 (pa_cons (pv 0) (pa_cons pe_int pa_nil))) pe_int (nomark _))
    (pss_one (ps_expr (pe_bm PySem.F.plainAttrs_list PySem.F.slot_list_append PySem.F.type_list_append mt_append (pv 3) (pa_cons (pe_tup (pa_cons pe_str (pa_cons (pe_call d__law_one.G (hr.mono (by decide)) (by rfl) d__law_one.g d__law_one.kp d__law_one.b .nil pass0 (pa_cons (pv 0) (pa_cons (pe_lst (pa_cons (pe_tup (pa_cons pe_str pa_nil)) (pa_cons (pe_tup (pa_cons pe_str (pa_cons pe_str pa_nil))) (pa_cons (pe_tup pa_nil) pa_nil)))) pa_nil))) pa_nil))) pa_nil))))
    pss_nil)
  (pss_one (ps_expr (pe_bm PySem.F.plainAttrs_list PySem.F.slot_list_append PySem.F.type_list_append mt_append (pv 3) (pa_cons (pe_callA held (hr.mono (by decide)) (i := 2) rfl (Or.inl rfl) (pa_cons (pv 0) pa_nil)) pa_nil))))))
  (pss_one (ps_ret (pe_callTy call_tuple_of (by rfl) N.ttup (by decide +kernel) (pa_cons (pv 3) pa_nil)))))), ?_⟩
    obtain ⟨sp, hS, hk⟩ := mk_sp K fC fA wf
    refine ⟨(by show 0 ≤ sizeLine; decide), fun D nD => ?_⟩
    have sD := same_upd (o := .lst []) nD
    have nDa := hw.new nD
    generalize hM : (if wf = true then fC else fA) = M at hS ⊢
    refine ⟨_, rfl, m, rfl, by omega, by omega, for_range (n := m.toNat) (fun i σ H' => Keep a H H' ∧ Wl H' a (n + 16 * (i : Int)) ∧ (∃ ds, Bag K H' D ds ∧ PlI i (2 * i) wf ds) ∧ ∃ v4, σ = [some (.ref a), some (.int m), some (.ref M), some (.ref D), v4])
      ⟨Keep.of sD, (hw.same sD).mono (by omega), ⟨[], ⟨[], upd_same, .nil⟩, PlI.nil⟩, _, rfl⟩ ?_ ?_⟩
    · rintro i σ H5 hi ⟨k5, w5, ⟨ds, hb5, pi⟩, v4, rfl⟩
      have a5 := pi.sm
      refine ⟨_, rfl, a, 3, _, rfl, w5, by omega, by decide, by decide, fun r H1 r0 r1 b1 w1 => ⟨rfl, _, rfl, ite2 (fun c => ?_) (fun c => ?_)⟩⟩
      focus
        have hb := hb5.keep b1.keep w5.lst.choose_spec nDa a5
        obtain ⟨xs, hD, hx⟩ := id hb
        refine ⟨_, rfl, .inl ⟨rfl, _, SqL.of hD⟩, _, rfl, (by show 1 ≤ sizeLine; decide), fun t1 n1 => ⟨(by show 2 ≤ sizeLine; decide), fun t2 n2 => ⟨(by show 0 ≤ sizeLine; decide), fun t3 n3 => ⟨(by show 3 ≤ sizeLine; decide), fun z nz => ?_⟩⟩⟩⟩
        have s1 := same_upd (o := .tup [.str "a"]) n1
        have s2 := same_upd (o := .tup [.str "b-1", .str "a"]) n2
        have s3 := same_upd (o := .tup []) n3
        have e1 := tupNew (K := K) (xs := [.str "a"]) (ds := [.str "a"]) n1 (.cons (.str _) .nil)
        have e2 := tupNew (K := K) (xs := [.str "b-1", .str "a"]) (ds := [.str "b-1", .str "a"]) n2 (.cons (.str _) (.cons (.str _) .nil))
        have e3 := tupNew (K := K) (xs := []) (ds := []) n3 .nil
        have sz := same_upd (o := .lst [.ref t1, .ref t2, .ref t3]) nz
        have w3 := ((w1.same s1).same s2).same s3
        have hz := w3.new nz
        have w4 := w3.same sz
        refine ⟨a, z, _, [.ref t1, .ref t2, .ref t3], rfl, w4, by omega, Ne.symm hz, upd_same, (by show 0 < 3; decide), (by show 3 < 1000000; decide), fun x H2 hx b2 w2 => ?_⟩
        obtain ⟨d, e, p⟩ : ∃ d, Dp K H2 x d ∧ nmsB d = true := by
          simp only [List.mem_cons, List.not_mem_nil, or_false] at hx
          have up := dpK (K := K) b2.keep w4.lst.choose_spec 2
          rcases hx with rfl | rfl | rfl
          · exact ⟨_, up _ _ (by decide +kernel) (dpS sz (dpS s3 (dpS s2 e1))), by decide +kernel⟩
          · exact ⟨_, up _ _ (by decide +kernel) (dpS sz (dpS s3 e2)), by decide +kernel⟩
          · exact ⟨_, up _ _ (by decide +kernel) (dpS sz e3), by decide +kernel⟩
        refine ⟨(by show 2 ≤ sizeLine; decide), fun t nt => ?_⟩
        have st := same_upd (o := .tup [.str "names", x]) nt
        have tt := tupNew (K := K) (xs := [.str "names", x]) (ds := [.str "names", d]) nt (.cons (.str _) (.cons (dpS st e) .nil))
        have hb := (((((hb.same s1).same s2).same s3).same sz).keep b2.keep w4.lst.choose_spec nDa a5).same st
        obtain ⟨ys, hD2, hy⟩ := hb
        have kk := updK (o := .lst (ys ++ [.ref t])) (((((((k5.trans b1.keep).trans (Keep.of s1)).trans (Keep.of s2)).trans (Keep.of s3)).trans (Keep.of sz)).trans b2.keep).trans (Keep.of st)) nD
        have w2 := ((w2.same st).updNe (o := .lst (ys ++ [.ref t])) nDa).mono (show _ ≤ n + 16 * (i : Int) + 2 by omega)
        have ly : ys.length ≤ 100 := by
          have := pi.n
          rw [dpLen hy]
          omega
        refine ⟨D, ys, _, rfl, rfl, hD2, Nat.lt_of_le_of_lt ly (by decide), ?_⟩
        have hb := Bag.push hD2 hy a5 tt (smN_le (ba (ba (ent_names (wf := wf) p).1).2).2 (by decide))
        have pi := pi.nm p
        clear e1 e2 e3 hy hD2 hD tt e
        generalize ds ++ [PyData.tuple [.str "names", d]] = ds at hb pi
        generalize upd _ D (.lst (ys ++ [.ref t])) = G at hb w2 kk ⊢
      rotate_left
      focus
        have hb := hb5.keep b1.keep w5.lst.choose_spec nDa a5
        have kk := k5.trans b1.keep
        have w2 := w1.mono (show _ ≤ n + 16 * (i : Int) + 2 by omega)
        have pi := pi.le (Nat.le_succ _)
        generalize H1 = G at hb w2 kk ⊢
      all_goals
        have a6 := pi.sm
        obtain ⟨xs6, hD6, hx6⟩ := id hb
        refine ⟨_, rfl, .inl ⟨rfl, _, SqL.of hD6⟩, _, sp, rfl, hS, _, rfl, hk _ _ _ _ _ w2 (by omega) fun x7 d7 H7 k7 w7 e7 p7 => ?_⟩
        obtain ⟨xs7, hD7, hx7⟩ := hb.keep k7 w2.lst.choose_spec nDa a6
        have l7 : xs7.length ≤ 100 := by
          have := pi.n
          rw [dpLen hx7]
          omega
        refine ⟨D, xs7, _, rfl, rfl, hD7, Nat.lt_of_le_of_lt l7 (by decide), ?_⟩
        exact ⟨updK (kk.trans k7) nD, (w7.updNe nDa).mono (by omega), ⟨_, Bag.push hD7 hx7 a6 e7 (smN_le (ba (ba p7.1).2).2 (by decide)), (pi.sz p7).le (by omega)⟩, _, rfl⟩
    · rintro σ H5 ⟨k5, w5, ⟨ds, hb5, pi⟩, v4, rfl⟩
      obtain ⟨xs, hD, hx⟩ := hb5
      refine ⟨_, rfl, D, xs, rfl, .inl ⟨SqL.of hD, fun t nt => ?_⟩⟩
      have st := same_upd (o := .tup xs) nt
      refine k _ ds _ (k5.trans (Keep.of st)) ((w5.same st).mono (by omega)) (tupNew nt (dpSA st hx)) ⟨⟨pi.e, ?_, ?_, ?_⟩, ?_⟩
      · rw [pi.c]
        omega
      · rw [pi.c]
        omega
      · have := pi.n
        omega
      · have := pi.n
        omega
end
end K5

set_option Elab.async false
set_option linter.all false
set_option maxRecDepth 100000
set_option maxHeartbeats 4000000
namespace K5
open PySem PySem.Spec PyProof.Rows L2
open K1 (FnP top Nm wm)
/-! ### templates drawn, up to three repeats -/
theorem TI.add {wf : Bool} {b c : Nat} {ds es : List PyData} (t : TI wf b ds) (e : ∀ d ∈ es, isEntry d = true ∧ isFill d = false ∧ smN 7 d = true) (z : (szs es).length ≤ c) (m : wf = true → ∀ d ∈ szs es, mayFill d = true) (n : ds.length + es.length ≤ 7) : TI wf (b + c) (ds ++ es) := by
  refine ⟨fun d hd => ?_, ?_, fun w d hd => ?_, by rw [List.length_append]; exact n⟩
  · rcases List.mem_append.mp hd with q | q
    · exact t.e d q
    · exact e d q
  · rw [szs_app, List.length_append]
    have := t.z
    omega
  · rw [szs_app] at hd
    rcases List.mem_append.mp hd with q | q
    · exact t.m w d q
    · exact m w d q
theorem PlP.three {m : Int} {wf : Bool} {ds : List PyData} (h : PlP m wf ds) (l : m ≤ 3) : PlP 3 wf ds := ⟨h.e, h.l, Int.le_trans h.u l, h.n⟩
theorem fill_all3 {z : Str} {es : List PyData} (hz : z = "fill" ∨ z = "fit") (h : PlP 3 true es) : isEntry (.tuple [.str z, .tuple es]) = true ∧ isFill (.tuple [.str z, .tuple es]) = true ∧ smN 7 (.tuple [.str z, .tuple es]) = true ∧
    (szOne (.tuple [.str z, .tuple es])).length ≤ 3 ∧ ∀ d ∈ szOne (.tuple [.str z, .tuple es]), mayFill d = true := by
  have hr : isRepeat (.tuple [.str z, .tuple es]) = false := by
    unfold isRepeat
    rw [show isMark (.tuple [.str z, .tuple es]) "repeat" 3 = false by
      show (decide ((2 : Int) = 3) && isWord (.str z) ["repeat"]) = false
      rfl]
    rfl
  have hf : isFill (.tuple [.str z, .tuple es]) = true := by
    show (((decide ((2 : Int) = 2) && isWord (.str z) ["fill"]) || (decide ((2 : Int) = 2) && isWord (.str z) ["fit"])) && areInner (.tuple es)) = true
    rw [h.inner]
    rcases hz with rfl | rfl <;> decide
  have hzz : szOne (.tuple [.str z, .tuple es]) = es.filter isSize := by
    unfold szOne
    rw [hr, if_pos hf]
    rfl
  refine ⟨?_, hf, ?_, ?_, fun d hd => ?_⟩
  · unfold isEntry
    rw [hf, Bool.or_true, Bool.or_true, Bool.or_true]
  · refine smN_le (m := 6) (sm_mk (by show 2 ≤ 100; decide) fun e he => ?_) (by decide)
    simp only [List.mem_cons, List.not_mem_nil, or_false] at he
    rcases he with rfl | rfl
    · rcases hz with rfl | rfl <;> decide +kernel
    · exact h.sm
  · rw [hzz]
    have := h.u
    omega
  · rw [hzz] at hd
    obtain ⟨q1, q2⟩ := List.mem_filter.mp hd
    exact h.may d q1 q2
theorem tp_plain3 {wf : Bool} {ds : List PyData} (t : TI wf 18 ds) : TpP (.tuple ds) := by
  have h1 : ds.all isEntry = true := List.all_eq_true.mpr fun e he => (t.e e he).1
  have h2 : ds.filter isFill = [] := List.filter_eq_nil_iff.mpr fun e he => by rw [(t.e e he).2.1]; decide
  have hz := t.z
  refine ⟨?_, smN_le (m := 8) (sm_mk (by have := t.n; omega) fun e he => (t.e e he).2.2) (by decide)⟩
  show (ds.all isEntry && (!(decide (40 < (szs ds).length) || decide (1 < (ds.filter isFill).length)) && (decide ((ds.filter isFill).length = 0) || (szs ds).all mayFill))) = true
  rw [h1, h2, decide_eq_false (by omega : ¬ 40 < (szs ds).length)]
  rfl
theorem tp_fill3 {l r : List PyData} {z : Str} {es : List PyData} (t : TI true 18 (l ++ r)) (hz : z = "fill" ∨ z = "fit") (h : PlP 3 true es) : TpP (.tuple (l ++ [.tuple [.str z, .tuple es]] ++ r)) := by
  obtain ⟨a1, a2, a3, a4, a5⟩ := fill_all3 hz h
  generalize PyData.tuple [.str z, .tuple es] = F at a1 a2 a3 a4 a5
  have mem : ∀ e ∈ l ++ [F] ++ r, e ∈ l ++ r ∨ e = F := fun e he => by
    rcases List.mem_append.mp he with q | q
    · rcases List.mem_append.mp q with q | q
      · exact .inl (List.mem_append.mpr (.inl q))
      · exact .inr (List.mem_singleton.mp q)
    · exact .inl (List.mem_append.mpr (.inr q))
  have h1 : (l ++ [F] ++ r).all isEntry = true := List.all_eq_true.mpr fun e he => by
    rcases mem e he with q | q
    · exact (t.e e q).1
    · rw [q]; exact a1
  have nf : ∀ k : List PyData, (∀ e ∈ k, e ∈ l ++ r) → k.filter isFill = [] := fun k hk => List.filter_eq_nil_iff.mpr fun e he => by rw [(t.e e (hk e he)).2.1]; decide
  have h2 : (l ++ [F] ++ r).filter isFill = [F] := by
    rw [List.filter_append, List.filter_append, nf l fun e he => List.mem_append.mpr (.inl he), nf r fun e he => List.mem_append.mpr (.inr he), List.filter_cons_of_pos a2]
    rfl
  have hz1 : szs (l ++ [F] ++ r) = szs l ++ szOne F ++ szs r := by
    rw [szs_app, szs_app]
    congr 2
    exact List.append_nil _
  have hz2 := t.z
  rw [szs_app, List.length_append] at hz2
  have h3 : (szs (l ++ [F] ++ r)).length ≤ 40 := by
    rw [hz1, List.length_append, List.length_append]
    omega
  have h4 : (szs (l ++ [F] ++ r)).all mayFill = true := List.all_eq_true.mpr fun e he => by
    rw [hz1] at he
    rcases List.mem_append.mp he with q | q
    · rcases List.mem_append.mp q with q | q
      · exact t.m rfl e (by rw [szs_app]; exact List.mem_append.mpr (.inl q))
      · exact a5 e q
    · exact t.m rfl e (by rw [szs_app]; exact List.mem_append.mpr (.inr q))
  refine ⟨?_, smN_le (m := 8) (sm_mk ?_ fun e he => ?_) (by decide)⟩
  · show ((l ++ [F] ++ r).all isEntry && (!(decide (40 < (szs (l ++ [F] ++ r)).length) || decide (1 < ((l ++ [F] ++ r).filter isFill).length)) && (decide (((l ++ [F] ++ r).filter isFill).length = 0) || (szs (l ++ [F] ++ r)).all mayFill))) = true
    rw [h1, h2, h4, decide_eq_false (by omega : ¬ 40 < (szs (l ++ [F] ++ r)).length)]
    rfl
  · have := t.n
    rw [List.length_append] at this
    rw [List.length_append, List.length_append, List.length_singleton]
    omega
  · rcases mem e he with q | q
    · exact (t.e e q).2.2
    · rw [q]; exact a3
/-! ### shapes of entries -/
def ShE (wf : Bool) (e : PyData) : Prop := entB wf e = true ∨ ∃ (r : Int) (es : List PyData), e = .tuple [.str "repeat", .int r, .tuple es] ∧ 1 ≤ r ∧ r ≤ 3 ∧ PlP 2 wf es
def ShF (e : PyData) : Prop := ∃ (z : Str) (es : List PyData), e = .tuple [.str z, .tuple es] ∧ (z = "fill" ∨ z = "fit") ∧ PlP 3 true es
/-- a template drawn, with or without a fill or fit -/
structure TT (wf : Bool) (ds : List PyData) : Prop where
  a : TpP (.tuple ds)
  n : ds.length ≤ 7
  z : (szs ds).length ≤ 21
  s : if wf = true then ∃ l F r, ds = l ++ [F] ++ r ∧ (∀ e ∈ l ++ r, ShE true e) ∧ ShF F else ∀ e ∈ ds, ShE false e
/-- so far -/
structure TJ (wf : Bool) (i : Nat) (ds : List PyData) : Prop where
  t : TI wf (6 * i) ds
  s : ∀ e ∈ ds, ShE wf e
  n : ds.length ≤ 2 * i
theorem TJ.nil {wf : Bool} : TJ wf 0 [] := ⟨⟨fun d h => (nomatch h), Nat.zero_le _, fun _ d h => (nomatch h), Nat.zero_le _⟩, fun d h => (nomatch h), Nat.zero_le _⟩
theorem TJ.rep {wf : Bool} {i : Nat} {ds es : List PyData} {r : Int} (h : TJ wf i ds) (hi : i < 3) (p : PlP 2 wf es) (r0 : 1 ≤ r) (r1 : r ≤ 3) : TJ wf (i + 1) (ds ++ [.tuple [.str "repeat", .int r, .tuple es]]) := by
  obtain ⟨a1, a2, a3, a4, a5⟩ := rep_all p r0 r1
  have hz : szs [PyData.tuple [.str "repeat", .int r, .tuple es]] = szOne (.tuple [.str "repeat", .int r, .tuple es]) := List.append_nil _
  have hn := h.n
  refine ⟨?_, fun e he => ?_, by rw [List.length_append, List.length_singleton]; omega⟩
  · have q := h.t.add (c := 6) (es := [.tuple [.str "repeat", .int r, .tuple es]]) (fun d hd => by rw [List.mem_singleton] at hd; rw [hd]; exact ⟨a1, a2, a3⟩) (by rw [hz]; exact a4) (fun w d hd => by rw [hz] at hd; exact a5 w d hd) (by rw [List.length_singleton]; omega)
    rw [show 6 * (i + 1) = 6 * i + 6 by omega]
    exact q
  · rcases List.mem_append.mp he with q | q
    · exact h.s e q
    · rw [List.mem_singleton] at q
      exact .inr ⟨r, es, q, r0, r1, p⟩
theorem TJ.pl {wf : Bool} {i : Nat} {ds es : List PyData} (h : TJ wf i ds) (hi : i < 3) (p : PlP 1 wf es) (l2 : es.length ≤ 2) : TJ wf (i + 1) (ds ++ es) := by
  have t := TI.plain (p.three (by decide))
  have hn := h.n
  refine ⟨?_, fun e he => ?_, by rw [List.length_append]; omega⟩
  · have q := h.t.add (c := 6) t.e (Nat.le_trans t.z (by decide)) t.m (by omega)
    rw [show 6 * (i + 1) = 6 * i + 6 by omega]
    exact q
  · rcases List.mem_append.mp he with q | q
    · exact h.s e q
    · exact .inl (p.e e q)
theorem TJ.plain {i : Nat} {ds : List PyData} (h : TJ false i ds) (hi : i ≤ 3) : TT false ds := ⟨tp_plain3 (h.t.le (by omega)), by have := h.n; omega, by have := h.t.z; omega, h.s⟩
theorem TJ.fill {i : Nat} {l r : List PyData} {z : Str} {es : List PyData} (h : TJ true i (l ++ r)) (hi : i ≤ 3) (hz : z = "fill" ∨ z = "fit") (p : PlP 3 true es) : TT true (l ++ [.tuple [.str z, .tuple es]] ++ r) := by
  obtain ⟨a1, a2, a3, a4, a5⟩ := fill_all3 hz p
  have hn := h.n
  have hzz := h.t.z
  rw [List.length_append] at hn
  rw [szs_app, List.length_append] at hzz
  refine ⟨tp_fill3 (h.t.le (by omega)) hz p, ?_, ?_, l, _, r, rfl, h.s, z, es, rfl, hz, p⟩
  · rw [List.length_append, List.length_append, List.length_singleton]
    omega
  · have hz1 : szs (l ++ [PyData.tuple [.str z, .tuple es]] ++ r) = szs l ++ szOne (.tuple [.str z, .tuple es]) ++ szs r := by
      rw [szs_app, szs_app]
      congr 2
      exact List.append_nil _
    rw [hz1, List.length_append, List.length_append]
    omega
end K5

set_option Elab.async false
set_option linter.all false
set_option maxRecDepth 100000
set_option maxHeartbeats 4000000
namespace K5
open PySem PySem.Spec PyProof.Rows L2
open K1 (FnP top Nm wm)
theorem PlP.to {m k : Int} {wf : Bool} {ds : List PyData} (h : PlP m wf ds) (l : m ≤ k) : PlP k wf ds := ⟨h.e, h.l, Int.le_trans h.u l, h.n⟩
theorem Bag.app {K : PySem.W.Frag} {H : Hp} {D : Addr} {ds es : List PyData} {xs zs : List V} (h1 : H D = some (.lst xs)) (h2 : DpAll K H xs ds) (hs : AllSm ds) (hz : DpAll K H zs es) (hm : AllSm es) : Bag K (upd H D (.lst (xs ++ zs))) D (ds ++ es) :=
  have up := fun d v => dpK (K := K) (a := D) (Keep.upd (o := .lst (xs ++ zs)) (Keep.of (Same.refl H))) h1 20 d v
  ⟨_, upd_same, dpSnoc (dpKall up ds xs hs h2) (dpKall up es zs hm hz)⟩
section
variable {P : Program} {w : World} {K : PySem.W.Frag} {mg : Str → Option Value} {base : Heap} {C fI fE : Addr}
def sortV : Option Str → V
  | some z => .str z
  | none => .non
theorem if_maker {so : Option Str} {fC fA : Addr} {σ : L2.St} {H : Hp} {Q : VK} (h : Q (.ref (if so.isSome = true then fC else fA)) H) : (if decide (sortV so = .non) = true then tC (.ref fA) σ H Q else tC (.ref fC) σ H Q) := by
  cases so with
  | none => exact iteT h
  | some z => exact iteF h
def spTm (K : PySem.W.Frag) : Sp := fun vs H Q _ => ∃ (a : Addr) (n : Int) (so : Option Str), vs = [.ref a, sortV so] ∧ (∀ z, so = some z → z = "fill" ∨ z = "fit") ∧ Wl H a n ∧ n + 300 ≤ 1000000 ∧ ∀ x ds H', Keep a H H' → Wl H' a (n + 300) → Dp K H' x (.tuple ds) → TT so.isSome ds → Q x H'
theorem scTm : FnScope ["well", "sort", "maker", "found", "turn", "at"] ["well", "sort"] (defScope (top 111)) := ⟨rfl, rfl, rfl, by decide +kernel, rfl, by decide +kernel, by decide +kernel⟩
theorem ok_tm {f f1 f2 fC fA : Addr} {fd d1 d2 dC dA : FuncData} (F : FnP K "_law_template" (top 111) f fd) (N : Nm mg) (d__law_draw : D2 P w K mg base "_law_draw" "well" "limit" 2 spDr f1 d1) (d__law_plain : D3 P w K mg base "_law_plain" "well" "many" "maker" 7 (spPn K fC fA) f2 d2)
    (d__law_counted_size : D1 P w K mg base "_law_counted_size" "well" 5 (spDl K 10 fun d => cntB d = true) fC dC) (d__law_any_size : D1 P w K mg base "_law_any_size" "well" 6 (spDl K 11 fun d => sizB d = true) fA dA) : FnOk P w K mg base CX0 8 f fd ["well", "sort"] (spTm K) := by
  refine F.ok scTm (fun vs H Q E h => ?_) (fun cdv A outer s H vs Q E hr h => ?_)
  · obtain ⟨a, n, so, rfl, _⟩ := h
    rfl
  · obtain ⟨a, n, so, rfl, hso, hw, hn, k⟩ := h
    refine ⟨_, PSs.nox (pss_cons (ps_par (i := 2) (j := 3) rfl scTm.nd rfl rfl (by decide) (by rfl) (by rfl) (pa_cons (pe_ifExp (pt_cmp (pc_isN (pv 1))) (pe_glob (by rfl) d__law_any_size.g (v := .ref fA) rfl) (pe_glob (by rfl) d__law_counted_size.g (v := .ref fC) rfl)) (pa_cons (pe_lst pa_nil) pa_nil)) (by rfl))
  (pss_cons (ps_for PassesOwn.never rfl (pi_range1 rfl N.rng (pa_cons (pe_call d__law_draw.G (hr.mono (by decide)) (by rfl) d__law_draw.g d__law_draw.kp d__law_draw.b .nil pass0 (pa_cons (pv 0) (pa_cons pe_int pa_nil))) pa_nil))
    (pg_name (i := 4) scTm.nd rfl (Or.inl rfl))
    (pss_one (ps_if (pt_cmpR op_eq (pe_call d__law_draw.G (hr.mono (by decide)) (by rfl) d__law_draw.g d__law_draw.kp d__law_draw.b .nil pass0 (pa_cons (pv 0) (pa_cons pe_int pa_nil))) pe_int (nomark _))
    (pss_one (ps_expr (pe_bm PySem.F.plainAttrs_list PySem.F.slot_list_append PySem.F.type_list_append mt_append (pv 3) (pa_cons (pe_tup (pa_cons pe_str (pa_cons (pe_op op_add pe_int (pe_call d__law_draw.G (hr.mono (by decide)) (by rfl) d__law_draw.g d__law_draw.kp d__law_draw.b .nil pass0 (pa_cons (pv 0) (pa_cons pe_int pa_nil)))) (pa_cons (pe_call d__law_plain.G (hr.mono (by decide)) (by rfl) d__law_plain.g d__law_plain.kp d__law_plain.b .nil pass0 (pa_cons (pv 0) (pa_cons (pe_op op_add pe_int (pe_call d__law_draw.G (hr.mono (by decide)) (by rfl) d__law_draw.g d__law_draw.kp d__law_draw.b .nil pass0 (pa_cons (pv 0) (pa_cons pe_int pa_nil)))) (pa_cons (pv 2) pa_nil)))) pa_nil)))) pa_nil))))
    (pss_one (ps_expr (pe_bm PySem.F.plainAttrs_list PySem.F.slot_list_extend PySem.F.type_list_extend mt_extend (pv 3) (pa_cons (pe_callTy call_list_of (by rfl) N.tlst (by decide +kernel) (pa_cons (pe_call d__law_plain.G (hr.mono (by decide)) (by rfl) d__law_plain.g d__law_plain.kp d__law_plain.b .nil pass0 (pa_cons (pv 0) (pa_cons pe_int (pa_cons (pv 2) pa_nil)))) pa_nil)) pa_nil)))))))
  (pss_cons (ps_if (pt_cmp (pc_notN (pv 1)))
    (pss_cons (ps_set (i := 5) scTm.nd rfl (Or.inl rfl) (pe_call d__law_draw.G (hr.mono (by decide)) (by rfl) d__law_draw.g d__law_draw.kp d__law_draw.b .nil pass0 (pa_cons (pv 0) (pa_cons (pe_op op_add (pe_callB call_len_seq (by rfl) N.len PySem.boot_len (pa_cons (pv 3) pa_nil)) pe_int) pa_nil))))
  (pss_one (ps_expr (pe_bm PySem.F.plainAttrs_list PySem.F.slot_list_insert PySem.F.type_list_insert mt_insert (pv 3) (pa_cons (pv 5) (pa_cons (pe_tup (pa_cons (pv 1) (pa_cons (pe_call d__law_plain.G (hr.mono (by decide)) (by rfl) d__law_plain.g d__law_plain.kp d__law_plain.b .nil pass0 (pa_cons (pv 0) (pa_cons (pe_op op_add pe_int (pe_call d__law_draw.G (hr.mono (by decide)) (by rfl) d__law_draw.g d__law_draw.kp d__law_draw.b .nil pass0 (pa_cons (pv 0) (pa_cons pe_int pa_nil)))) (pa_cons (pv 2) pa_nil)))) pa_nil))) pa_nil))))))
    pss_nil)
  (pss_one (ps_ret (pe_callTy call_tuple_of (by rfl) N.ttup (by decide +kernel) (pa_cons (pv 3) pa_nil))))))), ?_⟩
    refine ⟨_, rfl, _, rfl, if_maker ?_⟩
    refine ⟨(by show 0 ≤ sizeLine; decide), fun D nD => ⟨_, _, rfl, ?_⟩⟩
    have sD := same_upd (o := .lst []) nD
    have nDa := hw.new nD
    have nDb : Bag K (upd H D (.lst [])) D [] := ⟨[], upd_same, .nil⟩
    refine ⟨_, rfl, a, 4, _, rfl, hw.same sD, by omega, by decide, by decide, fun q H1 q0 q1 b1 w1 => ⟨q, rfl, by omega, by omega, ?_⟩⟩
    refine for_range (n := q.toNat) (fun i σ H' => Keep a H H' ∧ Wl H' a (n + 1 + 60 * (i : Int)) ∧ (∃ ds, Bag K H' D ds ∧ TJ so.isSome i ds) ∧ ∃ v4 v5, σ = [some (.ref a), some (sortV so), some (.ref (if so.isSome = true then fC else fA)), some (.ref D), v4, v5])
      ⟨(Keep.of sD).trans b1.keep, w1.mono (by omega), ⟨[], nDb.keep b1.keep (hw.same sD).lst.choose_spec nDa (fun d h => nomatch h), TJ.nil⟩, _, _, rfl⟩ ?_ ?_
    · rintro i σ H5 hi ⟨k5, w5, ⟨ds, hb5, pi⟩, v4, v5, rfl⟩
      have a5 := pi.t.sm
      have hi : i < 3 := by omega
      refine ⟨_, rfl, a, 4, _, rfl, w5, by omega, by decide, by decide, fun r H1 r0 r1 b1 w1 => ⟨rfl, _, rfl, ite2 (fun c => ?_) (fun c => ?_)⟩⟩
      · have hb := hb5.keep b1.keep w5.lst.choose_spec nDa a5
        obtain ⟨xs, hD, hx⟩ := id hb
        refine ⟨_, rfl, .inl ⟨rfl, _, SqL.of hD⟩, _, rfl, a, 3, _, rfl, w1, by omega, by decide, by decide, fun u H2 u0 u1 b2 w2 => ⟨_, _, rfl, rfl, ?_⟩⟩
        refine ⟨_, rfl, _, rfl, a, 2, _, rfl, w2, by omega, by decide, by decide, fun y H3 y0 y1 b3 w3 => ⟨_, _, rfl, rfl, ?_⟩⟩
        refine ⟨_, rfl, a, _, 1 + y, so.isSome, rfl, w3, by omega, by omega, by omega, fun x es H4 k4 w4 e p => ⟨(by show 3 ≤ sizeLine; decide), fun g ng => ?_⟩⟩
        have sg := same_upd (o := .tup [.str "repeat", .int (1 + u), x]) ng
        have tg := tupNew (K := K) (xs := [.str "repeat", .int (1 + u), x]) (ds := [.str "repeat", .int (1 + u), .tuple es]) ng (.cons (.str _) (.cons (.int _) (.cons (dpS sg e) .nil)))
        have hb := (((hb.keep b2.keep w1.lst.choose_spec nDa a5).keep b3.keep w2.lst.choose_spec nDa a5).keep k4 w3.lst.choose_spec nDa a5).same sg
        obtain ⟨xs2, hD2, hx2⟩ := hb
        have p2 := p.1.to (k := 2) (by omega)
        have l2 : xs2.length ≤ 100 := by
          have := pi.n
          rw [dpLen hx2]
          omega
        refine ⟨D, xs2, _, rfl, rfl, hD2, Nat.lt_of_le_of_lt l2 (by decide), ?_⟩
        have hb := Bag.push hD2 hx2 a5 tg (smN_le (rep_all p2 (r := 1 + u) (by omega) (by omega)).2.2.1 (by decide))
        exact ⟨updK (((((k5.trans b1.keep).trans b2.keep).trans b3.keep).trans k4).trans (Keep.of sg)) nD, ((w4.same sg).updNe nDa).mono (by omega), ⟨_, hb, pi.rep hi p2 (by omega) (by omega)⟩, _, _, rfl⟩
      · have hb := hb5.keep b1.keep w5.lst.choose_spec nDa a5
        obtain ⟨xs, hD, hx⟩ := id hb
        refine ⟨_, rfl, .inl ⟨rfl, _, SqL.of hD⟩, _, rfl, _, rfl, a, _, 1, so.isSome, rfl, w1, by decide, by decide, by omega, fun x es H4 k4 w4 e p => ?_⟩
        have hb := hb.keep k4 w1.lst.choose_spec nDa a5
        cases e with
        | @tup p0 zs _ ht hz =>
          refine ⟨_, _, rfl, .inr ht, fun L nL => ?_⟩
          have sL := same_upd (o := .lst zs) nL
          obtain ⟨xs2, hD2, hx2⟩ := hb.same sL
          have l2 : xs2.length ≤ 100 := by
            have := pi.n
            rw [dpLen hx2]
            omega
          have l3 : zs.length ≤ 100 := by
            have := p.1.n
            rw [dpLen hz]
            omega
          refine ⟨D, L, xs2, zs, rfl, rfl, hD2, upd_same, Nat.le_trans (Nat.add_le_add l2 l3) (by decide), ?_⟩
          have hb := Bag.app hD2 hx2 a5 (dpSA sL hz) fun d hd => smN_le (p.1.flat d hd).2 (by decide)
          exact ⟨updK (((k5.trans b1.keep).trans k4).trans (Keep.of sL)) nD, ((w4.same sL).updNe nDa).mono (by omega), ⟨_, hb, pi.pl hi p.1 (by omega)⟩, _, _, rfl⟩
    · rintro σ H5 ⟨k5, w5, ⟨ds, hb5, pi⟩, v4, v5, rfl⟩
      have a5 := pi.t.sm
      have h3 : q.toNat ≤ 3 := by omega
      have hn5 := pi.n
      have w5 := w5.mono (show _ ≤ n + 190 by omega)
      obtain ⟨xs, hD, hx⟩ := id hb5
      have lx := dpLen hx
      cases so with
      | none =>
        refine ⟨_, rfl, false, rfl, iteF ⟨_, rfl, D, xs, rfl, .inl ⟨SqL.of hD, fun t nt => ?_⟩⟩⟩
        have st := same_upd (o := .tup xs) nt
        exact k _ ds _ (k5.trans (Keep.of st)) ((w5.same st).mono (by omega)) (tupNew nt (dpSA st hx)) (pi.plain h3)
      | some z =>
        have hzs := hso z rfl
        refine ⟨_, rfl, true, rfl, iteT ?_⟩
        refine ⟨_, rfl, _, rfl, D, _, rfl, .inl (SqL.of hD), _, _, rfl, rfl, a, _, _, rfl, w5, by omega, by omega, by omega, fun ix H4 i0 i1 b4 w4 => ?_⟩
        have hb := hb5.keep b4.keep w5.lst.choose_spec nDa a5
        obtain ⟨xs1, hD1, hx1⟩ := id hb
        refine ⟨_, rfl, .inl ⟨rfl, _, SqL.of hD1⟩, _, rfl, _, rfl, _, rfl, _, rfl, a, 3, _, rfl, w4, by omega, by decide, by decide, fun y H6 y0 y1 b6 w6 => ⟨_, _, rfl, rfl, ?_⟩⟩
        refine ⟨_, rfl, a, _, 1 + y, true, rfl, w6, by omega, by omega, by omega, fun x es H7 k7 w7 e p => ⟨(by show 2 ≤ sizeLine; decide), fun g ng => ?_⟩⟩
        have sg := same_upd (o := .tup [sortV (some z), x]) ng
        have tg := tupNew (K := K) (xs := [sortV (some z), x]) (ds := [.str z, .tuple es]) ng (.cons (.str _) (.cons (dpS sg e) .nil))
        have hb := ((hb.keep b6.keep w4.lst.choose_spec nDa a5).keep k7 w6.lst.choose_spec nDa a5).same sg
        obtain ⟨xs2, hD2, hx2⟩ := hb
        have lx2 := dpLen hx2
        have p3 := p.1.to (k := 3) (by omega)
        refine ⟨D, xs2, ix, _, rfl, rfl, hD2, Nat.lt_of_le_of_lt (show xs2.length ≤ 100 by omega) (by decide), i0, by omega, ?_⟩
        have zF := (fill_all3 hzs p3).2.2.1
        have kf := updK (o := .lst (xs2.take ix.toNat ++ [.ref g] ++ xs2.drop ix.toNat)) ((((k5.trans b4.keep).trans b6.keep).trans k7).trans (Keep.of sg)) nD
        have wF := ((w7.same sg).updNe (o := .lst (xs2.take ix.toNat ++ [.ref g] ++ xs2.drop ix.toNat)) nDa).mono (show n + 190 + 1 + 1 + 50 ≤ n + 300 by omega)
        have hall := dpKall (fun d v => dpK (a := D) (Keep.upd (o := .lst (xs2.take ix.toNat ++ [.ref g] ++ xs2.drop ix.toNat)) (Keep.of (Same.refl _))) hD2 20 d v) ds xs2 a5 hx2
        have hg := dpU (o := .lst (xs2.take ix.toNat ++ [.ref g] ++ xs2.drop ix.toNat)) hD2 zF tg
        refine ⟨_, rfl, D, _, rfl, .inl ⟨SqL.of upd_same, fun l nl => ?_⟩⟩
        have sl := same_upd (o := .tup (xs2.take ix.toNat ++ [.ref g] ++ xs2.drop ix.toNat)) nl
        have tf : TT true (ds.take ix.toNat ++ [PyData.tuple [.str z, .tuple es]] ++ ds.drop ix.toNat) := TJ.fill (i := q.toNat) (by rw [List.take_append_drop]; exact pi) h3 hzs p3
        exact k _ (ds.take ix.toNat ++ [PyData.tuple [.str z, .tuple es]] ++ ds.drop ix.toNat) _ (kf.trans (Keep.of sl)) (wF.same sl) (.tup (SqT.of upd_same) (dpSA sl (dpSnoc (dpSnoc (dpTake _ hall) (.cons hg .nil)) (dpDrop _ hall)))) tf
end
end K5

set_option Elab.async false
set_option linter.all false
set_option maxRecDepth 100000
set_option maxHeartbeats 4000000
namespace K5
open PySem PySem.Spec PyProof.Rows L2
open K1 (FnP top Nm wm)
/-! ### what an entry of a template is -/
theorem mark_head {d : PyData} {z : Str} {n : Nat} (h : isMark d z ((n + 1 : Nat) : Int) = true) : ∃ t, d = .tuple (.str z :: t) := by
  cases d with
  | tuple ds =>
    obtain ⟨h1, h2⟩ := ba h
    have h1 := of_decide_eq_true h1
    cases ds with
    | nil => exact absurd h1 (by show ¬ ((0 : Nat) : Int) = _; omega)
    | cons x t =>
      cases x with
      | str y =>
        have q : (([z] : List Str).any fun w => w == y) = true := h2
        rw [List.any_cons, List.any_nil, Bool.or_false] at q
        exact ⟨t, by rw [LawfulBEq.eq_of_beq q]⟩
      | _ => exact nomatch h2
  | _ => exact nomatch h
/-- no tuple, or its first item -/
def Kd (e : PyData) (x : PyData) : Prop := (isTy e "tuple" = false ∧ x = .none ∧ isNm e = false) ∨ ∃ t, e = .tuple (x :: t) ∧ ((∃ i, x = .int i ∧ isNm e = false) ∨ (∃ z, x = .str z ∧ z ≠ "fill" ∧ z ≠ "fit" ∧ z ≠ "repeat" ∧ isNm e = decide (z = "names")))
theorem kd_mark {e : PyData} {z : Str} {n : Nat} (h : isMark e z ((n + 1 : Nat) : Int) = true) (h1 : z ≠ "fill") (h2 : z ≠ "fit") (h3 : z ≠ "repeat") (h4 : isNm e = decide (z = "names")) : ∃ x, Kd e x := by
  obtain ⟨t, rfl⟩ := mark_head h
  exact ⟨_, .inr ⟨t, rfl, .inr ⟨z, rfl, h1, h2, h3, h4⟩⟩⟩
theorem no_nm {e : PyData} {z : Str} {n : Int} (h : isMark e z n = true) (hz : z ≠ "names") : isNm e = decide (z = "names") := by
  rw [decide_eq_false hz]
  cases q : isNm e with
  | false => rfl
  | true => exact absurd (mark_uniq h q) hz
theorem flat_kd {e : PyData} (h : (isSize e || isNamesE e) = true) : ∃ x, Kd e x := by
  have word : ∀ ws, isWord e ws = true → ∃ x, Kd e x := fun ws h => by
    cases e with
    | str z => exact ⟨.none, .inl ⟨by simp only [isTy, tyN]; decide, rfl, rfl⟩⟩
    | _ => exact nomatch h
  have len : isLen e = true → ∃ x, Kd e x := fun h => by
    rcases num_shape (ba h).1 with ⟨i, rfl⟩ | ⟨t, b, rfl, _⟩
    · exact ⟨.none, .inl ⟨by simp only [isTy, tyN]; decide, rfl, rfl⟩⟩
    · exact ⟨.int t, .inr ⟨_, rfl, .inl ⟨t, rfl, by show (decide ((2 : Int) = 2) && false) = false; rfl⟩⟩⟩
  have fix : isFixed e = true → ∃ x, Kd e x := fun h => by
    rcases Bool.or_eq_true_iff.mp h with h | h
    · exact len h
    · exact kd_mark (n := 1) (ba h).1 (by decide) (by decide) (by decide) (no_nm (ba h).1 (by decide))
  rcases Bool.or_eq_true_iff.mp h with h | h
  · rcases Bool.or_eq_true_iff.mp h with h | h
    · rcases Bool.or_eq_true_iff.mp h with h | h
      · exact fix h
      · exact word _ h
    · rcases Bool.or_eq_true_iff.mp h with h | h
      · exact kd_mark (n := 1) (ba h).1 (by decide) (by decide) (by decide) (no_nm (ba h).1 (by decide))
      · rcases Bool.or_eq_true_iff.mp h with h | h
        · exact kd_mark (n := 2) (ba h).1 (by decide) (by decide) (by decide) (no_nm (ba h).1 (by decide))
        · exact kd_mark (n := 1) (ba h).1 (by decide) (by decide) (by decide) (no_nm (ba h).1 (by decide))
  · exact kd_mark (n := 1) (ba h).1 (by decide) (by decide) (by decide) (show isMark e "names" 2 = _ by rw [(ba h).1]; decide)
theorem flat_rp {e : PyData} (h : (isSize e || isNamesE e) = true) : isRp e = false := by
  obtain ⟨x, ek⟩ := flat_kd h
  cases q : isRp e with
  | false => rfl
  | true =>
    obtain ⟨t, rfl⟩ := mark_head (n := 2) q
    rcases ek with ⟨c, _⟩ | ⟨t', e, ek⟩
    · exact absurd c (by simp only [isTy, tyN]; decide)
    · injection e with e
      injection e with e _
      subst e
      rcases ek with ⟨i, e, _⟩ | ⟨z, e, _, _, z4, _⟩
      · cases e
      · injection e with e
        exact absurd e.symm z4
theorem flat_fl {e : PyData} (h : (isSize e || isNamesE e) = true) : isFl e = false := by
  obtain ⟨x, ek⟩ := flat_kd h
  cases q : isFl e with
  | false => rfl
  | true =>
    have hh : ∃ z t, e = .tuple (.str z :: t) ∧ (z = "fill" ∨ z = "fit") := by
      rcases Bool.or_eq_true_iff.mp q with q | q
      · obtain ⟨t, rfl⟩ := mark_head (n := 1) q
        exact ⟨_, _, rfl, .inl rfl⟩
      · obtain ⟨t, rfl⟩ := mark_head (n := 1) q
        exact ⟨_, _, rfl, .inr rfl⟩
    obtain ⟨z0, t, rfl, hz⟩ := hh
    rcases ek with ⟨c, _⟩ | ⟨t', e, ek⟩
    · exact absurd c (by simp only [isTy, tyN]; decide)
    · injection e with e
      injection e with e _
      subst e
      rcases ek with ⟨i, e, _⟩ | ⟨z, e, z2, z3, _, _⟩
      · cases e
      · injection e with e
        subst e
        rcases hz with h | h
        · exact absurd h z2
        · exact absurd h z3
theorem wr_small {e : PyData} {n : Nat} (h : ShE false e ∨ ShF e) (hn : n ≤ 3) : (noNm (wrtOne n e)).length ≤ 100 := by
  refine Nat.le_trans (List.length_filter_le _ _) ?_
  rcases h with (hf | ⟨r, es, rfl, r0, r1, pl⟩) | ⟨z, es, rfl, hz, pl⟩
  · unfold wrtOne
    rw [flat_rp (ba hf).1, flat_fl (ba hf).1]
    exact (by decide : 1 ≤ 100)
  · rw [show wrtOne n (.tuple [.str "repeat", .int r, .tuple es]) = (List.replicate r.toNat es).flatten from rfl, flat_len]
    exact Nat.le_trans (Nat.mul_le_mul (show r.toNat ≤ 3 by omega) pl.n) (by decide)
  · rw [show wrtOne n (.tuple [.str z, .tuple es]) = (List.replicate n es).flatten by rcases hz with rfl | rfl <;> rfl, flat_len]
    exact Nat.le_trans (Nat.mul_le_mul hn pl.n) (by decide)
theorem szW_small {n : Nat} (hn : n ≤ 3) : ∀ {ds : List PyData}, (∀ e ∈ ds, ShE false e ∨ ShF e) → (szW ds n).length ≤ 100 * ds.length
  | [], _ => Nat.zero_le _
  | e :: ds, h => by
    have ih := szW_small hn (ds := ds) fun x hx => h x (List.mem_cons_of_mem _ hx)
    have h1 := wr_small (h e (List.mem_cons_self ..)) hn
    have : szW (e :: ds) n = noNm (wrtOne n e) ++ szW ds n := List.filter_append ..
    rw [this, List.length_append, List.length_cons]
    omega
section
variable {P : Program} {w : World} {K : PySem.W.Frag} {mg : Str → Option Value} {base : Heap} {C fI fE : Addr}
/-- shape of a template, with or without a fill or fit -/
def TSh (ds : List PyData) : Prop := ds.length ≤ 7 ∧ ∀ e ∈ ds, ShE false e ∨ ShF e
def spWr (K : PySem.W.Frag) : Sp := fun vs H Q _ => ∃ (v : V) (ds : List PyData) (n : Nat), vs = [v, .int (n : Int)] ∧ Dp K H v (.tuple ds) ∧ TSh ds ∧ n ≤ 3 ∧ ∀ H' t D L us ls, Same H H' → H' t = some (.tup [.ref D, .ref L]) → H D = none → H' D = some (.lst us) → DpAll K H' us (szW ds n) → H' L = some (.lst ls) → Q (.ref t) H'
theorem scWr : FnScope ["template", "often", "found", "filled", "entry", "kind", "turn", "some", "one"] ["template", "often"] (defScope (top 112)) := ⟨rfl, rfl, rfl, by decide +kernel, rfl, by decide +kernel, by decide +kernel⟩
theorem ok_wr {f : Addr} {fd : FuncData} (F : FnP K "_law_written" (top 112) f fd) (N : Nm mg) : FnOk P w K mg base CX0 1 f fd ["template", "often"] (spWr K) := by
  refine F.ok scWr (fun vs H Q E h => ?_) (fun cdv A outer s H vs Q E hr h => ?_)
  · obtain ⟨v, ds, n, rfl, _⟩ := h
    rfl
  · obtain ⟨v, ds, n, rfl, hv, hs, hn, k⟩ := h
    refine ⟨_, PSs.nox (pss_cons (ps_par (i := 2) (j := 3) rfl scWr.nd rfl rfl (by decide) (by rfl) (by rfl) (pa_cons (pe_lst pa_nil) (pa_cons (pe_lst pa_nil) pa_nil)) (by rfl))
  (pss_cons (ps_for PassesOwn.never rfl (pi_tup (pv 0))
    (pg_name (i := 4) scWr.nd rfl (Or.inl rfl))
    (pss_cons (ps_set (i := 5) scWr.nd rfl (Or.inl rfl) (pe_ifExp (pt_val (pe_callB call_isi (by rfl) N.isi (by decide +kernel) (pa_cons (pv 4) (pa_cons (pe_bltn (v := .ty "tuple") (u := .type "tuple") (by rfl) N.ttup (by decide +kernel) rfl) pa_nil)))) (pe_ix ix_tup (pv 4) pe_int (fun _ _ => rfl)) pe_non))
  (pss_one (ps_if (pt_cmpR op_in_seq (pv 5) (pe_tup (pa_cons pe_str (pa_cons pe_str pa_nil))) (by rfl))
    (pss_one (ps_for PassesOwn.never rfl (pi_range1 rfl N.rng (pa_cons (pv 1) pa_nil))
    (pg_name (i := 6) scWr.nd rfl (Or.inl rfl))
    (pss_cons (ps_setLc (i := 7) (own := [("one", 8)]) (g := gName 8) rfl scWr.nd rfl rfl (sw_true rfl rfl rfl (by decide +kernel)) (pi_tup (pe_ix ix_tup (pv 4) pe_int (fun _ _ => rfl))) (blkOk_by (own := [("one", 8)]) (N := ["template", "often", "found", "filled", "entry", "kind", "turn", "some", "one"]) (sc := defScope (top 112)) (by decide +kernel)) (fun _ _ _ _ _ => (pg_name (i := 8) scWr.nd rfl (Or.inl rfl))) (fun _ _ _ _ _ => pts_one (PW.pt (pw_or (pt_not (pt_val (pe_callB (show CallR _ (.builtin "isinstance") (rIsi K) from call_isi) (by rfl) N.isi (by decide +kernel) (pa_cons (pv 8) (pa_cons (pe_bltn (v := .ty "tuple") (u := .type "tuple") (by rfl) N.ttup (by decide +kernel) rfl) pa_nil))))) (pw_or1 (pt_cmpR op_ne (pe_ix (show IxR _ (rIxT K) from ix_tup) (pv 8) pe_int (fun _ _ => rfl)) pe_str (nomark _)))))) (fun _ _ _ _ _ => (pv 8)))
  (pss_cons (ps_expr (pe_bm PySem.F.plainAttrs_list PySem.F.slot_list_extend PySem.F.type_list_extend mt_extend (pv 3) (pa_cons (pe_listRg rfl (by rfl) N.tlst (prg_2 (by rfl) N.rng (pe_callB call_len_seq (by rfl) N.len PySem.boot_len (pa_cons (pv 2) pa_nil)) (pe_op op_add (pe_callB call_len_seq (by rfl) N.len PySem.boot_len (pa_cons (pv 2) pa_nil)) (pe_callB call_len_seq (by rfl) N.len PySem.boot_len (pa_cons (pv 7) pa_nil))))) pa_nil)))
  (pss_one (ps_expr (pe_bm PySem.F.plainAttrs_list PySem.F.slot_list_extend PySem.F.type_list_extend mt_extend (pv 2) (pa_cons (pv 7) pa_nil))))))))
    (pss_one (ps_if (pt_cmpR op_eq (pv 5) pe_str (nomark _))
    (pss_one (ps_expr (pe_bm PySem.F.plainAttrs_list PySem.F.slot_list_extend PySem.F.type_list_extend mt_extend (pv 2) (pa_cons (pe_op op_rep (pe_lc (own := [("one", 8)]) (g := gName 8) rfl scWr.nd (pi_tup (pe_ix ix_tup (pv 4) pe_int (fun _ _ => rfl))) (blkOk_by (own := [("one", 8)]) (N := ["template", "often", "found", "filled", "entry", "kind", "turn", "some", "one"]) (sc := defScope (top 112)) (by decide +kernel)) (fun _ _ _ _ _ => (pg_name (i := 8) scWr.nd rfl (Or.inl rfl))) (fun _ _ _ _ _ => pts_one (PW.pt (pw_or (pt_not (pt_val (pe_callB (show CallR _ (.builtin "isinstance") (rIsi K) from call_isi) (by rfl) N.isi (by decide +kernel) (pa_cons (pv 8) (pa_cons (pe_bltn (v := .ty "tuple") (u := .type "tuple") (by rfl) N.ttup (by decide +kernel) rfl) pa_nil))))) (pw_or1 (pt_cmpR op_ne (pe_ix (show IxR _ (rIxT K) from ix_tup) (pv 8) pe_int (fun _ _ => rfl)) pe_str (nomark _)))))) (fun _ _ _ _ _ => (pv 8))) (pe_ix ix_tup (pv 4) pe_int (fun _ _ => rfl))) pa_nil))))
    (pss_one (ps_if (pt_cmpR op_ne (pv 5) pe_str (nomark _))
    (pss_one (ps_expr (pe_bm PySem.F.plainAttrs_list PySem.F.slot_list_append PySem.F.type_list_append mt_append (pv 2) (pa_cons (pv 4) pa_nil))))
    pss_nil))))))))
  (pss_one (ps_ret (pe_tup (pa_cons (pv 2) (pa_cons (pv 3) pa_nil))))))), ?_⟩
    cases hv with
    | @tup p xs _ ht hx =>
      have hl := dpLen hx
      refine ⟨(by show 0 ≤ sizeLine; decide), fun D nD => ⟨(by show 0 ≤ sizeLine; decide), fun L nL => ⟨_, _, rfl, ?_⟩⟩⟩
      have sD := same_upd (o := .lst []) nD
      have sL := same_upd (o := .lst []) nL
      have hDL : D ≠ L := fun e => by
        rw [← e, upd_same] at nL
        cases nL
      have nL0 : H L = none := none_of sD nL
      refine ⟨_, rfl, p, rfl, ⟨xs, Same.seqT (sD.trans sL) ht⟩, for_tup (K := K) (a := p) (xs := xs) (fun i σ H' => Same H H' ∧ (∃ us, H' D = some (.lst us) ∧ DpAll K H us (szW (ds.take i) n)) ∧ (∃ ls, H' L = some (.lst ls) ∧ ls.length ≤ 1000 * i) ∧ ∃ v4 v5 v6 v7 v8, σ = [some (.ref p), some (.int (n : Int)), some (.ref D), some (.ref L), v4, v5, v6, v7, v8])
        ⟨sD.trans sL, ⟨[], sL _ _ upd_same, .nil⟩, ⟨[], upd_same, Nat.zero_le _⟩, _, _, _, _, _, rfl⟩ (fun i σ H' _ h => Same.seqT h.1 ht) ?_ ?_⟩
      · rintro i x σ H2 hi ⟨s2, ⟨us, hD, hus⟩, ⟨ls, hL, lls⟩, v4, v5, v6, v7, v8, rfl⟩
        have hi' := (List.getElem?_eq_some_iff.mp hi).1
        have he : ds[i]? = some (ds[i]'(by omega)) := List.getElem?_eq_getElem _
        obtain ⟨u', eu, hu⟩ := dpAt i hx he
        rw [hi] at eu
        cases eu
        have hm : ds[i]'(by omega) ∈ ds := List.getElem_mem _
        generalize ds[i]'(by omega) = e at he hu hm
        have h7 := hs.1
        have i7 : i < 7 := by omega
        have lus : us.length ≤ 1000 * i := by
          rw [dpLen hus]
          refine Nat.le_trans (szW_small hn fun e' he' => hs.2 e' (List.mem_of_mem_take he')) ?_
          rw [List.length_take]
          omega
        have sn : ∀ r, noNm (wrtOne n e) = r → szW (ds.take (i + 1)) n = szW (ds.take i) n ++ r := fun r h => by
          rw [← h]
          unfold szW
          rw [wrt_snoc he]
          exact List.filter_append ..
        refine ⟨_, rfl, _, _, _, _, _, rfl, .ty _, dpTy (dpS s2 hu), kitD e (by decide), _, rfl, ?_⟩
        rcases hs.2 e hm with (hf | ⟨r, es, rfl, r0, r1, pl⟩) | ⟨z, es, rfl, hz2, pl⟩
        · -- a size, names
          have ff := (ba hf).1
          have ro : wrtOne n e = [e] := by
            unfold wrtOne
            rw [flat_rp ff, flat_fl ff]
            rfl
          obtain ⟨x1, ek⟩ := flat_kd ff
          have keepIt : isNm e = false → szW (ds.take (i + 1)) n = szW (ds.take i) n ++ [e] := fun nm => sn _ (by
            rw [ro]
            unfold noNm
            rw [List.filter_cons_of_pos (by rw [nm]; rfl)]
            rfl)
          rcases ek with ⟨c1, rfl, nm⟩ | ⟨t1, rfl, ek⟩
          · rw [c1]
            refine iteF ⟨_, rfl, (by show 2 ≤ sizeLine; decide), fun tp ntp => ⟨tp, [.str "fill", .str "fit"], rfl, .inr (SqT.of upd_same), rfl, rfl, _, rfl, iteF ⟨_, rfl, rfl, _, rfl, iteF ⟨_, rfl, rfl, _, rfl, iteT ?_⟩⟩⟩⟩
            have st := same_upd (o := .tup [.str "fill", .str "fit"]) ntp
            refine ⟨_, rfl, .inl ⟨rfl, _, SqL.of (st _ _ hD)⟩, _, rfl, D, us, _, rfl, rfl, st _ _ hD, Nat.lt_of_le_of_lt lus (by rw [sizeLine_eq]; omega), ?_⟩
            exact ⟨same_upd' nD (s2.trans st), ⟨_, upd_same, by rw [keepIt nm]; exact dpSnoc hus (.cons hu .nil)⟩, ⟨ls, by rw [upd_ne (Ne.symm hDL)]; exact st _ _ hL, by omega⟩, _, _, _, _, _, rfl⟩
          · cases hu with
            | @tup pe ye _ hpe hye =>
              have hu : Dp K H (.ref pe) (.tuple (x1 :: t1)) := .tup hpe hye
              cases hye with
              | @cons v0 d0 vt dt h0 ht0 =>
                refine iteT ⟨_, rfl, pe, _, 0, _, rfl, rfl, Same.seqT s2 hpe, atI_nat (j := 0) rfl, ?_⟩
                refine ⟨_, rfl, (by show 2 ≤ sizeLine; decide), fun tp ntp => ?_⟩
                have st := same_upd (o := .tup [.str "fill", .str "fit"]) ntp
                have app : ∀ nm : isNm (.tuple (x1 :: t1)) = false, Same H (upd (upd H2 tp (.tup [.str "fill", .str "fit"])) D (.lst (us ++ [.ref pe]))) ∧ (∃ us', upd (upd H2 tp (.tup [.str "fill", .str "fit"])) D (.lst (us ++ [.ref pe])) D = some (.lst us') ∧ DpAll K H us' (szW (ds.take (i + 1)) n)) ∧ (∃ ls, upd (upd H2 tp (.tup [.str "fill", .str "fit"])) D (.lst (us ++ [.ref pe])) L = some (.lst ls) ∧ ls.length ≤ 1000 * (i + 1)) := fun nm =>
                  ⟨same_upd' nD (s2.trans st), ⟨_, upd_same, by rw [keepIt nm]; exact dpSnoc hus (.cons hu .nil)⟩, ⟨ls, by rw [upd_ne (Ne.symm hDL)]; exact st _ _ hL, by omega⟩⟩
                rcases ek with ⟨i1, rfl, nm⟩ | ⟨z1, rfl, z2, z3, z4, nm⟩
                · cases h0
                  refine ⟨tp, [.str "fill", .str "fit"], rfl, .inr (SqT.of upd_same), rfl, rfl, _, rfl, iteF ⟨_, rfl, rfl, _, rfl, iteF ⟨_, rfl, rfl, _, rfl, iteT ?_⟩⟩⟩
                  refine ⟨_, rfl, .inl ⟨rfl, _, SqL.of (st _ _ hD)⟩, _, rfl, D, us, _, rfl, rfl, st _ _ hD, Nat.lt_of_le_of_lt lus (by rw [sizeLine_eq]; omega), ?_⟩
                  obtain ⟨q1, q2, q3⟩ := app nm
                  exact ⟨q1, q2, q3, _, _, _, _, _, rfl⟩
                · cases h0
                  have n1 : inV (.str z1) [.str "fill", .str "fit"] = false := by
                    have := inV_str z1 ["fill", "fit"]
                    rw [show ([.str "fill", .str "fit"] : List V) = (["fill", "fit"] : List Str).map V.str from rfl, this]
                    rw [List.any_cons, List.any_cons, List.any_nil, beq_eq_false_iff_ne.mpr (Ne.symm z2), beq_eq_false_iff_ne.mpr (Ne.symm z3)]
                    rfl
                  have n2 : decide (V.str z1 = V.str "repeat") = false := decide_eq_false fun e => z4 (by injection e)
                  refine ⟨tp, [.str "fill", .str "fit"], rfl, .inr (SqT.of upd_same), rfl, rfl, _, rfl, ?_⟩
                  show if inV (.str z1) [.str "fill", .str "fit"] = true then _ else _
                  rw [n1]
                  refine iteF ⟨_, rfl, rfl, _, rfl, ?_⟩
                  rw [n2]
                  refine iteF ⟨_, rfl, rfl, _, rfl, ite2 (fun c => ?_) (fun c => ?_)⟩
                  · refine ⟨_, rfl, .inl ⟨rfl, _, SqL.of (st _ _ hD)⟩, _, rfl, D, us, _, rfl, rfl, st _ _ hD, Nat.lt_of_le_of_lt lus (by rw [sizeLine_eq]; omega), ?_⟩
                    obtain ⟨q1, q2, q3⟩ := app (by
                      rw [nm, decide_eq_false]
                      intro e
                      rw [e] at c
                      exact absurd c (by decide))
                    exact ⟨q1, q2, q3, _, _, _, _, _, rfl⟩
                  · have zn : z1 = "names" := Classical.byContradiction fun h => c (by
                      rw [decide_eq_false (fun e => h (by injection e))]
                      rfl)
                    refine ⟨s2.trans st, ⟨us, st _ _ hD, ?_⟩, ⟨ls, st _ _ hL, by omega⟩, _, _, _, _, _, rfl⟩
                    rw [sn [] (by
                      rw [ro]
                      unfold noNm
                      rw [List.filter_cons_of_neg (by rw [nm, zn]; decide)]
                      rfl), List.append_nil]
                    exact hus
        · -- a repeat
          cases hu with
          | @tup pe ye _ hpe hye =>
            cases hye with
            | cons h0 hye =>
              cases h0
              cases hye with
              | cons h1 hye =>
                cases h1
                cases hye with
                | @cons v2 _ _ _ h2 hye =>
                  cases hye
                  cases h2 with
                  | @tup q0 zs _ hq0 hz =>
                    have fl := fun d hd => (pl.flat d hd).1
                    have l6 := pl.n
                    have lzs := dpLen hz
                    refine iteT ⟨_, rfl, pe, _, 0, _, rfl, rfl, Same.seqT s2 hpe, atI_nat (j := 0) rfl, ?_⟩
                    refine ⟨_, rfl, (by show 2 ≤ sizeLine; decide), fun tp ntp => ⟨tp, [.str "fill", .str "fit"], rfl, .inr (SqT.of upd_same), rfl, rfl, _, rfl, iteF ⟨_, rfl, rfl, _, rfl, iteT ?_⟩⟩⟩
                    have st := same_upd (o := .tup [.str "fill", .str "fit"]) ntp
                    have sB := s2.trans st
                    have hD := st _ _ hD
                    have hL := st _ _ hL
                    generalize upd H2 tp (.tup [.str "fill", .str "fit"]) = HB at sB hD hL ⊢
                    refine ⟨_, rfl, .inl ⟨rfl, _, SqL.of hD⟩, _, rfl, pe, _, 2, _, rfl, rfl, Same.seqT sB hpe, atI_nat (j := 2) rfl, q0, rfl, ⟨zs, Same.seqT sB hq0⟩, fun NN nN => ?_⟩
                    refine lc_tup (K := K) (a := q0) (xs := zs) (fun j H' => Same HB H' ∧ ∃ ws, H' NN = some (.lst ws) ∧ DpAll K H ws (noNm (es.take j))) ⟨same_upd nN, [], upd_same, .nil⟩ (fun j H' _ h => Same.seqT (sB.trans h.1) hq0) ?_ ?_
                    · rintro j y H6 hj ⟨s6, ws, hN, hws⟩
                      have s06 := sB.trans s6
                      have hj' := (List.getElem?_eq_some_iff.mp hj).1
                      have hd : es[j]? = some (es[j]'(by omega)) := List.getElem?_eq_getElem _
                      obtain ⟨u', eu, hy⟩ := dpAt j hz hd
                      rw [hj] at eu
                      cases eu
                      have mj : es[j]'(by omega) ∈ es := List.getElem_mem _
                      generalize es[j]'(by omega) = e1 at hd hy mj
                      have lw : ws.length < sizeLine := by
                        rw [dpLen hws]
                        refine Nat.lt_of_le_of_lt (m := 100) ?_ (by decide)
                        refine Nat.le_trans (List.length_filter_le _ _) ?_
                        rw [List.length_take]
                        omega
                      have tk : es.take (j + 1) = es.take j ++ [e1] := by rw [List.take_succ, hd]; rfl
                      obtain ⟨x1, ek⟩ := flat_kd (fl e1 mj)
                      have keepIt : isNm e1 = false → ∃ acc, H6 NN = some (.lst acc) ∧ acc.length < sizeLine ∧ (Same HB (upd H6 NN (.lst (acc ++ [y]))) ∧ ∃ ws, upd H6 NN (.lst (acc ++ [y])) NN = some (.lst ws) ∧ DpAll K H ws (noNm (es.take (j + 1)))) := fun nm =>
                        ⟨ws, hN, lw, same_upd' nN s6, _, upd_same, by
                          rw [tk]
                          unfold noNm
                          rw [List.filter_append, List.filter_cons_of_pos (by rw [nm]; rfl)]
                          exact dpSnoc hws (.cons hy .nil)⟩
                      refine ⟨rfl, _, rfl, _, _, _, _, _, rfl, .ty _, dpTy (dpS s06 hy), kitD e1 (by decide), _, rfl, ?_⟩
                      rcases ek with ⟨c1, rfl, nm⟩ | ⟨t1, rfl, ek⟩
                      · rw [c1]
                        exact iteT (iteT ⟨_, rfl, keepIt nm⟩)
                      · cases hy with
                        | @tup pe ye _ hpe hye =>
                          cases hye with
                          | @cons v0 d0 vt dt h0 ht0 =>
                            refine iteF ⟨_, rfl, pe, _, 0, _, rfl, rfl, Same.seqT s06 hpe, atI_nat (j := 0) rfl, ?_⟩
                            rcases ek with ⟨i1, rfl, nm⟩ | ⟨z1, rfl, _, _, _, nm⟩
                            · cases h0
                              exact ⟨rfl, _, rfl, iteT ⟨_, rfl, keepIt nm⟩⟩
                            · cases h0
                              refine ⟨rfl, _, rfl, ite2 (fun c => ?_) (fun c => ?_)⟩
                              · refine ⟨_, rfl, keepIt ?_⟩
                                rw [nm, decide_eq_false]
                                intro e
                                rw [e] at c
                                exact absurd c (by decide)
                              · refine ⟨s6, ws, hN, ?_⟩
                                have zn : z1 = "names" := Classical.byContradiction fun h => c (by
                                  rw [decide_eq_false (fun e => h (by injection e))]
                                  rfl)
                                rw [tk]
                                unfold noNm
                                rw [List.filter_append, List.filter_cons_of_neg (by rw [nm, zn]; decide), List.filter_nil, List.append_nil]
                                exact hws
                    · rintro H6 ⟨s6, ws, hN, hws⟩
                      rw [dpLen hz, List.take_length] at hws
                      have lws : ws.length ≤ 6 := by
                        rw [dpLen hws]
                        exact Nat.le_trans (List.length_filter_le _ _) l6
                      have lr : (List.replicate r.toNat ws).flatten.length ≤ 18 := by
                        rw [flat_len]
                        exact Nat.le_trans (Nat.mul_le_mul (show r.toNat ≤ 3 by omega) lws) (by decide)
                      refine ⟨_, rfl, pe, _, 1, _, rfl, rfl, Same.seqT (sB.trans s6) hpe, atI_nat (j := 1) rfl, NN, r, ws, rfl, rfl, hN, by omega, by omega, ?_, fun p5 n5 => ?_⟩
                      · exact Nat.le_trans (Nat.mul_le_mul lws (show r.toNat ≤ 3 by omega)) (by decide)
                      · have s5 := same_upd (o := .lst (List.replicate r.toNat ws).flatten) n5
                        refine ⟨D, p5, us, _, rfl, rfl, s5 _ _ (s6 _ _ hD), upd_same, Nat.le_trans (Nat.add_le_add lus lr) (by rw [sizeLine_eq]; omega), ?_⟩
                        refine ⟨same_upd' nD ((sB.trans s6).trans s5), ⟨_, upd_same, ?_⟩, ⟨ls, by rw [upd_ne (Ne.symm hDL)]; exact s5 _ _ (s6 _ _ hL), by omega⟩, _, _, _, _, _, rfl⟩
                        rw [sn ((List.replicate r.toNat (noNm es)).flatten) (by
                          rw [show wrtOne n (.tuple [.str "repeat", .int r, .tuple es]) = (List.replicate r.toNat es).flatten from rfl]
                          exact filter_rep es _)]
                        exact dpSnoc hus (dpRep hws r.toNat)
        · -- a fill, a fit
          cases hu with
          | @tup pe ye _ hpe hye =>
            cases hye with
            | cons h0 hye =>
              cases h0
              cases hye with
              | @cons v2 _ _ _ h2 hye =>
                cases hye
                cases h2 with
                | @tup q0 zs _ hq0 hz =>
                    have fl := fun d hd => (pl.flat d hd).1
                    have l6 := pl.n
                    have lzs := dpLen hz
                    refine iteT ⟨_, rfl, pe, _, 0, _, rfl, rfl, Same.seqT s2 hpe, atI_nat (j := 0) rfl, ?_⟩
                    have n1 : inV (.str z) [.str "fill", .str "fit"] = true := by rcases hz2 with rfl | rfl <;> decide
                    refine ⟨_, rfl, (by show 2 ≤ sizeLine; decide), fun tp ntp => ⟨tp, [.str "fill", .str "fit"], rfl, .inr (SqT.of upd_same), rfl, rfl, _, rfl, ?_⟩⟩
                    show if inV (.str z) [.str "fill", .str "fit"] = true then _ else _
                    rw [n1]
                    refine iteT ?_
                    have st := same_upd (o := .tup [.str "fill", .str "fit"]) ntp
                    have sB := s2.trans st
                    have hD := st _ _ hD
                    have hL := st _ _ hL
                    generalize upd H2 tp (.tup [.str "fill", .str "fit"]) = HB0 at sB hD hL ⊢
                    refine ⟨_, rfl, (n : Int), rfl, by omega, by omega, for_range (n := (n : Int).toNat) (fun m σ H' => Same H H' ∧ (∃ us', H' D = some (.lst us') ∧ DpAll K H us' (szW (ds.take i) n ++ (List.replicate m (noNm es)).flatten)) ∧ (∃ ls', H' L = some (.lst ls') ∧ ls'.length ≤ 1000 * i + 6 * m) ∧ ∃ v6 v7 v8, σ = [some (.ref p), some (.int (n : Int)), some (.ref D), some (.ref L), some (.ref pe), some (.str z), v6, v7, v8])
                      ⟨sB, ⟨us, hD, by rw [List.replicate_zero, List.flatten_nil, List.append_nil]; exact hus⟩, ⟨ls, hL, lls⟩, _, _, _, rfl⟩ ?_ ?_⟩
                    · rintro m σ HB hm3 ⟨sB, ⟨us, hD, hus⟩, ⟨ls, hL, lls⟩, v6, v7, v8, rfl⟩
                      have hm3 : m < 3 := Nat.lt_of_lt_of_le hm3 hn
                      have lus : us.length ≤ 1000 * i + 18 := by
                        rw [dpLen hus, List.length_append, flat_len]
                        have h1 : (szW (ds.take i) n).length ≤ 1000 * i := by
                          refine Nat.le_trans (szW_small hn fun e' he' => hs.2 e' (List.mem_of_mem_take he')) ?_
                          rw [List.length_take]
                          omega
                        have h2 : m * (noNm es).length ≤ 3 * 6 := Nat.mul_le_mul (by omega) (Nat.le_trans (List.length_filter_le _ _) l6)
                        omega
                      refine ⟨_, rfl, pe, _, 1, _, rfl, rfl, Same.seqT sB hpe, atI_nat (j := 1) rfl, q0, rfl, ⟨zs, Same.seqT sB hq0⟩, fun NN nN => ?_⟩
                      refine lc_tup (K := K) (a := q0) (xs := zs) (fun j H' => Same HB H' ∧ ∃ ws, H' NN = some (.lst ws) ∧ DpAll K H ws (noNm (es.take j))) ⟨same_upd nN, [], upd_same, .nil⟩ (fun j H' _ h => Same.seqT (sB.trans h.1) hq0) ?_ ?_
                      · rintro j y H6 hj ⟨s6, ws, hN, hws⟩
                        have s06 := sB.trans s6
                        have hj' := (List.getElem?_eq_some_iff.mp hj).1
                        have hd : es[j]? = some (es[j]'(by omega)) := List.getElem?_eq_getElem _
                        obtain ⟨u', eu, hy⟩ := dpAt j hz hd
                        rw [hj] at eu
                        cases eu
                        have mj : es[j]'(by omega) ∈ es := List.getElem_mem _
                        generalize es[j]'(by omega) = e1 at hd hy mj
                        have lw : ws.length < sizeLine := by
                          rw [dpLen hws]
                          refine Nat.lt_of_le_of_lt (m := 100) ?_ (by decide)
                          refine Nat.le_trans (List.length_filter_le _ _) ?_
                          rw [List.length_take]
                          omega
                        have tk : es.take (j + 1) = es.take j ++ [e1] := by rw [List.take_succ, hd]; rfl
                        obtain ⟨x1, ek⟩ := flat_kd (fl e1 mj)
                        have keepIt : isNm e1 = false → ∃ acc, H6 NN = some (.lst acc) ∧ acc.length < sizeLine ∧ (Same HB (upd H6 NN (.lst (acc ++ [y]))) ∧ ∃ ws, upd H6 NN (.lst (acc ++ [y])) NN = some (.lst ws) ∧ DpAll K H ws (noNm (es.take (j + 1)))) := fun nm =>
                          ⟨ws, hN, lw, same_upd' nN s6, _, upd_same, by
                            rw [tk]
                            unfold noNm
                            rw [List.filter_append, List.filter_cons_of_pos (by rw [nm]; rfl)]
                            exact dpSnoc hws (.cons hy .nil)⟩
                        refine ⟨rfl, _, rfl, _, _, _, _, _, rfl, .ty _, dpTy (dpS s06 hy), kitD e1 (by decide), _, rfl, ?_⟩
                        rcases ek with ⟨c1, rfl, nm⟩ | ⟨t1, rfl, ek⟩
                        · rw [c1]
                          exact iteT (iteT ⟨_, rfl, keepIt nm⟩)
                        · cases hy with
                          | @tup pe ye _ hpe hye =>
                            cases hye with
                            | @cons v0 d0 vt dt h0 ht0 =>
                              refine iteF ⟨_, rfl, pe, _, 0, _, rfl, rfl, Same.seqT s06 hpe, atI_nat (j := 0) rfl, ?_⟩
                              rcases ek with ⟨i1, rfl, nm⟩ | ⟨z1, rfl, _, _, _, nm⟩
                              · cases h0
                                exact ⟨rfl, _, rfl, iteT ⟨_, rfl, keepIt nm⟩⟩
                              · cases h0
                                refine ⟨rfl, _, rfl, ite2 (fun c => ?_) (fun c => ?_)⟩
                                · refine ⟨_, rfl, keepIt ?_⟩
                                  rw [nm, decide_eq_false]
                                  intro e
                                  rw [e] at c
                                  exact absurd c (by decide)
                                · refine ⟨s6, ws, hN, ?_⟩
                                  have zn : z1 = "names" := Classical.byContradiction fun h => c (by
                                    rw [decide_eq_false (fun e => h (by injection e))]
                                    rfl)
                                  rw [tk]
                                  unfold noNm
                                  rw [List.filter_append, List.filter_cons_of_neg (by rw [nm, zn]; decide), List.filter_nil, List.append_nil]
                                  exact hws
                      · rintro H6 ⟨s6, ws, hN, hws⟩
                        rw [dpLen hz, List.take_length] at hws
                        have hDN := s6 _ _ hD
                        have hLN := s6 _ _ hL
                        have lws : ws.length ≤ 6 := by
                          rw [dpLen hws]
                          exact Nat.le_trans (List.length_filter_le _ _) l6
                        have nNL : NN ≠ L := fun e => by
                          rw [e, hL] at nN
                          cases nN
                        refine ⟨_, rfl, .inl ⟨rfl, _, SqL.of hLN⟩, _, rfl, D, _, rfl, .inl (SqL.of hDN), _, rfl, D, _, rfl, .inl (SqL.of hDN), _, rfl, NN, _, rfl, .inl (SqL.of hN), _, _, rfl, rfl, _, _, rfl, rfl, ?_, fun p5 n5 => ?_⟩
                        · exact RgOk.of_le (by omega) (by omega) (by omega) (by omega)
                        have s5 := same_upd (o := .lst (rgV (us.length : Int) ((us.length : Int) + (ws.length : Int)))) n5
                        have lg : (rgV (us.length : Int) ((us.length : Int) + (ws.length : Int))).length ≤ 6 := by
                          rw [rgV_length]
                          omega
                        refine ⟨L, p5, ls, _, rfl, rfl, s5 _ _ hLN, upd_same, Nat.le_trans (Nat.add_le_add lls lg) (by rw [sizeLine_eq]; omega), ?_⟩
                        have hD7 : upd (upd H6 p5 (.lst (rgV (us.length : Int) ((us.length : Int) + (ws.length : Int))))) L (.lst (ls ++ rgV (us.length : Int) ((us.length : Int) + (ws.length : Int)))) D = some (.lst us) := by
                          rw [upd_ne hDL]
                          exact s5 _ _ hDN
                        have hN7 : upd (upd H6 p5 (.lst (rgV (us.length : Int) ((us.length : Int) + (ws.length : Int))))) L (.lst (ls ++ rgV (us.length : Int) ((us.length : Int) + (ws.length : Int)))) NN = some (.lst ws) := by
                          rw [upd_ne nNL]
                          exact s5 _ _ hN
                        refine ⟨_, rfl, .inl ⟨rfl, _, SqL.of hD7⟩, _, rfl, D, NN, us, ws, rfl, rfl, hD7, hN7, Nat.le_trans (Nat.add_le_add lus lws) (by rw [sizeLine_eq]; omega), ?_⟩
                        refine ⟨same_upd' nD (same_upd' nL0 ((sB.trans s6).trans s5)), ⟨_, upd_same, ?_⟩, ⟨_, by rw [upd_ne (Ne.symm hDL)]; exact upd_same, ?_⟩, _, _, _, rfl⟩
                        · have ef : (List.replicate (m + 1) (noNm es)).flatten = (List.replicate m (noNm es)).flatten ++ noNm es := by
                            rw [List.replicate_succ', List.flatten_append]
                            congr 1
                            exact List.append_nil _
                          rw [ef, ← List.append_assoc]
                          exact dpSnoc hus hws
                        · rw [List.length_append]
                          omega
                    · rintro σ HB ⟨sB, ⟨us, hD, hus⟩, ⟨ls, hL, lls⟩, v6, v7, v8, rfl⟩
                      refine ⟨sB, ⟨us, hD, ?_⟩, ⟨ls, hL, ?_⟩, _, _, _, _, _, rfl⟩
                      · rw [sn ((List.replicate n (noNm es)).flatten) (by
                          rw [show wrtOne n (.tuple [.str z, .tuple es]) = (List.replicate n es).flatten by rcases hz2 with rfl | rfl <;> rfl]
                          exact filter_rep es _)]
                        exact hus
                      · have : (n : Int).toNat = n := rfl
                        omega
      · rintro σ H2 ⟨s2, ⟨us, hD, hus⟩, ⟨ls, hL, lls⟩, v4, v5, v6, v7, v8, rfl⟩
        rw [hl, List.take_length] at hus
        refine ⟨_, rfl, _, rfl, (by show 2 ≤ sizeLine; decide), fun t nt => ?_⟩
        have st := same_upd (o := .tup [.ref D, .ref L]) nt
        exact k _ t D L us ls (s2.trans st) upd_same nD (st _ _ hD) (dpSA (s2.trans st) hus) (st _ _ hL)
end
end K5

set_option Elab.async false
set_option linter.all false
set_option maxRecDepth 100000
set_option maxHeartbeats 4000000
namespace K5
open PySem PySem.Spec PyProof.Rows L2
open K1 (FnP top Nm wm)
/-! ### f(k = v, ..), keywords alone -/
section
variable {X : Cx} {CX : CXT} {k : Nat} {f : Addr} {fd : FuncData} {ps ks : List Str} {sp : Sp} {E : XK} {x : Str} {p pos : Pos} {kws : List Keyword} {tk : TA} {g : List Value → List Value → List Value} {gV : List V → List V → List V}
def tCallK0 (m : Nat) (sp : Sp) (gV : List V → List V → List V) (E : XK) (tk : TA) : TE := fun σ H Q => tk σ H fun zs H2 => zs.length = m ∧ sp (gV [] zs) H2 Q E
theorem run_fnk0 {pins : List (Addr × Obj)} {σ : L2.St} {H : Hp} {s : Shared} {Q : VK} {ws : List Value} {zs : List V} (F : FnOk X.prog X.w X.K X.mg X.base CX k f fd ps sp) (hr : Room k X.A) (hb : KBn X.K fd ps 0 ks g gV) (hx : Passes CX X E)
    (I : Inv X pins σ H s) (rz : Vals zs ws) (l2 : zs.length = ks.length) (h : sp (gV [] zs) H Q E) : wpAny (model X.prog X.w) X.A (call (.ref f) [] (ks.zip ws)) (EP X pins σ Q) X.xe s := by
  have r2 := hb.rel .nil rz
  have hl : (g [] ws).length = ps.length := by rw [← r2.length]; exact F.len _ _ _ _ h
  refine wpAny_call (codeAny_mono (F.run X.A X.stack s H ⟨[], ks.zip ws⟩ (g [] ws) (gV [] zs) Q E hr I.env0 (hb.to s [] ws I.kIn rfl (rz.length.symm.trans l2)) r2 h) fun r s' hq => ?_)
  cases r with
  | error e => exact hx pins σ H s e s' I hq
  | ok fl =>
    cases fl with
    | ret u => exact I.after hq
    | next => exact False.elim hq
    | brk => exact False.elim hq
    | cont => exact False.elim hq
theorem pe_callK0 (F : FnOk X.prog X.w X.K X.mg X.base CX k f fd ps sp) (hr : Room k X.A) (hg : Gl X x) (hm : X.mg x = some (.ref f)) (hk : PySem.W.keepIn X.K (.ref f) = true) (hb : KBn X.K fd ps 0 ks g gV) (hx : Passes CX X E) (hkw : PK X kws tk)
    (hall : (backToKw pos (keywordEach kws X.env)).all (·.1.isSome) = true := by rfl) (hks : (backToKw pos (keywordEach kws X.env)).filterMap (·.1) = ks := by rfl) (hdb : (x == ("__debug__" : Str)) = false := by decide)
    (hpl : ((backTo pos (starEach [] X.env)).any (·.1) || (backToKw pos (keywordEach kws X.env)).any (·.1.isNone)) = false := by rfl) :
    PE X (.Call (.Name x p) [] kws pos) (tCallK0 ks.length sp gV E tk) := by
  refine ⟨fun pins s σ H Q I h => ?_⟩
  refine wpAny_Call_Name_kw (ld_glob I hg hm ?_ hdb)
  refine PySem.W.callWith_KW0 (h₀ := X.base) I.ok.mod.kin hk hall ?_ hpl
  refine thn (hkw.run pos pins s σ H _ I h) fun ws s2 ⟨zs, H2, I2, rz, l2, q2⟩ => ⟨I2.kIn, ?_⟩
  rw [hks]
  exact run_fnk0 F hr hb hx I2 rz l2 q2
end
def kbG (us ws : List Value) : List Value := us ++ ws.reverse
def kbV (vs zs : List V) : List V := vs ++ zs.reverse
/-! ### data -/
theorem sm_refl {n : Nat} {d : PyData} (h : smN n d = true) : PyData.eqv d d = true := SeqAt.eqv_refl d (sm_lay n d h).1
theorem list_sh {n : Nat} {ds : List PyData} (h : ∀ d ∈ ds, smN n d = true) (l : n ≤ 40) : SeqAt.shaped (.list ds) = true := by
  obtain ⟨h1, h2⟩ := sm_all (n + 1) ds fun d hd => sm_lay n d (h d hd)
  refine Bool.and_eq_true_iff.mpr ⟨by rw [PyData.canLay0]; exact h1, decide_eq_true (by rw [PyData.depth]; omega)⟩
theorem list_refl {n : Nat} {ds : List PyData} (h : ∀ d ∈ ds, smN n d = true) : PyData.eqv (.list ds) (.list ds) = true := by
  obtain ⟨h1, h2⟩ := sm_all (n + 1) ds fun d hd => sm_lay n d (h d hd)
  exact SeqAt.eqv_refl _ (by rw [PyData.canLay0]; exact h1)
def preL (ms : List PyData) (F : Nat) : List PyData := (List.range F).map fun (j : Nat) => moreAt ms (-(F : Int) + (j : Int))
def sufL (ms : List PyData) (B : Nat) : List PyData := (List.range B).map fun (j : Nat) => moreAt ms (j : Int)
theorem preL_succ (ms : List PyData) (F : Nat) : preL ms (F + 1) = moreAt ms (-((F + 1 : Nat) : Int)) :: preL ms F := by
  unfold preL
  rw [List.range_succ_eq_map, List.map_cons, List.map_map]
  congr 1
  refine List.map_congr_left fun j _ => ?_
  show moreAt ms _ = moreAt ms _
  congr 1
  show -((F + 1 : Nat) : Int) + ((j + 1 : Nat) : Int) = _
  omega
theorem sufL_succ (ms : List PyData) (B : Nat) : sufL ms (B + 1) = sufL ms B ++ [moreAt ms (B : Int)] := by
  unfold sufL
  rw [List.range_succ, List.map_append]
  rfl
theorem fmod_nat (j L : Nat) : (j : Int).fmod (L : Int) = ((j % L : Nat) : Int) := by
  rw [Int.fmod_eq_emod_of_nonneg _ (by omega)]
  rfl
theorem more_suf {ms : List PyData} (h : ms ≠ []) (j : Nat) : ms[j % ms.length]? = some (moreAt ms (j : Int)) := by
  have h0 : 0 < ms.length := List.length_pos_iff.mpr h
  unfold moreAt
  rw [fmod_nat, Int.toNat_natCast, List.getD_eq_getElem?_getD, List.getElem?_eq_getElem (Nat.mod_lt _ h0)]
  rfl
theorem more_pre {ms : List PyData} (h : ms ≠ []) (j : Nat) : ms[ms.length - 1 - j % ms.length]? = some (moreAt ms (-((j + 1 : Nat) : Int))) := by
  have h0 : 0 < ms.length := List.length_pos_iff.mpr h
  have h1 := Nat.mod_lt j h0
  have e : (-((j + 1 : Nat) : Int)).fmod (ms.length : Int) = ((ms.length - 1 - j % ms.length : Nat) : Int) := by
    rw [Int.fmod_eq_emod_of_nonneg _ (by omega)]
    have hj := Nat.div_add_mod j ms.length
    have e2 : (-((j + 1 : Nat) : Int)) = ((ms.length - 1 - j % ms.length : Nat) : Int) + (-((j / ms.length + 1 : Nat) : Int)) * (ms.length : Int) := by
      have h3 : ((ms.length - 1 - j % ms.length : Nat) : Int) = (ms.length : Int) - 1 - ((j % ms.length : Nat) : Int) := by omega
      have h4 : (j : Int) = (ms.length : Int) * ((j / ms.length : Nat) : Int) + ((j % ms.length : Nat) : Int) := by
        rw [← Int.natCast_mul, ← Int.natCast_add, hj]
      have h5 : -((j / ms.length + 1 : Nat) : Int) * (ms.length : Int) = -((ms.length : Int) * ((j / ms.length : Nat) : Int)) - (ms.length : Int) := by
        rw [Int.natCast_add, Int.neg_mul, Int.add_mul, Int.mul_comm]
        show -(_ + 1 * (ms.length : Int)) = _
        omega
      rw [h3, h5]
      omega
    rw [e2, Int.add_mul_emod_self_right]
    exact Int.emod_eq_of_lt (by omega) (by omega)
  unfold moreAt
  rw [e, Int.toNat_natCast, List.getD_eq_getElem?_getD, List.getElem?_eq_getElem (by omega)]
  rfl
theorem more_sm {ms : List PyData} (h : ms ≠ []) (hm : AllSm ms) (i : Int) : smN 20 (moreAt ms i) = true := by
  unfold moreAt
  rw [List.getD_eq_getElem?_getD]
  cases e : ms[(i.fmod (ms.length : Int)).toNat]? with
  | none => rfl
  | some x => exact hm x (List.mem_of_getElem? e)
theorem preL_sm {ms : List PyData} (h : ms ≠ []) (hm : AllSm ms) (F : Nat) : AllSm (preL ms F) := fun d hd => by
  obtain ⟨j, _, rfl⟩ := List.mem_map.mp hd
  exact more_sm h hm _
theorem sufL_sm {ms : List PyData} (h : ms ≠ []) (hm : AllSm ms) (F : Nat) : AllSm (sufL ms F) := fun d hd => by
  obtain ⟨j, _, rfl⟩ := List.mem_map.mp hd
  exact more_sm h hm _
section
variable {P : Program} {w : World} {K : PySem.W.Frag} {mg : Str → Option Value} {base : Heap} {C fI fE : Addr}
theorem gn_eq {i : Nat} {x y : V} (e : x = y) {σ : L2.St} {H : Hp} {k : L2.St → Hp → Prop} (h : gName i y σ H k) : gName i x σ H k := e ▸ h
theorem GridAt.keep {a : Addr} {H H' : Hp} {g : Addr} {xs ws : List V} {ds : List PyData} (h : GridAt K C H g xs ds) (s : Keep a H H') (ha : H a = some (.lst ws)) (hs : AllSm ds) : GridAt K C H' g xs ds := by
  obtain ⟨⟨dx, h1⟩, h2, h3, h4⟩ := h
  have ng : g ≠ a := fun e => by
    rw [e, ha] at h1
    cases h1
  exact ⟨⟨dx, s _ _ ng h1⟩, dpKall (fun d v => dpK s ha 20 d v) ds xs hs h2, h3, h4⟩
theorem more_sm' {G : Gr} (ag : AllSm G.ds) (col : Bool) : smN 20 (.tuple (moreT G col)) = true := by
  cases col with
  | true => exact ag (.tuple G.mc) (by simp [Gr.ds])
  | false => exact ag (.tuple G.mr) (by simp [Gr.ds])
theorem more_val {σ : L2.St} {H : Hp} {Q : VK} {g : Addr} {xs : List V} {G : Gr} {col : Bool} (T : TG K mg "Grid" C fI fE) (hg : GridAt K C H g xs G.ds) (h1 : σ[1]? = some (some (.ref g))) (q : ∀ vm, Dp K H vm (.tuple (moreT G col)) → Q vm H) :
    (if decide (V.str (axS col) = V.str "column") = true then tFld K (tVar 1) "more_columns" σ H Q else tFld K (tVar 1) "more_rows" σ H Q) := by
  obtain ⟨dx, hd⟩ := id hg.1
  cases col with
  | true =>
    obtain ⟨v, lk, hv⟩ := gridF hg 3 (y := "more_columns") rfl (d := .tuple G.mc) rfl
    exact iteT ⟨_, h1, g, C, dx, _, v, rfl, hd, T.cl, T.na "more_columns" (by decide), lk, q v hv⟩
  | false =>
    obtain ⟨v, lk, hv⟩ := gridF hg 4 (y := "more_rows") rfl (d := .tuple G.mr) rfl
    exact iteF ⟨_, h1, g, C, dx, _, v, rfl, hd, T.cl, T.na "more_rows" (by decide), lk, q v hv⟩
theorem wide_val {σ : L2.St} {H : Hp} {Q : VK} {vf : V} {z : Str} {rows : List (List Bool)} {col : Bool} (h7 : σ[7]? = some (some vf)) (h2 : σ[2]? = some (some (.str (axS col)))) (hv : Dp K H vf (fldD z rows)) (hf : SeqAt.shaped (fldD z rows) = true) (q : ∀ H', Same H H' → Q (.int (wideOf rows col : Nat)) H') :
    tIf (tTest (tOp (rEqD K) (tVar 7) (tTup tNil))) (tC (V.int 0)) (tIf (tTest (tOp rEq (tVar 2) (tC (V.str "column")))) (tCB (fun xs H Q => ∃ p ys, xs = [V.ref p] ∧ (SqL K H p ys ∨ SqT K H p ys) ∧ Q (V.int (ys.length : Nat)) H) (tCons (tOp (rIxT K) (tVar 7) (tC (V.int 0))) tNil)) (tCB (fun xs H Q => ∃ p ys, xs = [V.ref p] ∧ (SqL K H p ys ∨ SqT K H p ys) ∧ Q (V.int (ys.length : Nat)) H) (tCons (tVar 7) tNil))) σ H Q := by
  refine ⟨_, h7, (by show 0 ≤ sizeLine; decide), fun e ne => ?_⟩
  have se := same_upd (o := .tup []) ne
  refine ⟨_, _, dpS se hv, .tup (SqT.of upd_same) .nil, hf, by decide +kernel, _, rfl, ite2 (fun c => ?_) (fun c => ?_)⟩
  · have hr : rows = [] := by
      cases rows with
      | nil => rfl
      | cons r rs => exact absurd c (by show ¬ PyData.eqv (.tuple (rowD z r :: rs.map (rowD z))) (.tuple []) = true; simp [PyData.eqv, PyData.eqvAll])
    have q := q _ se
    rw [hr] at q
    cases col <;> exact q
  · have hr : rows ≠ [] := fun e => c (by rw [e]; show PyData.eqv (.tuple []) (.tuple []) = true; decide +kernel)
    cases hv with
    | @tup p ys _ ht hy =>
      have ly : ys.length = rows.length := by rw [dpLen hy, List.length_map]
      cases col with
      | true =>
        refine ⟨_, h2, rfl, true, rfl, iteT ?_⟩
        cases rows with
        | nil => exact absurd rfl hr
        | cons bs rest =>
          cases hy with
          | cons hu _ =>
            cases hu with
            | @tup r zs _ hrr hz =>
              have lz : zs.length = bs.length := by rw [dpLen hz, List.length_map]
              refine ⟨_, h7, p, _, 0, _, rfl, rfl, Same.seqT se ht, atI_nat (j := 0) rfl, r, zs, rfl, .inr (Same.seqT se hrr), ?_⟩
              rw [lz]
              exact q _ se
      | false =>
        refine ⟨_, h2, rfl, false, rfl, iteF ⟨_, h7, p, ys, rfl, .inr (Same.seqT se ht), ?_⟩⟩
        rw [ly]
        exact q _ se
def spRt (K : PySem.W.Frag) (C : Addr) : Sp := fun vs H Q _ => ∃ (a : Addr) (m : Int) (g : Addr) (xs : List V) (G : Gr) (col : Bool) (v : V) (ds : List PyData) (n : Nat), vs = [.ref a, .ref g, .str (axS col), v, .int (n : Int)] ∧ Wl H a m ∧ m + 2 ≤ 1000000 ∧ GridAt K C H g xs G.ds ∧ GC G col n ds ∧ TSh ds ∧ Dp K H v (.tuple ds) ∧ n ≤ 3 ∧ moreT G col ≠ [] ∧ AllSm (szW ds n) ∧ AllSm G.ds ∧
  ∀ H', Keep a H H' → Wl H' a (m + 2) → Q (.bl true) H'
theorem scRt : FnScope ["well", "world", "side", "template", "often", "told", "more", "cells", "wide", "due", "ahead", "end", "found", "lane", "sizes"] ["well", "world", "side", "template", "often"] (defScope (top 113)) := ⟨rfl, rfl, rfl, by decide +kernel, rfl, by decide +kernel, by decide +kernel⟩
theorem ok_rt {f f1 f2 f3 f4 f5 : Addr} {fd d1 d2 d3 d4 d5 : FuncData} (F : FnP K "_law_right" (top 113) f fd) (N : Nm mg) (T : TG K mg "Grid" C fI fE) (hmax : mg "max" = none) (d__law_draw : D2 P w K mg base "_law_draw" "well" "limit" 2 spDr f1 d1) (d__law_written : D2 P w K mg base "_law_written" "template" "often" 1 (spWr K) f2 d2)
    (d_template_sizes : D3 P w K mg base "template_sizes" "grid" "axis" "count" 9 (spTS K C) f3 d3) (d_lane_count : D3 P w K mg base "lane_count" "grid" "axis" "count" 9 (spLC K C) f4 d4) (d_lane_sizes : D5 P w K mg base "lane_sizes" ["grid", "axis", "count", "first", "behind"] 9 (spLZ K C) f5 d5)
    (kb_template_sizes : KBn K d3 ["grid", "axis", "count"] 0 ["count", "axis", "grid"] kbG kbV) (kb_lane_count : KBn K d4 ["grid", "axis", "count"] 0 ["count", "axis", "grid"] kbG kbV) (kb_lane_sizes : KBn K d5 ["grid", "axis", "count", "first", "behind"] 0 ["behind", "first", "count", "axis", "grid"] kbG kbV) :
    FnOk P w K mg base CX0 10 f fd ["well", "world", "side", "template", "often"] (spRt K C) := by
  refine F.ok scRt (fun vs H Q E h => ?_) (fun cdv A outer s H vs Q E hr h => ?_)
  · obtain ⟨a, m, g, xs, G, col, v, ds, n, rfl, _⟩ := h
    rfl
  · obtain ⟨a, m, g, xs, G, col, v, ds, n, rfl, hw, hm, hg, hc, hs, hv, hn, hne, aw, ag, k⟩ := h
    refine ⟨_, PSs.nox (pss_cons (ps_par (i := 5) (j := 6) rfl scRt.nd rfl rfl (by decide) (by rfl) (by rfl) (pa_cons (pe_ix ix_tup (pe_call d__law_written.G (hr.mono (by decide)) (by rfl) d__law_written.g d__law_written.kp d__law_written.b .nil pass0 (pa_cons (pv 3) (pa_cons (pv 4) pa_nil))) pe_int (fun _ _ => rfl)) (pa_cons (pe_ifExp (pt_cmpR op_eq (pv 2) pe_str (nomark _)) (pe_fld (pv 1) rfl) (pe_fld (pv 1) rfl)) pa_nil)) (by rfl))
  (pss_cons (ps_set (i := 7) scRt.nd rfl (Or.inl rfl) (pe_fld (pv 1) rfl))
  (pss_cons (ps_set (i := 8) scRt.nd rfl (Or.inl rfl) (pe_ifExp (pt_cmpR (op_eqD hr.units) (pv 7) (pe_tup pa_nil) (nomark _)) pe_int (pe_ifExp (pt_cmpR op_eq (pv 2) pe_str (nomark _)) (pe_callB call_len_seq (by rfl) N.len PySem.boot_len (pa_cons (pe_ix ix_tup (pv 7) pe_int (fun _ _ => rfl)) pa_nil)) (pe_callB call_len_seq (by rfl) N.len PySem.boot_len (pa_cons (pv 7) pa_nil)))))
  (pss_cons (ps_set (i := 9) scRt.nd rfl (Or.inl rfl) (pe_callB (call_max2 rfl) (by rfl) hmax (by decide +kernel) (pa_cons (pe_callB call_len_seq (by rfl) N.len PySem.boot_len (pa_cons (pv 5) pa_nil)) (pa_cons (pv 8) pa_nil))))
  (pss_cons (ps_if (PW.pt (pw_or (pt_cmpR (op_neD hr.units) (pe_call d_template_sizes.G (hr.mono (by decide)) (by rfl) d_template_sizes.g d_template_sizes.kp d_template_sizes.b .nil pass0 (pa_cons (pv 1) (pa_cons (pv 2) (pa_cons (pv 4) pa_nil)))) (pv 5) (nomark _)) (pw_or1 (pt_cmpR op_ne (pe_call d_lane_count.G (hr.mono (by decide)) (by rfl) d_lane_count.g d_lane_count.kp d_lane_count.b .nil pass0 (pa_cons (pv 1) (pa_cons (pv 2) (pa_cons (pv 4) pa_nil)))) (pv 9) (nomark _)))))
    (pss_one (ps_ret pe_bl))
    pss_nil)
  (pss_cons (ps_expr (pe_bm0 PySem.F.plainAttrs_list PySem.F.slot_list_clear PySem.F.type_list_clear mt_clear (pe_call d_template_sizes.G (hr.mono (by decide)) (by rfl) d_template_sizes.g d_template_sizes.kp d_template_sizes.b .nil pass0 (pa_cons (pv 1) (pa_cons (pv 2) (pa_cons (pv 4) pa_nil))))))
  (pss_cons (ps_if (pt_cmpR (op_neD hr.units) (pe_callK0 d_template_sizes.G (hr.mono (by decide)) (by rfl) d_template_sizes.g d_template_sizes.kp kb_template_sizes pass0 (pk_cons (pv 4) (pk_cons (pv 2) (pk_cons (pv 1) pk_nil)))) (pv 5) (nomark _))
    (pss_one (ps_ret pe_bl))
    pss_nil)
  (pss_cons (ps_if (pt_cmpR op_ne (pe_callK0 d_lane_count.G (hr.mono (by decide)) (by rfl) d_lane_count.g d_lane_count.kp kb_lane_count pass0 (pk_cons (pv 4) (pk_cons (pv 2) (pk_cons (pv 1) pk_nil)))) (pv 9) (nomark _))
    (pss_one (ps_ret pe_bl))
    pss_nil)
  (pss_cons (ps_set (i := 10) scRt.nd rfl (Or.inl rfl) (pe_call d__law_draw.G (hr.mono (by decide)) (by rfl) d__law_draw.g d__law_draw.kp d__law_draw.b .nil pass0 (pa_cons (pv 0) (pa_cons pe_int pa_nil))))
  (pss_cons (ps_set (i := 11) scRt.nd rfl (Or.inl rfl) (pe_ifExp (pt_cmpR op_lt (pe_op op_add (pv 9) (pv 10)) pe_int (nomark _)) (pe_op op_add (pv 9) (pe_call d__law_draw.G (hr.mono (by decide)) (by rfl) d__law_draw.g d__law_draw.kp d__law_draw.b .nil pass0 (pa_cons (pv 0) (pa_cons (pe_op op_sub (pe_op op_sub pe_int (pv 9)) (pv 10)) pa_nil)))) (pv 9)))
  (pss_cons (ps_if (pt_cmpR op_gt (pe_op op_add (pv 11) (pv 10)) pe_int (nomark _))
    (pss_one (ps_ret pe_bl))
    pss_nil)
  (pss_cons (ps_set (i := 12) scRt.nd rfl (Or.inl rfl) (pe_lst pa_nil))
  (pss_cons (ps_for PassesOwn.never rfl (pi_range1 rfl N.rng (pa_cons (pv 10) pa_nil))
    (pg_name (i := 13) scRt.nd rfl (Or.inl rfl))
    (pss_one (ps_set (i := 12) scRt.nd rfl (Or.inl rfl) (pe_op op_catS (pe_lst (pa_cons (pe_ix ix_tup (pv 6) (pe_op op_sub (pe_op op_sub (pe_callB call_len_seq (by rfl) N.len PySem.boot_len (pa_cons (pv 6) pa_nil)) pe_int) (pe_op op_modN (pe_callTy call_int1 (by rfl) N.tint (by decide +kernel) (pa_cons (pv 13) pa_nil)) (pe_callB call_len_seq (by rfl) N.len PySem.boot_len (pa_cons (pv 6) pa_nil)))) (fun _ _ => rfl)) pa_nil)) (pv 12)))))
  (pss_cons (ps_set (i := 12) scRt.nd rfl (Or.inl rfl) (pe_op op_catS (pv 12) (pv 5)))
  (pss_cons (ps_for PassesOwn.never rfl (pi_range1 rfl N.rng (pa_cons (pe_op op_sub (pv 11) (pe_callB call_len_seq (by rfl) N.len PySem.boot_len (pa_cons (pv 5) pa_nil))) pa_nil))
    (pg_name (i := 13) scRt.nd rfl (Or.inl rfl))
    (pss_one (ps_expr (pe_bm PySem.F.plainAttrs_list PySem.F.slot_list_append PySem.F.type_list_append mt_append (pv 12) (pa_cons (pe_ix ix_tup (pv 6) (pe_op op_modN (pe_callTy call_int1 (by rfl) N.tint (by decide +kernel) (pa_cons (pv 13) pa_nil)) (pe_callB call_len_seq (by rfl) N.len PySem.boot_len (pa_cons (pv 6) pa_nil))) (fun _ _ => rfl)) pa_nil)))))
  (pss_cons (ps_set (i := 14) scRt.nd rfl (Or.inl rfl) (pe_call d_lane_sizes.G (hr.mono (by decide)) (by rfl) d_lane_sizes.g d_lane_sizes.kp d_lane_sizes.b .nil pass0 (pa_cons (pv 1) (pa_cons (pv 2) (pa_cons (pv 4) (pa_cons (pe_op op_sub pe_int (pv 10)) (pa_cons (pv 11) pa_nil)))))))
  (pss_cons (ps_if (pt_cmpR (op_neD hr.units) (pv 14) (pv 12) (nomark _))
    (pss_one (ps_ret pe_bl))
    pss_nil)
  (pss_cons (ps_expr (pe_bm0 PySem.F.plainAttrs_list PySem.F.slot_list_clear PySem.F.type_list_clear mt_clear (pv 14)))
  (pss_cons (ps_expr (pe_bm0 PySem.F.plainAttrs_list PySem.F.slot_list_clear PySem.F.type_list_clear mt_clear (pe_call d_template_sizes.G (hr.mono (by decide)) (by rfl) d_template_sizes.g d_template_sizes.kp d_template_sizes.b .nil pass0 (pa_cons (pv 1) (pa_cons (pv 2) (pa_cons (pv 4) pa_nil))))))
  (pss_one (ps_ret (pe_cmpR (op_eqD hr.units) (pe_callK0 d_lane_sizes.G (hr.mono (by decide)) (by rfl) d_lane_sizes.g d_lane_sizes.kp kb_lane_sizes pass0 (pk_cons (pv 11) (pk_cons (pe_op op_sub pe_int (pv 10)) (pk_cons (pv 4) (pk_cons (pv 2) (pk_cons (pv 1) pk_nil)))))) (pv 12) (nomark _))))))))))))))))))))))), ?_⟩
    have hlw := szW_small hn hs.2
    have h7 := hs.1
    have hd0 : filledN ds n = (szW ds n).length := (szW_len hc.o n).symm
    have hT : toldN G col n = max (szW ds n).length (wideOf G.rows col) := by
      unfold toldN
      rw [hc.t, ← hd0]
      rfl
    have hl60 := hc.l
    have am : AllSm (moreT G col) := (sm_tup (more_sm' ag col)).2
    have lm := (sm_tup (more_sm' ag col)).1
    have hsh : SeqAt.shaped (fldD G.z G.rows) = true := hg.2.2.2 _ (by simp [Gr.ds])
    refine ⟨_, rfl, _, rfl, v, ds, n, rfl, hv, hs, hn, fun H1 t D L us ls s1 ht nD hD hus hL => ⟨t, _, 0, .ref D, rfl, rfl, SqT.of ht, atI_nat (j := 0) rfl, ?_⟩⟩
    have hg1 := hg.same s1
    have hw1 := hw.same s1
    have nDa := hw.new nD
    refine ⟨_, rfl, rfl, _, rfl, more_val T hg1 rfl fun vm hvm => ?_⟩
    refine ⟨_, _, rfl, ?_⟩
    obtain ⟨dx, hgd⟩ := id hg1.1
    obtain ⟨vf, lk, hvf⟩ := gridF hg1 2 (y := "fields") rfl (d := fldD G.z G.rows) rfl
    refine ⟨_, rfl, g, C, dx, _, vf, rfl, hgd, T.cl, T.na "fields" (by decide), lk, ?_⟩
    refine wide_val rfl rfl hvf hsh fun H2 s2 => ?_
    have lus := dpLen hus
    refine ⟨_, rfl, D, us, rfl, .inl (SqL.of (s2 _ _ hD)), _, rfl, _, _, rfl, ?_⟩
    have ed : (if ((wideOf G.rows col : Nat) : Int) > ((us.length : Nat) : Int) then ((wideOf G.rows col : Nat) : Int) else ((us.length : Nat) : Int)) = ((toldN G col n : Nat) : Int) := by
      rw [hT, lus]
      split <;> omega
    rw [ed]
    have s02 := s1.trans s2
    have lsh := list_sh aw (by decide : 20 ≤ 40)
    have lre := list_refl aw
    -- the template's sizes, the number of lanes
    refine ⟨_, rfl, _, rfl, _, rfl, g, xs, G, col, n, ds, rfl, hg.same s02, hc, fun H3 q3 us3 s3 nq3 hq3 hu3 => ?_⟩
    have s03 := s02.trans s3
    refine ⟨_, rfl, .list (szW ds n), .list (szW ds n), .lst (SqL.of hq3) hu3, .lst (SqL.of (s3 _ _ (s2 _ _ hD))) (dpSA (s2.trans s3) hus), lsh, lsh, _, rfl, ite2 (fun c => absurd c (by rw [lre]; decide)) (fun _ => ?_)⟩
    refine ⟨_, rfl, _, rfl, _, rfl, g, xs, G, col, n, ds, rfl, hg.same s03, hc, fun H4 s4 => ?_⟩
    have s04 := s03.trans s4
    refine ⟨_, rfl, rfl, _, rfl, ite2 (fun c => absurd c (by rw [decide_eq_true rfl]; decide)) (fun _ => ?_)⟩
    refine ⟨_, rfl, _, rfl, _, rfl, g, xs, G, col, n, ds, rfl, hg.same s04, hc, fun H5 q5 us5 s5 nq5 hq5 hu5 => ⟨.inl ⟨rfl, _, SqL.of hq5⟩, q5, us5, rfl, rfl, hq5, ?_⟩⟩
    have s45 := same_upd' (o := .lst []) nq5 s5
    have s05 := s04.trans s45
    have s15 := ((s2.trans s3).trans s4).trans s45
    generalize upd H5 q5 (.lst []) = G5 at s45 s05 s15 ⊢
    refine ⟨_, rfl, _, rfl, _, rfl, rfl, g, xs, G, col, n, ds, rfl, hg.same s05, hc, fun H6 q6 us6 s6 nq6 hq6 hu6 => ?_⟩
    have s06 := s05.trans s6
    have s16 := s15.trans s6
    refine ⟨_, rfl, .list (szW ds n), .list (szW ds n), .lst (SqL.of hq6) hu6, .lst (SqL.of (s16 _ _ hD)) (dpSA s16 hus), lsh, lsh, _, rfl, ite2 (fun c => absurd c (by rw [lre]; decide)) (fun _ => ?_)⟩
    refine ⟨_, rfl, _, rfl, _, rfl, rfl, g, xs, G, col, n, ds, rfl, hg.same s06, hc, fun H7 s7 => ?_⟩
    have s07 := s06.trans s7
    have s17 := s16.trans s7
    refine ⟨_, rfl, rfl, _, rfl, ite2 (fun c => absurd c (by rw [decide_eq_true rfl]; decide)) (fun _ => ?_)⟩
    -- ahead, the end
    have w7 := hw.same s07
    refine ⟨_, rfl, a, 14, m, rfl, w7, by omega, by decide, by decide, fun r8 H8 r80 r81 b8 w8 => ?_⟩
    obtain ⟨FF, rfl⟩ := Int.eq_ofNat_of_zero_le r80
    refine ⟨_, rfl, _, rfl, _, _, rfl, rfl, _, _, rfl, rfl, _, rfl, ite2 (fun c => ?_) (fun c => ?_)⟩
    rotate_left
    · have c : ¬ ((toldN G col n : Nat) : Int) + (FF : Int) < 61 := fun h => c (decide_eq_true h)
      refine ⟨_, rfl, _, rfl, _, rfl, _, _, rfl, rfl, _, _, rfl, rfl, _, rfl, ite2 (fun _ => ?_) (fun c2 => absurd (decide_eq_true (by omega)) c2)⟩
      exact k H8 ((Keep.of s07).trans b8.keep) (w8.mono (by omega))
    have c : ((toldN G col n : Nat) : Int) + (FF : Int) < 61 := of_decide_eq_true c
    refine ⟨_, rfl, _, rfl, _, rfl, _, _, rfl, rfl, _, rfl, _, _, rfl, rfl, a, _, _, rfl, w8, by omega, by omega, by omega, fun r9 H9 r90 r91 b9 w9 => ⟨_, _, rfl, rfl, ?_⟩⟩
    obtain ⟨r, rfl⟩ := Int.eq_ofNat_of_zero_le r90
    have r91 : (r : Int) < 61 - ((toldN G col n : Nat) : Int) - (FF : Int) := r91
    obtain ⟨B, hB⟩ : ∃ B : Nat, B = toldN G col n + r := ⟨_, rfl⟩
    have eB : ((toldN G col n : Nat) : Int) + (r : Int) = (B : Int) := by omega
    refine gn_eq (y := V.int (B : Int)) (congrArg V.int eB) ?_
    refine ⟨_, rfl, _, rfl, _, _, rfl, rfl, _, _, rfl, rfl, _, rfl, ite2 (fun c => absurd (of_decide_eq_true c) (by omega)) (fun _ => ?_)⟩
    have kk := ((Keep.of s07).trans b8.keep).trans b9.keep
    have hg9 := ((hg.same s07).keep b8.keep w7.lst.choose_spec ag).keep b9.keep w8.lst.choose_spec ag
    have hD9 := b9.keep _ _ nDa (b8.keep _ _ nDa (s17 _ _ hD))
    have hu9 := dpKall (fun d v => dpK (K := K) b9.keep w8.lst.choose_spec 20 d v) _ _ aw (dpKall (fun d v => dpK (K := K) b8.keep w7.lst.choose_spec 20 d v) _ _ aw (dpSA s17 hus))
    have hm9 := dpK (K := K) b9.keep w8.lst.choose_spec 20 _ _ (more_sm' ag col) (dpK (K := K) b8.keep w7.lst.choose_spec 20 _ _ (more_sm' ag col) (dpS s17 hvm))
    clear hq3 hu3 hq5 hu5 hq6 hu6 hvm hus hD
    cases hm9 with
    | @tup pm ym _ hpm hym =>
      have lym := dpLen hym
      have hL0 : 0 < (moreT G col).length := List.length_pos_iff.mpr hne
      refine ⟨(by show 0 ≤ sizeLine; decide), fun F0 nF => ?_⟩
      have sF := same_upd (o := .lst []) nF
      refine ⟨_, rfl, (FF : Int), rfl, by omega, by omega, for_range (n := (FF : Int).toNat) (fun i σ H' => Same H9 H' ∧ (∃ fa fs, H' fa = some (.lst fs) ∧ DpAll K H' fs (preL (moreT G col) i) ∧ ∃ v13 v14, σ = [some (.ref a), some (.ref g), some (.str (axS col)), some v, some (.int (n : Int)), some (.ref D), some (.ref pm), some vf, some (.int (wideOf G.rows col : Nat)), some (.int (toldN G col n : Nat)), some (.int (FF : Int)), some (.int (B : Int)), some (.ref fa), v13, v14]))
        ⟨sF, F0, [], upd_same, .nil, _, _, rfl⟩ ?_ ?_⟩
      · rintro i σ H10 hi ⟨s10, fa, fs, hfa, hfs, v13, v14, rfl⟩
        have hi : i < FF := hi
        have lfs : fs.length ≤ 60 := by
          rw [dpLen hfs]
          unfold preL
          rw [List.length_map, List.length_range]
          omega
        obtain ⟨y, ey, hy⟩ := dpAt _ hym (more_pre hne i)
        have i0 : (0 : Int) + (i : Int) = (i : Int) := Int.zero_add _
        have ex : ((ym.length : Nat) : Int) - 1 - ((0 : Int) + (i : Int)).fmod ((ym.length : Nat) : Int) = (((moreT G col).length - 1 - i % (moreT G col).length : Nat) : Int) := by
          rw [i0, fmod_nat, lym]
          have := Nat.mod_lt i hL0
          omega
        refine ⟨_, rfl, _, rfl, pm, ym, rfl, .inr (Same.seqT s10 hpm), _, _, rfl, rfl, _, rfl, .inl ⟨_, rfl, _, rfl, pm, ym, rfl, .inr (Same.seqT s10 hpm), _, _, rfl, rfl, (by omega), _, _, rfl, rfl, ?_⟩⟩
        refine ⟨pm, ym, _, y, rfl, rfl, Same.seqT s10 hpm, by rw [ex]; exact atI_nat ey, (by show 1 ≤ sizeLine; decide), fun l nl => ?_⟩
        have sl := same_upd (o := .lst [y]) nl
        refine ⟨_, rfl, l, fa, [y], fs, rfl, rfl, SqL.of upd_same, SqL.of (sl _ _ hfa), Nat.le_trans (Nat.add_le_add (Nat.le_refl 1) lfs) (by decide), fun q nq => ?_⟩
        have sq := same_upd (o := .lst ([y] ++ fs)) nq
        refine ⟨(s10.trans sl).trans sq, q, _, upd_same, ?_, _, _, rfl⟩
        rw [preL_succ]
        exact .cons (dpS ((s10.trans sl).trans sq) hy) (dpSA (sl.trans sq) hfs)
      · rintro σ H10 ⟨s10, fa, fs, hfa, hfs, v13, v14, rfl⟩
        have hfs : DpAll K H10 fs (preL (moreT G col) FF) := hfs
        have lfs : fs.length ≤ 60 := by
          rw [dpLen hfs]
          unfold preL
          rw [List.length_map, List.length_range]
          omega
        have lus9 : us.length ≤ 700 := by omega
        refine ⟨_, rfl, _, rfl, fa, D, fs, us, rfl, rfl, SqL.of hfa, SqL.of (s10 _ _ hD9), Nat.le_trans (Nat.add_le_add lfs lus9) (by decide), fun f2 nf2 => ?_⟩
        have s2 := same_upd (o := .lst (fs ++ us)) nf2
        have n92 := none_of s10 nf2
        have hb0 : DpAll K (upd H10 f2 (.lst (fs ++ us))) (fs ++ us) (preL (moreT G col) FF ++ szW ds n) := dpSnoc (dpSA s2 hfs) (dpSA (s10.trans s2) hu9)
        refine ⟨_, rfl, _, rfl, D, us, rfl, .inl (SqL.of (s2 _ _ (s10 _ _ hD9))), _, _, rfl, rfl, _, rfl, by omega, by omega, ?_⟩
        have aA : AllSm (preL (moreT G col) FF) := preL_sm hne am FF
        have aB := fun j => sufL_sm hne am j
        have aC : ∀ j, AllSm (preL (moreT G col) FF ++ szW ds n ++ sufL (moreT G col) j) := fun j d hd => by
          rcases List.mem_append.mp hd with q | q
          · rcases List.mem_append.mp q with q | q
            · exact aA d q
            · exact aw d q
          · exact aB j d q
        have lC : ∀ j, (preL (moreT G col) FF ++ szW ds n ++ sufL (moreT G col) j).length = FF + (szW ds n).length + j := fun j => by
          rw [List.length_append, List.length_append]
          unfold preL sufL
          rw [List.length_map, List.length_map, List.length_range, List.length_range]
        have eN : ((B : Int) - ((us.length : Nat) : Int)).toNat = B - (szW ds n).length := by
          rw [lus]
          omega
        have hwB := hc.w
        refine for_range (n := ((B : Int) - ((us.length : Nat) : Int)).toNat) (fun i σ H' => Same H9 H' ∧ Bag K H' f2 (preL (moreT G col) FF ++ szW ds n ++ sufL (moreT G col) i) ∧ ∃ v13 v14, σ = [some (.ref a), some (.ref g), some (.str (axS col)), some v, some (.int (n : Int)), some (.ref D), some (.ref pm), some vf, some (.int (wideOf G.rows col : Nat)), some (.int (toldN G col n : Nat)), some (.int (FF : Int)), some (.int (B : Int)), some (.ref f2), v13, v14])
          ⟨s10.trans s2, ⟨_, upd_same, by rw [show sufL (moreT G col) 0 = [] from rfl, List.append_nil]; exact hb0⟩, _, _, rfl⟩ ?_ ?_
        · rintro i σ H11 hi ⟨s11, hb, v13, v14, rfl⟩
          rw [eN] at hi
          obtain ⟨zs, hz, hzs⟩ := id hb
          have lz : zs.length ≤ 1000 := by
            rw [dpLen hzs, lC]
            omega
          obtain ⟨y, ey, hy⟩ := dpAt _ hym (more_suf hne i)
          have ex : ((0 : Int) + (i : Int)).fmod ((ym.length : Nat) : Int) = ((i % (moreT G col).length : Nat) : Int) := by
            rw [Int.zero_add, fmod_nat, lym]
          refine ⟨_, rfl, .inl ⟨rfl, _, SqL.of hz⟩, _, rfl, _, rfl, .inl ⟨_, rfl, _, rfl, pm, ym, rfl, .inr (Same.seqT s11 hpm), _, _, rfl, rfl, (by omega), ?_⟩⟩
          refine ⟨pm, ym, _, y, rfl, rfl, Same.seqT s11 hpm, by rw [ex]; exact atI_nat ey, f2, zs, _, rfl, rfl, hz, Nat.lt_of_le_of_lt lz (by decide), ?_⟩
          refine ⟨same_upd' n92 s11, ?_, _, _, rfl⟩
          rw [sufL_succ, ← List.append_assoc]
          exact Bag.push hz hzs (aC i) (dpS s11 hy) (more_sm hne am _)
        · rintro σ H11 ⟨s11, hb, v13, v14, rfl⟩
          rw [eN] at hb
          have hb : Bag K H11 f2 (betw (moreT G col) (szW ds n) FF B) := hb
          have aZ : AllSm (betw (moreT G col) (szW ds n) FF B) := aC _
          have zsh := list_sh aZ (by decide : 20 ≤ 40)
          have zre := list_refl aZ
          have hF9 : toldN G col n ≤ B := by omega
          have hBF : B + FF ≤ 60 := by omega
          refine ⟨_, rfl, _, rfl, _, rfl, _, rfl, _, _, rfl, rfl, _, rfl, g, xs, G, col, n, FF, B, ds, (by show [V.ref g, V.str (axS col), V.int (n : Int), V.int ((0 : Int) - (FF : Int)), V.int (B : Int)] = _; rw [Int.zero_sub]), hg9.same s11, hc, hne, am, aw, hBF, hF9, fun H12 q us12 s12 nq hq hu12 => ?_⟩
          obtain ⟨zs, hz, hzs⟩ := hb.same s12
          refine ⟨_, rfl, _, rfl, .list (betw (moreT G col) (szW ds n) FF B), .list (betw (moreT G col) (szW ds n) FF B), .lst (SqL.of hq) hu12, .lst (SqL.of hz) hzs, zsh, zsh, _, rfl, ite2 (fun c => absurd c (by rw [zre]; decide)) (fun _ => ?_)⟩
          refine ⟨_, rfl, .inl ⟨rfl, _, SqL.of hq⟩, q, us12, rfl, rfl, hq, ?_⟩
          have s13 := same_upd' (o := .lst []) nq s12
          have s93 := s11.trans s13
          have hb3 := hb.same s13
          generalize upd H12 q (.lst []) = G3 at s93 hb3 ⊢
          refine ⟨_, rfl, _, rfl, _, rfl, g, xs, G, col, n, ds, rfl, hg9.same s93, hc, fun H14 q4 us4 s4 nq4 hq4 hu4 => ⟨.inl ⟨rfl, _, SqL.of hq4⟩, q4, us4, rfl, rfl, hq4, ?_⟩⟩
          have s14 := same_upd' (o := .lst []) nq4 s4
          have s94 := s93.trans s14
          have hb4 := hb3.same s14
          generalize upd H14 q4 (.lst []) = G4 at s94 hb4 ⊢
          refine ⟨_, rfl, _, rfl, _, _, rfl, rfl, _, rfl, _, rfl, _, rfl, rfl, g, xs, G, col, n, FF, B, ds, (by show [V.ref g, V.str (axS col), V.int (n : Int), V.int ((0 : Int) - (FF : Int)), V.int (B : Int)] = _; rw [Int.zero_sub]), hg9.same s94, hc, hne, am, aw, hBF, hF9, fun H15 q5 us5 s5 nq5 hq5 hu5 => ?_⟩
          obtain ⟨zs5, hz5, hzs5⟩ := hb4.same s5
          refine ⟨_, rfl, .list (betw (moreT G col) (szW ds n) FF B), .list (betw (moreT G col) (szW ds n) FF B), .lst (SqL.of hq5) hu5, .lst (SqL.of hz5) hzs5, zsh, zsh, ?_⟩
          have z := k H15 (kk.trans (Keep.of (s94.trans s5))) ((w9.same (s94.trans s5)).mono (by omega))
          rw [zre]
          exact z
end
end K5

set_option Elab.async false
set_option linter.all false
set_option maxRecDepth 100000
set_option maxHeartbeats 4000000
namespace K5
open PySem PySem.Spec PyProof.Rows L2
open K1 (FnP top Nm wm)
/-! ### fields drawn, one name from the left -/
def rowH (w f : Nat) : List Bool := List.replicate f true ++ List.replicate (w - f) false
def rowsH (w f n : Nat) : List (List Bool) := List.replicate n (rowH w f)
def flH (n : Nat) (rows : List (List Bool)) : Bool := nameB "head" && (decide (rows.length ≤ 20) && (rows.all (fun bs => decide (bs.length = n)) && ((decide (allCs rows rows.length = []) || rectB (allCs rows rows.length)) && smN 3 (fldD "head" rows))))
theorem flH_ok {n : Nat} {rows : List (List Bool)} (n1 : 1 ≤ n) (n20 : n ≤ 20) (h : flH n rows = true) : okFld "head" rows ∧ smN 3 (fldD "head" rows) = true ∧ rows.length ≤ 20 ∧ ∀ bs ∈ rows, bs.length ≤ 20 := by
  obtain ⟨h1, h⟩ := ba h
  obtain ⟨h2, h⟩ := ba h
  obtain ⟨h3, h⟩ := ba h
  obtain ⟨h4, h5⟩ := ba h
  have h3 : ∀ bs ∈ rows, bs.length = n := fun bs hb => of_decide_eq_true (List.all_eq_true.mp h3 bs hb)
  have h6 : ∀ bs ∈ rows, bs.length ≤ 20 := fun bs hb => by rw [h3 bs hb]; exact n20
  refine ⟨⟨h1, ⟨by decide, of_decide_eq_true h2, h6⟩, ⟨n, n1, h3⟩, ?_⟩, h5, of_decide_eq_true h2, h6⟩
  rcases Bool.or_eq_true_iff.mp h4 with q | q
  · exact .inl (of_decide_eq_true q)
  · exact .inr q
theorem rowsH_all {w f n : Nat} (h1 : w < 20) (h2 : f ≤ w) (h3 : n < 6) : flH (w + 1) (rowsH (w + 1) (f + 1) (n + 1)) = true := by
  have all : ∀ (w f : Fin 20) (n : Fin 6), f.val ≤ w.val → flH (w.val + 1) (rowsH (w.val + 1) (f.val + 1) (n.val + 1)) = true := by decide +kernel
  exact all ⟨w, h1⟩ ⟨f, by omega⟩ ⟨n, h3⟩ h2
theorem catT_any {K : PySem.W.Frag} {a b : Addr} {xs ys : List V} {H : Hp} {Q : VK} (ha : SqT K H a xs) (hb : SqT K H b ys) (hx : xs ≠ []) (hz : xs.length + ys.length ≤ sizeLine) (q : ∀ p H', Same H H' → SqT K H' p (xs ++ ys) → Q (.ref p) H') : rCatT K (.ref a) (.ref b) H Q :=
  ⟨a, b, xs, ys, rfl, rfl, ha, hb, hx, hz, fun e => q a H (Same.refl H) (by rw [e, List.append_nil]; exact ha), fun _ p np => q p _ (same_upd np) (SqT.of upd_same)⟩
theorem rep_cells (b : Bool) (n : Nat) : (List.replicate n [PyData.str (cellZ "head" b)]).flatten = (List.replicate n b).map fun b => PyData.str (cellZ "head" b) := by
  rw [List.flatten_replicate_singleton, List.map_replicate]
section
variable {P : Program} {w : World} {K : PySem.W.Frag} {mg : Str → Option Value} {base : Heap} {C fI fE : Addr}
def spFd (K : PySem.W.Frag) : Sp := fun vs H Q _ => ∃ (a : Addr) (n : Int), vs = [.ref a] ∧ Wl H a n ∧ n + 4 ≤ 1000000 ∧ ∀ x rows H', Keep a H H' → Wl H' a (n + 4) → Dp K H' x (fldD "head" rows) → (okFld "head" rows ∧ smN 3 (fldD "head" rows) = true ∧ rows.length ≤ 20 ∧ ∀ bs ∈ rows, bs.length ≤ 20) → Q x H'
theorem scFdl : FnScope ["well", "wide", "row"] ["well"] (defScope (top 114)) := ⟨rfl, rfl, rfl, by decide +kernel, rfl, by decide +kernel, by decide +kernel⟩
theorem ok_fd {f f1 : Addr} {fd d1 : FuncData} (F : FnP K "_law_fields" (top 114) f fd) (N : Nm mg) (d__law_draw : D2 P w K mg base "_law_draw" "well" "limit" 2 spDr f1 d1) : FnOk P w K mg base CX0 3 f fd ["well"] (spFd K) := by
  refine F.ok scFdl (fun vs H Q E h => ?_) (fun cdv A outer s H vs Q E hr h => ?_)
  · obtain ⟨a, n, rfl, _⟩ := h
    rfl
  · obtain ⟨a, n, rfl, hw, hn, k⟩ := h
    refine ⟨_, PSs.nox (pss_cons (ps_if (pt_cmpR op_gt (pe_call d__law_draw.G (hr.mono (by decide)) (by rfl) d__law_draw.g d__law_draw.kp d__law_draw.b .nil pass0 (pa_cons (pv 0) (pa_cons pe_int pa_nil))) pe_int (nomark _))
    (pss_one (ps_ret (pe_tup pa_nil)))
    pss_nil)
  (pss_cons (ps_set (i := 1) scFdl.nd rfl (Or.inl rfl) (pe_op op_add pe_int (pe_call d__law_draw.G (hr.mono (by decide)) (by rfl) d__law_draw.g d__law_draw.kp d__law_draw.b .nil pass0 (pa_cons (pv 0) (pa_cons pe_int pa_nil)))))
  (pss_cons (ps_set (i := 2) scFdl.nd rfl (Or.inl rfl) (pe_op op_repTA (pe_tup (pa_cons pe_str pa_nil)) (pe_op op_add pe_int (pe_call d__law_draw.G (hr.mono (by decide)) (by rfl) d__law_draw.g d__law_draw.kp d__law_draw.b .nil pass0 (pa_cons (pv 0) (pa_cons (pv 1) pa_nil))))))
  (pss_one (ps_ret (pe_op op_repTA (pe_tup (pa_cons (pe_op op_catT (pv 2) (pe_op op_repTA (pe_tup (pa_cons pe_str pa_nil)) (pe_op op_sub (pv 1) (pe_callB call_len_seq (by rfl) N.len PySem.boot_len (pa_cons (pv 2) pa_nil))))) pa_nil)) (pe_op op_add pe_int (pe_call d__law_draw.G (hr.mono (by decide)) (by rfl) d__law_draw.g d__law_draw.kp d__law_draw.b .nil pass0 (pa_cons (pv 0) (pa_cons pe_int pa_nil)))))))))), ?_⟩
    refine ⟨_, rfl, a, 3, n, rfl, hw, by omega, by decide, by decide, fun r H1 r0 r1 b1 w1 => ⟨_, _, rfl, rfl, _, rfl, ite2 (fun c => ?_) (fun c => ?_)⟩⟩
    · refine ⟨(by show 0 ≤ sizeLine; decide), fun t nt => ?_⟩
      have st := same_upd (o := .tup []) nt
      exact k (.ref t) [] _ (b1.keep.trans (Keep.of st)) ((w1.same st).mono (by omega)) (.tup (SqT.of upd_same) .nil) (flH_ok (n := 1) (by decide) (by decide) (by decide +kernel))
    refine ⟨_, rfl, a, 20, _, rfl, w1, by omega, by decide, by decide, fun r2 H2 r20 r21 b2 w2 => ⟨_, _, rfl, rfl, ?_⟩⟩
    obtain ⟨W, rfl⟩ := Int.eq_ofNat_of_zero_le r20
    refine ⟨(by show 1 ≤ sizeLine; decide), fun t1 n1 => ?_⟩
    have s1 := same_upd (o := .tup [.str "head"]) n1
    have t1a := w2.new n1
    have w2 := w2.same s1
    refine ⟨_, rfl, _, rfl, a, 1 + (W : Int), _, rfl, w2, by omega, by omega, by omega, fun r3 H3 r30 r31 b3 w3 => ⟨_, _, rfl, rfl, ?_⟩⟩
    obtain ⟨FF, rfl⟩ := Int.eq_ofNat_of_zero_le r30
    refine ⟨t1, 1 + (FF : Int), [.str "head"], rfl, rfl, SqT.of (b3.keep _ _ t1a upd_same), by omega, by omega, by decide, fun p1 H4 s4 hp1 => ?_⟩
    have eF : (1 + (FF : Int)).toNat = FF + 1 := by omega
    rw [eF] at hp1
    refine ⟨_, rfl, (by show 1 ≤ sizeLine; decide), fun t2 n2 => ?_⟩
    have s2 := same_upd (o := .tup [.str "."]) n2
    have lr : (List.replicate (FF + 1) [V.str "head"]).flatten.length = FF + 1 := by
      rw [flat_len]
      exact Nat.mul_one _
    refine ⟨_, rfl, _, rfl, p1, _, rfl, .inr (Same.seqT s2 hp1), _, _, rfl, rfl, ?_⟩
    have eG : (1 + (W : Int) - (((List.replicate (FF + 1) [V.str "head"]).flatten.length : Nat) : Int)) = ((W - FF : Nat) : Int) := by
      rw [lr]
      omega
    refine ⟨t2, ((W - FF : Nat) : Int), [.str "."], rfl, congrArg V.int eG, SqT.of upd_same, by omega, by omega, by decide, fun p2 H5 s5 hp2 => ?_⟩
    rw [Int.toNat_natCast] at hp2
    refine catT_any (Same.seqT (s2.trans s5) hp1) hp2 (fun e => by rw [e] at lr; exact absurd lr (by show ¬ 0 = FF + 1; omega)) ?_ fun p3 H6 s6 hp3 => ⟨(by show 1 ≤ sizeLine; decide), fun t4 n4 => ?_⟩
    · rw [lr, flat_len]
      exact Nat.le_trans (m := 100) (by show FF + 1 + (W - FF) * 1 ≤ 100; omega) (by decide)
    have st := same_upd (o := .tup [.ref p3]) n4
    have s46 := (((s4.trans s2).trans s5).trans s6).trans st
    have w6 := w3.same s46
    have t4a := (w3.same (((s4.trans s2).trans s5).trans s6)).new n4
    refine ⟨_, rfl, a, 6, _, rfl, w6, by omega, by decide, by decide, fun r7 H7 r70 r71 b7 w7 => ⟨_, _, rfl, rfl, ?_⟩⟩
    obtain ⟨M, rfl⟩ := Int.eq_ofNat_of_zero_le r70
    refine ⟨t4, 1 + (M : Int), [.ref p3], rfl, rfl, SqT.of (b7.keep _ _ t4a upd_same), by omega, by omega, (by show 1 ≤ 1000; decide), fun p8 H8 s8 hp8 => ?_⟩
    rw [show (1 + (M : Int)).toNat = M + 1 by omega] at hp8
    have hp3 := Same.seqT s8 (seqT_keep b7.keep w6.lst.choose_spec (Same.seqT st hp3))
    have hrow : Dp K H8 (.ref p3) (rowD "head" (rowH (W + 1) (FF + 1))) := by
      refine .tup hp3 ?_
      unfold rowH
      rw [List.map_append, ← rep_cells, ← rep_cells, show W + 1 - (FF + 1) = W - FF by omega]
      exact dpSnoc (dpRep (.cons (.str _) .nil) _) (dpRep (.cons (.str _) .nil) _)
    have kk := ((((b1.keep.trans b2.keep).trans (Keep.of s1)).trans b3.keep).trans (Keep.of s46)).trans (b7.keep.trans (Keep.of s8))
    refine k (.ref p8) (rowsH (W + 1) (FF + 1) (M + 1)) H8 kk ((w7.same s8).mono (by omega)) ?_ (flH_ok (n := W + 1) (by omega) (by omega) (rowsH_all (by omega) (by omega) (by omega)))
    refine .tup hp8 ?_
    unfold rowsH
    rw [List.map_replicate, show List.replicate (M + 1) (rowD "head" (rowH (W + 1) (FF + 1))) = (List.replicate (M + 1) [rowD "head" (rowH (W + 1) (FF + 1))]).flatten by rw [List.flatten_replicate_singleton]]
    exact dpRep (.cons hrow .nil) _
end
end K5

set_option Elab.async false
set_option linter.all false
set_option maxRecDepth 100000
set_option maxHeartbeats 8000000
namespace K5
open PySem PySem.Spec PyProof.Rows L2
open K1 (FnP top Nm wm)
/-! ### how Grid binds -/
def dvG (e0 e1 : Addr) : List V := [.ref e0, .ref e1]
def kwG (e2 t3 t4 : Addr) : List (Str × V) := [("fields", .ref e2), ("more_columns", .ref t3), ("more_rows", .ref t4), ("flow", .str "row"), ("dense", .bl false), ("column_gap", .int 0), ("row_gap", .int 0), ("justify", .str "stretch"), ("align", .str "stretch"), ("items_justify", .str "stretch"), ("items_align", .str "stretch")]
def dflG (e0 e1 e2 t3 t4 : Addr) : List V := [.ref e0, .ref e1, .ref e2, .ref t3, .ref t4, .str "row", .bl false, .int 0, .int 0, .str "stretch", .str "stretch", .str "stretch", .str "stretch"]
def psG : List Str := "self" :: fnames
abbrev FG (K : PySem.W.Frag) (e0 e1 e2 t3 t4 f : Addr) (fd : FuncData) : Prop := FnM K "__init__" "Grid.__init__" (inClass (top 68) 0) (dvG e0 e1) (kwG e2 t3 t4) f fd
abbrev fnG (T D : Addr) (doc pm : Value) (an : Option Addr) (cdv ct : Value) : FuncData := PySem.W.fnOf "__init__" "Grid.__init__" (defArgs (inClass (top 68) 0)) (defBody (inClass (top 68) 0)) (defScope (inClass (top 68) 0)) (.ref T) (.ref D) doc pm an cdv ct
theorem len1 {ks : List Value} (h : ks.length = 1) : ∃ k0, ks = [k0] := by
  cases ks with
  | nil => exact absurd h (by simp)
  | cons k0 ks =>
    cases ks with
    | cons _ _ => exact absurd h (by simp only [List.length_cons]; omega)
    | nil => exact ⟨_, rfl⟩
theorem len2 {ks : List Value} (h : ks.length = 2) : ∃ k0 k1, ks = [k0, k1] := by
  cases ks with
  | nil => exact absurd h (by simp)
  | cons k0 ks =>
    cases ks with
    | nil => exact absurd h (by simp)
    | cons k1 ks =>
      cases ks with
      | cons _ _ => exact absurd h (by simp only [List.length_cons]; omega)
      | nil => exact ⟨_, _, rfl⟩
theorem len3 {ks : List Value} (h : ks.length = 3) : ∃ k0 k1 k2, ks = [k0, k1, k2] := by
  cases ks with
  | nil => exact absurd h (by simp)
  | cons k0 ks =>
    cases ks with
    | nil => exact absurd h (by simp)
    | cons k1 ks =>
      cases ks with
      | nil => exact absurd h (by simp)
      | cons k2 ks =>
        cases ks with
        | cons _ _ => exact absurd h (by simp only [List.length_cons]; omega)
        | nil => exact ⟨_, _, _, rfl⟩
theorem len8 {ks : List Value} (h : ks.length = 8) : ∃ k0 k1 k2 k3 k4 k5 k6 k7, ks = [k0, k1, k2, k3, k4, k5, k6, k7] := by
  cases ks with
  | nil => exact absurd h (by simp)
  | cons k0 ks =>
    cases ks with
    | nil => exact absurd h (by simp)
    | cons k1 ks =>
      cases ks with
      | nil => exact absurd h (by simp)
      | cons k2 ks =>
        cases ks with
        | nil => exact absurd h (by simp)
        | cons k3 ks =>
          cases ks with
          | nil => exact absurd h (by simp)
          | cons k4 ks =>
            cases ks with
            | nil => exact absurd h (by simp)
            | cons k5 ks =>
              cases ks with
              | nil => exact absurd h (by simp)
              | cons k6 ks =>
                cases ks with
                | nil => exact absurd h (by simp)
                | cons k7 ks =>
                  cases ks with
                  | cons _ _ => exact absurd h (by simp only [List.length_cons]; omega)
                  | nil => exact ⟨_, _, _, _, _, _, _, _, rfl⟩
theorem len10 {ks : List Value} (h : ks.length = 10) : ∃ k0 k1 k2 k3 k4 k5 k6 k7 k8 k9, ks = [k0, k1, k2, k3, k4, k5, k6, k7, k8, k9] := by
  cases ks with
  | nil => exact absurd h (by simp)
  | cons k0 ks =>
    cases ks with
    | nil => exact absurd h (by simp)
    | cons k1 ks =>
      cases ks with
      | nil => exact absurd h (by simp)
      | cons k2 ks =>
        cases ks with
        | nil => exact absurd h (by simp)
        | cons k3 ks =>
          cases ks with
          | nil => exact absurd h (by simp)
          | cons k4 ks =>
            cases ks with
            | nil => exact absurd h (by simp)
            | cons k5 ks =>
              cases ks with
              | nil => exact absurd h (by simp)
              | cons k6 ks =>
                cases ks with
                | nil => exact absurd h (by simp)
                | cons k7 ks =>
                  cases ks with
                  | nil => exact absurd h (by simp)
                  | cons k8 ks =>
                    cases ks with
                    | nil => exact absurd h (by simp)
                    | cons k9 ks =>
                      cases ks with
                      | cons _ _ => exact absurd h (by simp only [List.length_cons]; omega)
                      | nil => exact ⟨_, _, _, _, _, _, _, _, _, _, rfl⟩
def msA (e2 t3 t4 : Addr) : List (Str × V) := (kwG e2 t3 t4).take 1 ++ (kwG e2 t3 t4).drop 2
def msB (e2 t3 t4 : Addr) : List (Str × V) := (kwG e2 t3 t4).drop 3
def gA {α : Type} (us its mv ws : List α) : List α := us ++ its.drop 1 ++ mv.take 1 ++ ws ++ mv.drop 1
def gB {α : Type} (us its mv ws : List α) : List α := us ++ ws ++ mv
theorem chA (T D : Addr) (doc pm : Value) (an : Option Addr) (cdv ct : Value) (u0 u1 i0 i1 k0 k1 k2 k3 k4 k5 k6 k7 k8 k9 w0 : Value) (e2 t3 t4 : Addr) : ∃ k, bindArgs (fnG T D doc pm an cdv ct) ⟨[u0, u1], (["more_columns"] : List Str).zip [w0]⟩ = seqItems? (.ref T) >>= k ∧ KwChain D (((msA e2 t3 t4).map (·.1)).zip [k0, k1, k2, k3, k4, k5, k6, k7, k8, k9]) (k (some [i0, i1].toArray)) (psG.zip (gA [u0, u1] [i0, i1] [k0, k1, k2, k3, k4, k5, k6, k7, k8, k9] [w0])) := by
  refine ⟨_, rfl, ?_⟩
  refine ⟨_, _, _, _, _, _, rfl, rfl, ?_⟩
  refine ⟨_, _, _, _, _, _, rfl, rfl, ?_⟩
  refine ⟨_, _, _, _, _, _, rfl, rfl, ?_⟩
  refine ⟨_, _, _, _, _, _, rfl, rfl, ?_⟩
  refine ⟨_, _, _, _, _, _, rfl, rfl, ?_⟩
  refine ⟨_, _, _, _, _, _, rfl, rfl, ?_⟩
  refine ⟨_, _, _, _, _, _, rfl, rfl, ?_⟩
  refine ⟨_, _, _, _, _, _, rfl, rfl, ?_⟩
  refine ⟨_, _, _, _, _, _, rfl, rfl, ?_⟩
  refine ⟨_, _, _, _, _, _, rfl, rfl, ?_⟩
  show _ = _
  kernel_rfl
theorem chB (T D : Addr) (doc pm : Value) (an : Option Addr) (cdv ct : Value) (u0 u1 u2 i0 i1 k0 k1 k2 k3 k4 k5 k6 k7 w0 w1 w2 : Value) (e2 t3 t4 : Addr) : ∃ k, bindArgs (fnG T D doc pm an cdv ct) ⟨[u0, u1, u2], (["fields", "more_columns", "more_rows"] : List Str).zip [w0, w1, w2]⟩ = seqItems? (.ref T) >>= k ∧ KwChain D (((msB e2 t3 t4).map (·.1)).zip [k0, k1, k2, k3, k4, k5, k6, k7]) (k (some [i0, i1].toArray)) (psG.zip (gB [u0, u1, u2] [i0, i1] [k0, k1, k2, k3, k4, k5, k6, k7] [w0, w1, w2])) := by
  refine ⟨_, rfl, ?_⟩
  refine ⟨_, _, _, _, _, _, rfl, rfl, ?_⟩
  refine ⟨_, _, _, _, _, _, rfl, rfl, ?_⟩
  refine ⟨_, _, _, _, _, _, rfl, rfl, ?_⟩
  refine ⟨_, _, _, _, _, _, rfl, rfl, ?_⟩
  refine ⟨_, _, _, _, _, _, rfl, rfl, ?_⟩
  refine ⟨_, _, _, _, _, _, rfl, rfl, ?_⟩
  refine ⟨_, _, _, _, _, _, rfl, rfl, ?_⟩
  refine ⟨_, _, _, _, _, _, rfl, rfl, ?_⟩
  show _ = _
  kernel_rfl
theorem vals_drop : ∀ (n : Nat) {vs : List V} {us : List Value}, Vals vs us → Vals (vs.drop n) (us.drop n)
  | 0, _, _, h => h
  | _ + 1, _, _, .nil => .nil
  | n + 1, _, _, .cons _ h => vals_drop n h
theorem vals_take : ∀ (n : Nat) {vs : List V} {us : List Value}, Vals vs us → Vals (vs.take n) (us.take n)
  | 0, _, _, _ => .nil
  | _ + 1, _, _, .nil => .nil
  | n + 1, _, _, .cons r h => .cons r (vals_take n h)
section
variable {K : PySem.W.Frag} {f e0 e1 e2 t3 t4 : Addr} {fd : FuncData}
theorem g_kA (F : FG K e0 e1 e2 t3 t4 f fd) : ∃ its mv : List Value, KBn K fd ("self" :: fnames) 2 ["more_columns"] (fun us ws => gA us its mv ws) (fun vs zs => gA vs (dvG e0 e1) ((msA e2 t3 t4).map (·.2)) zs) := by
  refine F.kbinds 2 ["more_columns"] (msA e2 t3 t4) gA (fun h => nomatch h) (fun h => nomatch h) (fun q h => ?_) (fun r1 r2 r3 r4 => (((r1.append (vals_drop 1 r2)).append (vals_take 1 r3)).append r4).append (vals_drop 1 r3)) (fun T D doc pm an cdv ct us its mv ws h1 h2 h3 h4 => ?_)
  · rcases List.mem_append.mp h with h | h
    · exact List.mem_of_mem_take h
    · exact List.mem_of_mem_drop h
  · obtain ⟨u0, u1, rfl⟩ := len2 h1
    obtain ⟨i0, i1, rfl⟩ := len2 h2
    obtain ⟨k0, k1, k2, k3, k4, k5, k6, k7, k8, k9, rfl⟩ := len10 h3
    obtain ⟨w0, rfl⟩ := len1 h4
    exact chA ..
theorem g_kB (F : FG K e0 e1 e2 t3 t4 f fd) : ∃ its mv : List Value, KBn K fd ("self" :: fnames) 3 ["fields", "more_columns", "more_rows"] (fun us ws => gB us its mv ws) (fun vs zs => gB vs (dvG e0 e1) ((msB e2 t3 t4).map (·.2)) zs) := by
  refine F.kbinds 3 ["fields", "more_columns", "more_rows"] (msB e2 t3 t4) gB (fun h => nomatch h) (fun h => nomatch h) (fun q h => List.mem_of_mem_drop h) (fun r1 _ r3 r4 => (r1.append r4).append r3) (fun T D doc pm an cdv ct us its mv ws h1 h2 h3 h4 => ?_)
  obtain ⟨u0, u1, u2, rfl⟩ := len3 h1
  obtain ⟨i0, i1, rfl⟩ := len2 h2
  obtain ⟨k0, k1, k2, k3, k4, k5, k6, k7, rfl⟩ := len8 h3
  obtain ⟨w0, w1, w2, rfl⟩ := len3 h4
  exact chB ..
end
end K5

set_option Elab.async false
set_option linter.all false
set_option maxRecDepth 100000
set_option maxHeartbeats 4000000
namespace K5
open PySem PySem.Spec PyProof.Rows L2
open K1 (FnP top Nm wm)
/-! ### the law's grids -/
def lawG (c r : PyData) (rows : List (List Bool)) (mc mr : List PyData) : Gr := ⟨c, r, "head", rows, mc, mr, "row", false, .int 0, .int 0, "stretch", "stretch", "stretch", "stretch"⟩
def AxD (d : PyData) : Prop := (isInh d || areEnt d) = true ∧ smN 9 d = true
def moreB (ds : List PyData) : Prop := okMore ds ∧ smN 4 (.tuple ds) = true
theorem more_mk {ds : List PyData} (h : ∀ d ∈ ds, sizB d = true) (l1 : 1 ≤ ds.length) (l2 : ds.length ≤ 8) : moreB ds :=
  ⟨⟨l1, l2, fun e he => ⟨sm_okB (ba (h e he)).2, (ba (h e he)).1⟩⟩, sm_mk (by omega) fun e he => (ba (h e he)).2⟩
theorem lawG_ok {c r : PyData} {rows : List (List Bool)} {mc mr : List PyData} (hc : AxD c) (hr : AxD r) (hf : okFld "head" rows) (h1 : moreB mc) (h2 : moreB mr) : OkGr (lawG c r rows mc mr) where
  c1 := ⟨sm_okInh hc.2, sm_okEnt hc.2⟩
  c2 := hc.1
  r1 := ⟨sm_okInh hr.2, sm_okEnt hr.2⟩
  r2 := hr.1
  f := hf
  mc := h1.1
  mr := h2.1
  fl := show isWord (.str "row") flows = true by decide +kernel
  cg1 := sm_okS (n := 1) (d := .int 0) (by decide +kernel)
  cg2 := show isFixed (.int 0) = true by decide +kernel
  rg1 := sm_okS (n := 1) (d := .int 0) (by decide +kernel)
  rg2 := show isFixed (.int 0) = true by decide +kernel
  j := show isWord (.str "stretch") lanesWays = true by decide +kernel
  al := show isWord (.str "stretch") lanesWays = true by decide +kernel
  ij := show isWord (.str "stretch") waysAcross = true by decide +kernel
  ia := show isWord (.str "stretch") waysDown = true by decide +kernel
theorem lawG_sm {c r : PyData} {rows : List (List Bool)} {mc mr : List PyData} (hc : AxD c) (hr : AxD r) (hf : smN 3 (fldD "head" rows) = true) (h1 : moreB mc) (h2 : moreB mr) : AllSm (lawG c r rows mc mr).ds := fun d hd => by
  simp only [lawG, Gr.ds, List.mem_cons, List.not_mem_nil, or_false] at hd
  rcases hd with rfl | rfl | rfl | rfl | rfl | rfl | rfl | rfl | rfl | rfl | rfl | rfl | rfl
  · exact smN_le hc.2 (by decide)
  · exact smN_le hr.2 (by decide)
  · exact smN_le hf (by decide)
  · exact smN_le h1.2 (by decide)
  · exact smN_le h2.2 (by decide)
  all_goals decide +kernel
def inhD : PyData := .tuple [.str "inherited", .tuple [.tuple [.str "a"], .tuple [], .tuple [.str "b"]]]
/-- what is handed in for an axis, and its template -/
def AxP (wf : Bool) (d : PyData) (ds : List PyData) : Prop := (d = .tuple ds ∧ TT wf ds) ∨ (wf = false ∧ ds = [] ∧ d = inhD)
theorem AxP.d {wf : Bool} {d : PyData} {ds : List PyData} (h : AxP wf d ds) : AxD d := by
  rcases h with ⟨rfl, t⟩ | ⟨_, _, rfl⟩
  · exact ⟨by rw [t.a.1, Bool.or_true], t.a.2⟩
  · exact ⟨by decide +kernel, by decide +kernel⟩
theorem TT.sh {wf : Bool} {ds : List PyData} (t : TT wf ds) : TSh ds := by
  refine ⟨t.n, fun e he => ?_⟩
  have up : ∀ {e}, ShE true e → ShE false e := fun h => by
    rcases h with h | ⟨r, es, e1, r0, r1, p⟩
    · refine .inl ?_
      obtain ⟨h1, h2⟩ := ba h
      unfold entB
      rw [h1, (ba h2).2]
      rfl
    · refine .inr ⟨r, es, e1, r0, r1, ⟨fun d hd => ?_, p.l, p.u, p.n⟩⟩
      obtain ⟨h1, h2⟩ := ba (p.e d hd)
      unfold entB
      rw [h1, (ba h2).2]
      rfl
  have hs := t.s
  cases wf with
  | false => exact .inl (hs e he)
  | true =>
    obtain ⟨l, F, r, rfl, h1, h2⟩ := hs
    rcases List.mem_append.mp he with q | q
    · rcases List.mem_append.mp q with q | q
      · exact .inl (up (h1 e (List.mem_append.mpr (.inl q))))
      · rw [List.mem_singleton] at q
        rw [q]
        exact .inr h2
    · exact .inl (up (h1 e (List.mem_append.mpr (.inr q))))
theorem AxP.sh {wf : Bool} {d : PyData} {ds : List PyData} (h : AxP wf d ds) : TSh ds := by
  rcases h with ⟨rfl, t⟩ | ⟨_, rfl, rfl⟩
  · exact t.sh
  · exact ⟨Nat.zero_le _, fun e he => (nomatch he)⟩
theorem nm_flat {e : PyData} (h : (isSize e || isNamesE e) = true) : isNm e = !isSize e := by
  cases q : isNm e with
  | true => rw [mark_size q (by decide) (by decide) (by decide) (by decide)]; rfl
  | false =>
    rcases Bool.or_eq_true_iff.mp h with h | h
    · rw [h]; rfl
    · have := (ba h).1
      rw [show isMark e "names" 2 = isNm e from rfl, q] at this
      cases this
theorem noNm_flat {es : List PyData} (h : ∀ e ∈ es, (isSize e || isNamesE e) = true) : noNm es = es.filter isSize := by
  unfold noNm
  refine List.filter_congr fun e he => ?_
  rw [nm_flat (h e he), Bool.not_not]
theorem shE_len {wf : Bool} {e : PyData} (h : ShE wf e) (n : Nat) : (noNm (wrtOne n e)).length = (szOne e).length := by
  rcases h with hf | ⟨r, es, rfl, r0, r1, p⟩
  · have ff := (ba hf).1
    have ro : wrtOne n e = [e] := by
      unfold wrtOne
      rw [flat_rp ff, flat_fl ff]
      rfl
    rw [ro, noNm_flat (fun x hx => by rw [List.mem_singleton] at hx; rw [hx]; exact ff), szOne_flat ff]
    by_cases hs : isSize e = true
    · rw [if_pos hs, List.filter_cons_of_pos hs]
      rfl
    · rw [if_neg hs, List.filter_cons_of_neg hs]
      rfl
  · have hr : isRepeat (.tuple [.str "repeat", .int r, .tuple es]) = true := by
      show ((decide ((3 : Int) = 3) && isWord (.str "repeat") ["repeat"]) && (true && ((decide (1 ≤ r) && decide (r ≤ 20)) && areInner (.tuple es)))) = true
      rw [p.inner, decide_eq_true r0, decide_eq_true (by omega : r ≤ 20)]
      decide
    have hz : szOne (.tuple [.str "repeat", .int r, .tuple es]) = (List.replicate r.toNat (es.filter isSize)).flatten := by
      unfold szOne
      rw [if_pos hr]
      rfl
    rw [hz, show wrtOne n (.tuple [.str "repeat", .int r, .tuple es]) = (List.replicate r.toNat es).flatten from rfl, filter_rep, noNm_flat fun d hd => (p.flat d hd).1]
theorem shF_len {e : PyData} (h : ShF e) {n : Nat} (hn : n ≤ 3) : (noNm (wrtOne n e)).length ≤ 9 := by
  obtain ⟨z, es, rfl, hz, p⟩ := h
  rw [show wrtOne n (.tuple [.str z, .tuple es]) = (List.replicate n es).flatten by rcases hz with rfl | rfl <;> rfl, filter_rep, noNm_flat fun d hd => (p.flat d hd).1, flat_len]
  have := p.u
  exact Nat.le_trans (Nat.mul_le_mul hn (show (es.filter isSize).length ≤ 3 by omega)) (by decide)
theorem szW_cons' (e : PyData) (ds : List PyData) (n : Nat) : szW (e :: ds) n = noNm (wrtOne n e) ++ szW ds n := List.filter_append ..
theorem szW_shE {wf : Bool} (n : Nat) : ∀ {ds : List PyData}, (∀ e ∈ ds, ShE wf e) → (szW ds n).length = (szs ds).length
  | [], _ => rfl
  | e :: ds, h => by
    have ih := szW_shE n (ds := ds) fun x hx => h x (List.mem_cons_of_mem _ hx)
    rw [szW_cons', List.length_append, shE_len (h e (List.mem_cons_self ..)), ih]
    show _ = (szOne e ++ szs ds).length
    rw [List.length_append]
theorem TT.len {wf : Bool} {ds : List PyData} (t : TT wf ds) {n : Nat} (hn : n ≤ 3) : (szW ds n).length ≤ 30 := by
  have hz := t.z
  have hs := t.s
  cases wf with
  | false =>
    rw [szW_shE n (wf := false) hs]
    omega
  | true =>
    obtain ⟨l, F, r, rfl, h1, h2⟩ := hs
    rw [szs_app, szs_app, List.length_append, List.length_append] at hz
    have hw : ∀ a b : List PyData, szW (a ++ b) n = szW a n ++ szW b n := fun a b => by
      unfold szW wrt noNm
      rw [List.flatMap_append, List.filter_append]
    rw [hw, hw, List.length_append, List.length_append, szW_shE n (wf := true) fun e he => h1 e (List.mem_append.mpr (.inl he)), szW_shE n (wf := true) fun e he => h1 e (List.mem_append.mpr (.inr he))]
    have h3 : (szW [F] n).length ≤ 9 := by
      rw [szW_cons', List.length_append]
      have := shF_len h2 hn
      show _ + 0 ≤ 9
      omega
    omega
theorem shE_fl {wf : Bool} {e : PyData} (h : ShE wf e) : isFl e = false := by
  rcases h with hf | ⟨r, es, rfl, _⟩
  · exact flat_fl (ba hf).1
  · rfl
theorem sh_entC {e : PyData} (h : ShE false e ∨ ShF e) : entC e := by
  rcases h with (hf | ⟨r, es, rfl, r0, r1, p⟩) | ⟨z, es, rfl, hz, p⟩
  · exact ⟨fun q => absurd q (by rw [flat_rp (ba hf).1]; decide), fun q => absurd q (by rw [flat_fl (ba hf).1]; decide)⟩
  · refine ⟨fun _ => ⟨r.toNat, es, ?_, by omega, rfl, by have := p.n; omega⟩, fun q => absurd q (by show ¬ false = true; decide)⟩
    show PyData.int r = _
    rw [Int.toNat_of_nonneg (by omega)]
  · exact ⟨fun q => absurd q (by show ¬ false = true; decide), fun _ => ⟨es, rfl, by have := p.n; omega⟩⟩
theorem sh_sm {e : PyData} (h : ShE false e ∨ ShF e) (n : Nat) : AllSm (noNm (wrtOne n e)) := fun d hd => by
  have hd := (List.mem_filter.mp hd).1
  have rep : ∀ {m : Nat} {es : List PyData} {wf : Bool} {k : Int}, PlP k wf es → d ∈ (List.replicate m es).flatten → smN 20 d = true := fun p hd => by
    obtain ⟨l, hl, hdl⟩ := List.mem_flatten.mp hd
    rw [List.eq_of_mem_replicate hl] at hdl
    exact smN_le (p.flat d hdl).2 (by decide)
  rcases h with (hf | ⟨r, es, rfl, r0, r1, p⟩) | ⟨z, es, rfl, hz, p⟩
  · unfold wrtOne at hd
    rw [flat_rp (ba hf).1, flat_fl (ba hf).1] at hd
    have hd : d ∈ [e] := hd
    rw [List.mem_singleton] at hd
    rw [hd]
    exact smN_le (ba (ba hf).2).2 (by decide)
  · exact rep p (show d ∈ (List.replicate r.toNat es).flatten from hd)
  · exact rep p (show d ∈ (List.replicate n es).flatten by rcases hz with rfl | rfl <;> exact hd)
theorem sh_allSm {n : Nat} : ∀ {ds : List PyData}, (∀ e ∈ ds, ShE false e ∨ ShF e) → AllSm (szW ds n)
  | [], _ => fun d hd => (nomatch hd)
  | e :: ds, h => fun d hd => by
    rw [szW_cons'] at hd
    rcases List.mem_append.mp hd with q | q
    · exact sh_sm (h e (List.mem_cons_self ..)) n d q
    · exact sh_allSm (fun x hx => h x (List.mem_cons_of_mem _ hx)) d q
theorem no_inh {ds : List PyData} (h : TSh ds) : isMark (.tuple ds) "inherited" 2 = false := by
  cases q : isMark (.tuple ds) "inherited" 2 with
  | false => rfl
  | true =>
    obtain ⟨t, e⟩ := mark_head (n := 1) q
    injection e with e
    have hm : PyData.str "inherited" ∈ ds := by rw [e]; exact List.mem_cons_self ..
    rcases h.2 _ hm with (hf | ⟨r, es, e, _⟩) | ⟨z, es, e, _⟩
    · exact absurd (ba hf).1 (by decide +kernel)
    · cases e
    · cases e
theorem gc_of {G : Gr} {col wf : Bool} {n : Nat} {ds : List PyData} (h : AxP wf (askedT G col) ds) (hn : n ≤ 3) (h1 : wf = true → 1 ≤ n) (hw : wideOf G.rows col ≤ 20) : GC G col n ds ∧ TSh ds ∧ AllSm (szW ds n) := by
  have sh := h.sh
  have am : AllSm (szW ds n) := sh_allSm sh.2
  have ho : (ds.filter isFl).length ≤ 1 := by
    rcases h with ⟨_, t⟩ | ⟨_, rfl, _⟩
    · have hs := t.s
      cases wf with
      | false =>
        rw [List.filter_eq_nil_iff.mpr fun e he => by rw [shE_fl (hs e he)]; decide]
        decide
      | true =>
        obtain ⟨l, F, r, rfl, h1, h2⟩ := hs
        have nf : ∀ k : List PyData, (∀ e ∈ k, e ∈ l ++ r) → k.filter isFl = [] := fun k hk => List.filter_eq_nil_iff.mpr fun e he => by rw [shE_fl (h1 e (hk e he))]; decide
        rw [List.filter_append, List.filter_append, nf l fun e he => List.mem_append.mpr (.inl he), nf r fun e he => List.mem_append.mpr (.inr he), List.append_nil, List.nil_append]
        exact List.length_filter_le _ _
    · exact Nat.zero_le _
  have hl : (szW ds n).length ≤ 30 := by
    rcases h with ⟨_, t⟩ | ⟨_, rfl, _⟩
    · exact t.len hn
    · exact Nat.zero_le _
  have ht : tmplT G col = .tuple ds := by
    unfold tmplT inhB
    rcases h with ⟨e, t⟩ | ⟨_, rfl, e⟩
    · rw [e, no_inh t.sh]
      rfl
    · rw [e, show isMark inhD "inherited" 2 = true by decide +kernel]
      rfl
  refine ⟨⟨ht, ⟨by have := sh.1; omega, fun e he => sh_entC (sh.2 e he)⟩, by omega, fun hf => ?_, ?_, ho⟩, sh, am⟩
  · cases wf with
    | true => exact h1 rfl
    | false =>
      refine absurd ?_ hf
      rcases h with ⟨_, t⟩ | ⟨_, rfl, _⟩
      · have hs := t.s
        exact List.find?_eq_none.mpr fun e he => by rw [shE_fl (hs e he)]; decide
      · rfl
  · unfold toldN
    rw [ht]
    have := szW_len ho n
    show max (filledN ds n) (wideOf G.rows col) ≤ 60
    rw [← this]
    exact Nat.max_le.mpr ⟨by omega, by omega⟩
end K5

set_option Elab.async false
set_option linter.all false
set_option maxRecDepth 100000
set_option maxHeartbeats 4000000
namespace K5
open PySem PySem.Spec PyProof.Rows L2
open K1 (FnP top Nm wm)
structure DG (P : Program) (w : World) (K : PySem.W.Frag) (mg : Str → Option Value) (base : Heap) (C f : Addr) (fd : FuncData) : Prop where
  M : Mk K C f
  G : FnOk P w K mg base CX0 15 f fd ("self" :: fnames) (spGI K C)
  gC : mg "Grid" = some (.ref C)
theorem same_new {H H2 : Hp} {x dx C : Addr} (nx : H x = none) (ndx : H dx = none) (ne : dx ≠ x) (k : Keep x (upd (upd H dx (.own x)) x (.ins C dx [])) H2) : Same H H2 := fun b o e => by
  have h1 : b ≠ x := ne_of_none e nx
  have h2 : b ≠ dx := ne_of_none e ndx
  exact k b o h1 (by rw [upd_ne h1, upd_ne h2]; exact e)
theorem same_mk {H : Hp} {x dx C : Addr} (nx : H x = none) (ndx : H dx = none) : Same H (upd (upd H dx (.own x)) x (.ins C dx [])) := fun b o e => by
  rw [upd_ne (ne_of_none e nx), upd_ne (ne_of_none e ndx)]
  exact e
/-- made(values): a new grid of these -/
theorem gr_sh {g : Gr} (h : AllSm g.ds) : ∀ d ∈ g.ds, SeqAt.shaped d = true := fun d hd => sm_sh (h d hd) (by decide)
theorem grid_new {K : PySem.W.Frag} {C : Addr} {H H' : Hp} {x dx : Addr} {xs : List V} {g : Gr} (nx : H x = none) (ndx : H dx = none) (ne : dx ≠ x) (hx : DpAll K H xs g.ds) (hs : AllSm g.ds) (k : Keep x (upd (upd H dx (.own x)) x (.ins C dx [])) H') (e : H' x = some (.ins C dx (fnames.zip xs))) : Same H H' ∧ GridAt K C H' x xs g.ds := by
  have s := same_new nx ndx ne k
  exact ⟨s, ⟨dx, e⟩, dpSA s hx, rfl, gr_sh hs⟩
/-- the values left out -/
theorem dfl_tail {K : PySem.W.Frag} {H : Hp} : DpAll K H [.str "row", .bl false, .int 0, .int 0, .str "stretch", .str "stretch", .str "stretch", .str "stretch"] [.str "row", .bool false, .int 0, .int 0, .str "stretch", .str "stretch", .str "stretch", .str "stretch"] :=
  .cons (.str _) (.cons (.bl _) (.cons (.int _) (.cons (.int _) (.cons (.str _) (.cons (.str _) (.cons (.str _) (.cons (.str _) .nil)))))))
def grD : Gr := lawG (.tuple []) (.tuple []) [] [.str "auto"] [.str "auto"]
def grA : Gr := lawG (.tuple [.int 50]) (.tuple []) [] [.int 10, .int 20, .int 30] [.str "auto"]
theorem more_b {ds : List PyData} (h : (ds.all sizB && (decide (1 ≤ ds.length) && decide (ds.length ≤ 8))) = true) : moreB ds := by
  obtain ⟨h1, h2⟩ := ba h
  obtain ⟨h2, h3⟩ := ba h2
  exact more_mk (List.all_eq_true.mp h1) (of_decide_eq_true h2) (of_decide_eq_true h3)
theorem fl_nil : okFld "head" [] ∧ smN 3 (fldD "head" []) = true := by
  obtain ⟨h1, h2, _⟩ := flH_ok (n := 1) (rows := []) (by decide) (by decide) (by decide +kernel)
  exact ⟨h1, h2⟩
theorem grA_ok : OkGr grA ∧ AllSm grA.ds := by
  have hc : AxD (.tuple [.int 50]) := ⟨by decide +kernel, by decide +kernel⟩
  have hr : AxD (.tuple []) := ⟨by decide +kernel, by decide +kernel⟩
  have m1 : moreB [.int 10, .int 20, .int 30] := more_b (by decide +kernel)
  have m2 : moreB [.str "auto"] := more_b (by decide +kernel)
  exact ⟨lawG_ok hc hr fl_nil.1 m1 m2, lawG_sm hc hr fl_nil.2 m1 m2⟩
theorem grA_gc : GC grA true 0 [.int 50] := by
  refine ⟨rfl, ⟨by decide, fun e he => ?_⟩, by decide, fun h => absurd rfl h, by decide +kernel, by decide +kernel⟩
  rw [List.mem_singleton] at he
  rw [he]
  exact ⟨fun q => (nomatch q), fun q => (nomatch q)⟩
theorem mx3 {L : Int} (h : 0 ≤ L) : 0 ≤ (if (if L < 3 then L else 3) > 1 then (if L < 3 then L else 3) else (1 : Int)) ∧ (if (if L < 3 then L else 3) > 1 then (if L < 3 then L else 3) else (1 : Int)) ≤ 3 := by
  split <;> split <;> omega
theorem bag_app {K : PySem.W.Frag} {a D : Addr} {H0 H : Hp} {xs : List V} {y : V} {ds : List PyData} {d : PyData} (h1 : H D = some (.lst xs)) (h2 : DpAll K H xs ds) (hs : AllSm ds) (l : ds.length ≤ 100) (hd : Dp K H y d) (z : smN 20 d = true) (kp : Keep a H0 H) (nD : H0 D = none) :
    xs.length < sizeLine ∧ Keep a H0 (upd H D (.lst (xs ++ [y]))) ∧ Bag K (upd H D (.lst (xs ++ [y]))) D (ds ++ [d]) :=
  ⟨Nat.lt_of_le_of_lt (m := 100) (by rw [dpLen h2]; exact l) (by decide), updK kp nD, Bag.push h1 h2 hs hd z⟩
/-- sorts drawn -/
def SoOk (so : Option Str) : Prop := ∀ z, so = some z → z = "fill" ∨ z = "fit"
section
variable {P : Program} {w : World} {K : PySem.W.Frag} {mg : Str → Option Value} {base : Heap} {C fI fE : Addr}
def spLaw (K : PySem.W.Frag) : Sp := fun vs H Q _ => ∃ (a : Addr) (ns : List Int), vs = [.ref a] ∧ SqL K H a (ns.map V.int) ∧ ns.length ≤ 63 ∧ ∀ H', Q (.bl true) H'
theorem scLaw : FnScope ["script", "given", "k", "well", "turn", "sorts", "at", "both", "sort", "more", "spot", "handed", "world", "side", "often"] ["script"] (defScope (top 115)) := ⟨rfl, rfl, rfl, by decide +kernel, rfl, by decide +kernel, by decide +kernel⟩
theorem ok_law {e0 e1 e2 t3 t4 : Addr} {f f1 f2 f3 f4 f5 f6 f7 f8 fG : Addr} {fd d1 d2 d3 d4 d5 d6 d7 d8 dG : FuncData} {its mv its' mv' : List Value} (F : FnP K "law" (top 115) f fd) (N : Nm mg) (T : TG K mg "Grid" C fI fE) (hmax : mg "max" = none) (hmin : mg "min" = none) (hen : mg "enumerate" = none)
    (d__law_source : D2 P w K mg base "_law_source" "script" "k" 1 (spSo K) f1 d1) (d__law_draw : D2 P w K mg base "_law_draw" "well" "limit" 2 spDr f2 d2) (d__law_one : D2 P w K mg base "_law_one" "well" "items" 3 spOn f3 d3) (d__law_template : D2 P w K mg base "_law_template" "well" "sort" 8 (spTm K) f4 d4)
    (d__law_any_size : D1 P w K mg base "_law_any_size" "well" 6 (spDl K 11 fun d => sizB d = true) f5 d5) (d__law_fields : D1 P w K mg base "_law_fields" "well" 3 (spFd K) f6 d6) (d__law_right : D5 P w K mg base "_law_right" ["well", "world", "side", "template", "often"] 10 (spRt K C) f7 d7) (d_lane_sizes : D5 P w K mg base "lane_sizes" ["grid", "axis", "count", "first", "behind"] 9 (spLZ K C) f8 d8)
    (dd : ∀ H, DpAll K H (dflG e0 e1 e2 t3 t4) grD.ds) (d_Grid : DG P w K mg base C fG dG) (kA : KBn K dG ("self" :: fnames) 2 ["more_columns"] (fun us ws => gA us its mv ws) (fun vs zs => gA vs (dvG e0 e1) ((msA e2 t3 t4).map (·.2)) zs))
    (kB : KBn K dG ("self" :: fnames) 3 ["fields", "more_columns", "more_rows"] (fun us ws => gB us its' mv' ws) (fun vs zs => gB vs (dvG e0 e1) ((msB e2 t3 t4).map (·.2)) zs)) : FnOk P w K mg base CX0 17 f fd ["script"] (spLaw K) := by
  refine F.ok scLaw (fun vs H Q E h => ?_) (fun cdv A outer s H vs Q E hr h => ?_)
  · obtain ⟨a, ns, rfl, _⟩ := h
    rfl
  · obtain ⟨a, ns, rfl, ha, hn, k⟩ := h
    refine ⟨_, PSs.nox (pss_cons (ps_set (i := 1) scLaw.nd rfl (Or.inl rfl) (pe_makeK d_Grid.M d_Grid.G (hr.mono (by decide)) (by rfl) d_Grid.gC kA pass0 (pa_cons (pe_tup (pa_cons pe_int pa_nil)) pa_nil) (pk_cons (pe_tup (pa_cons pe_int (pa_cons pe_int (pa_cons pe_int pa_nil)))) pk_nil)))
  (pss_cons (ps_if (pt_cmpR (op_neD hr.units) (pe_call d_lane_sizes.G (hr.mono (by decide)) (by rfl) d_lane_sizes.g d_lane_sizes.kp d_lane_sizes.b .nil pass0 (pa_cons (pv 1) (pa_cons pe_str (pa_cons pe_int (pa_cons (pe_un un_neg pe_int) (pa_cons pe_int pa_nil)))))) (pe_lst (pa_cons pe_int (pa_cons pe_int (pa_cons pe_int (pa_cons pe_int (pa_cons pe_int (pa_cons pe_int pa_nil))))))) (nomark _))
    (pss_one (ps_ret pe_bl))
    pss_nil)
  (pss_cons (ps_for PassesOwn.never rfl (pi_range1 rfl N.rng (pa_cons (pe_callB (call_max2 rfl) (by rfl) hmax (by decide +kernel) (pa_cons pe_int (pa_cons (pe_callB (call_min2 rfl) (by rfl) hmin (by decide +kernel) (pa_cons pe_int (pa_cons (pe_callB call_len_seq (by rfl) N.len PySem.boot_len (pa_cons (pv 0) pa_nil)) pa_nil))) pa_nil))) pa_nil))
    (pg_name (i := 2) scLaw.nd rfl (Or.inl rfl))
    (pss_cons (ps_set (i := 3) scLaw.nd rfl (Or.inr rfl) (pe_call d__law_source.G (hr.mono (by decide)) (by rfl) d__law_source.g d__law_source.kp d__law_source.b .nil pass0 (pa_cons (pv 0) (pa_cons (pv 2) pa_nil))))
  (pss_one (ps_for PassesOwn.never rfl (pi_range1 rfl N.rng (pa_cons pe_int pa_nil))
    (pg_name (i := 4) scLaw.nd rfl (Or.inl rfl))
    (pss_cons (ps_setLc (i := 5) (own := [("at", 6)]) (g := gName 6) (tt := tYes) rfl scLaw.nd rfl rfl (sw_true rfl rfl rfl (by decide +kernel)) (pi_range1 rfl N.rng (pa_cons pe_int pa_nil)) (blkOk_by (own := [("at", 6)]) (N := ["script", "given", "k", "well", "turn", "sorts", "at", "both", "sort", "more", "spot", "handed", "world", "side", "often"]) (sc := defScope (top 115)) (by decide +kernel)) (fun _ _ _ _ _ => (pg_name (i := 6) scLaw.nd rfl (Or.inl rfl))) (fun _ _ _ _ _ => pts_nil) (fun _ _ _ _ _ => (pe_call d__law_one.G (hr.mono (by decide)) (by rfl) d__law_one.g d__law_one.kp d__law_one.b .nil pass0 (pa_cons (pv 3) (pa_cons (pe_lst (pa_cons pe_non (pa_cons pe_str (pa_cons pe_str pa_nil)))) pa_nil)))))
  (pss_cons (ps_setLc (i := 7) (own := [("sort", 8)]) (g := gName 8) (tt := tYes) rfl scLaw.nd rfl rfl (sw_true rfl rfl rfl (by decide +kernel)) (pi_list (pv 5)) (blkOk_by (own := [("sort", 8)]) (N := ["script", "given", "k", "well", "turn", "sorts", "at", "both", "sort", "more", "spot", "handed", "world", "side", "often"]) (sc := defScope (top 115)) (by decide +kernel)) (fun _ _ _ _ _ => (pg_name (i := 8) scLaw.nd rfl (Or.inl rfl))) (fun _ _ _ _ _ => pts_nil) (fun _ _ _ _ _ => (pe_call d__law_template.G (hr.mono (by decide)) (by rfl) d__law_template.g d__law_template.kp d__law_template.b .nil pass0 (pa_cons (pv 3) (pa_cons (pv 8) pa_nil)))))
  (pss_cons (ps_setLc (i := 9) (own := [("spot", 10)]) (g := gName 10) (tt := tYes) rfl scLaw.nd rfl rfl (sw_true rfl rfl rfl (by decide +kernel)) (pi_range1 rfl N.rng (pa_cons pe_int pa_nil)) (blkOk_by (own := [("spot", 10)]) (N := ["script", "given", "k", "well", "turn", "sorts", "at", "both", "sort", "more", "spot", "handed", "world", "side", "often"]) (sc := defScope (top 115)) (by decide +kernel)) (fun _ _ _ _ _ => (pg_name (i := 10) scLaw.nd rfl (Or.inl rfl))) (fun _ _ _ _ _ => pts_nil) (fun _ _ _ _ _ => (pe_callTy (show CallR _ (.type "tuple") (fun xs H Q => ∃ p ys, xs = [V.ref p] ∧ ((SqL K H p ys ∧ ∀ (l : Addr), H l = none → Q (V.ref l) (upd H l (HO.tup ys))) ∨ SqT K H p ys ∧ Q (V.ref p) H)) from call_tuple_of) (by rfl) N.ttup (by decide +kernel) (pa_cons (pe_lc (own := [("at", 6)]) (g := gName 6) (tt := tYes) rfl scLaw.nd (pi_range1 rfl N.rng (pa_cons (pe_op op_add pe_int (pe_call d__law_draw.G (hr.mono (by decide)) (by rfl) d__law_draw.g d__law_draw.kp d__law_draw.b .nil pass0 (pa_cons (pv 3) (pa_cons pe_int pa_nil)))) pa_nil)) (blkOk_by (own := [("at", 6)]) (N := ["script", "given", "k", "well", "turn", "sorts", "at", "both", "sort", "more", "spot", "handed", "world", "side", "often"]) (sc := ({ kind := .function, names := [(".0", .local), ("spot", .local), ("tuple", .globalImplicit), ("range", .globalImplicit), ("_law_draw", .globalImplicit), ("well", .cell)], isGenerator := false, isCoroutine := false } : Scope)) (by decide +kernel)) (fun _ _ _ _ _ => (pg_name (i := 6) scLaw.nd rfl (Or.inl rfl))) (fun _ _ _ _ _ => pts_nil) (fun _ _ _ _ _ => (pe_call d__law_any_size.G (hr.mono (by decide)) (by rfl) d__law_any_size.g d__law_any_size.kp d__law_any_size.b .nil pass0 (pa_cons (pv 3) pa_nil)))) pa_nil))))
  (pss_cons (ps_set (i := 11) scLaw.nd rfl (Or.inl rfl) (pe_callTy call_list_of (by rfl) N.tlst (by decide +kernel) (pa_cons (pv 7) pa_nil)))
  (pss_cons (ps_if (pt_cmpR op_eq (pe_call d__law_draw.G (hr.mono (by decide)) (by rfl) d__law_draw.g d__law_draw.kp d__law_draw.b .nil pass0 (pa_cons (pv 3) (pa_cons pe_int pa_nil))) pe_int (nomark _))
    (pss_one (ps_asg (pe_tup (pa_cons pe_non (pa_cons (pe_tup pa_nil) (pa_cons (pe_tup (pa_cons pe_str (pa_cons (pe_tup (pa_cons (pe_tup (pa_cons pe_str pa_nil)) (pa_cons (pe_tup pa_nil) (pa_cons (pe_tup (pa_cons pe_str pa_nil)) pa_nil)))) pa_nil))) pa_nil)))) (pg_tup rfl (pgs_cons (pg_sub (pv 5) pe_int set_list) (pgs_cons (pg_sub (pv 7) pe_int set_list) (pgs_cons (pg_sub (pv 11) pe_int set_list) pgs_nil))))))
    pss_nil)
  (pss_cons (ps_set (i := 12) scLaw.nd rfl (Or.inl rfl) (pe_makeK d_Grid.M d_Grid.G (hr.mono (by decide)) (by rfl) d_Grid.gC kB pass0 (pa_cons (pe_ix ix_list (pv 11) pe_int (fun _ _ => rfl)) (pa_cons (pe_ix ix_list (pv 11) pe_int (fun _ _ => rfl)) pa_nil)) (pk_cons (pe_call d__law_fields.G (hr.mono (by decide)) (by rfl) d__law_fields.g d__law_fields.kp d__law_fields.b .nil pass0 (pa_cons (pv 3) pa_nil)) (pk_cons (pe_ix ix_list (pv 9) pe_int (fun _ _ => rfl)) (pk_cons (pe_ix ix_list (pv 9) pe_int (fun _ _ => rfl)) pk_nil)))))
  (pss_one (ps_for PassesOwn.never rfl (pi_enumT (by rfl) N.enu (pa_cons (pe_tup (pa_cons pe_str (pa_cons pe_str pa_nil))) pa_nil))
    (pg_tup rfl (pgs_cons (pg_name (i := 6) scLaw.nd rfl (Or.inl rfl)) (pgs_cons (pg_name (i := 13) scLaw.nd rfl (Or.inl rfl)) pgs_nil)))
    (pss_cons (ps_set (i := 14) scLaw.nd rfl (Or.inl rfl) (pe_op op_add (pe_call d__law_draw.G (hr.mono (by decide)) (by rfl) d__law_draw.g d__law_draw.kp d__law_draw.b .nil pass0 (pa_cons (pv 3) (pa_cons pe_int pa_nil))) (pe_callTy call_int1 (by rfl) N.tint (by decide +kernel) (pa_cons (pe_cmp (pc_notN (pe_ix ix_list (pv 5) (pv 6) (fun _ _ => rfl))) rfl) pa_nil))))
  (pss_one (ps_if (pt_not (pt_val (pe_call d__law_right.G (hr.mono (by decide)) (by rfl) d__law_right.g d__law_right.kp d__law_right.b .nil pass0 (pa_cons (pv 3) (pa_cons (pv 12) (pa_cons (pv 13) (pa_cons (pe_ix ix_list (pv 7) (pv 6) (fun _ _ => rfl)) (pa_cons (pv 14) pa_nil))))))))
    (pss_one (ps_ret pe_bl))
    pss_nil)))))))))))))))
  (pss_one (ps_ret pe_bl))))), ?_⟩
    have q1 : ∀ H, Dp K H (.ref e1) (.tuple []) := fun H => by
      obtain ⟨v, ev, hv⟩ := dpAt 1 (dd H) (d := .tuple []) rfl
      cases ev
      exact hv
    have q2 : ∀ H, Dp K H (.ref e2) (fldD "head" []) := fun H => by
      obtain ⟨v, ev, hv⟩ := dpAt 2 (dd H) (d := fldD "head" []) rfl
      cases ev
      exact hv
    have q4 : ∀ H, Dp K H (.ref t4) (.tuple [.str "auto"]) := fun H => by
      obtain ⟨v, ev, hv⟩ := dpAt 4 (dd H) (d := .tuple [.str "auto"]) rfl
      cases ev
      exact hv
    refine ⟨(by show 1 ≤ sizeLine; decide), fun c1 nc1 => ⟨(by show 3 ≤ sizeLine; decide), fun m1 nm1 => ⟨rfl, rfl, fun x dx nx ndx ne => ?_⟩⟩⟩
    have sc := same_upd (o := .tup [.int 50]) nc1
    have sm := same_upd (o := .tup [.int 10, .int 20, .int 30]) nm1
    have tc := dpS sm (tupNew (K := K) (xs := [.int 50]) (ds := [.int 50]) nc1 (.cons (.int _) .nil))
    have tm := tupNew (K := K) (xs := [.int 10, .int 20, .int 30]) (ds := [.int 10, .int 20, .int 30]) nm1 (.cons (.int _) (.cons (.int _) (.cons (.int _) .nil)))
    have s02 := sc.trans sm
    generalize upd (upd H c1 (.tup [.int 50])) m1 (.tup [.int 10, .int 20, .int 30]) = H2 at tc tm s02 nx ndx ⊢
    have hx : DpAll K H2 [.ref c1, .ref e1, .ref e2, .ref m1, .ref t4, .str "row", .bl false, .int 0, .int 0, .str "stretch", .str "stretch", .str "stretch", .str "stretch"] grA.ds := .cons tc (.cons (q1 _) (.cons (q2 _) (.cons tm (.cons (q4 _) dfl_tail))))
    have s2n : Same H2 (upd (upd H2 dx (.own x)) x (.ins C dx [])) := (same_upd ndx).trans (same_upd (by rw [upd_ne (Ne.symm ne)]; exact nx))
    refine ⟨x, dx, [.ref c1, .ref e1, .ref e2, .ref m1, .ref t4, .str "row", .bl false, .int 0, .int 0, .str "stretch", .str "stretch", .str "stretch", .str "stretch"], grA, rfl, upd_same, dpSA s2n hx, grA_ok.1, fun H3 k3 e3 => ⟨rfl, ?_⟩⟩
    obtain ⟨s3, hg⟩ := grid_new nx ndx ne hx grA_ok.2 k3 e3
    have s03 := s02.trans s3
    refine ⟨_, rfl, _, rfl, x, _, grA, true, 0, 2, 4, [.int 50], rfl, hg, grA_gc, by decide, fun d hd => ?_, fun d hd => ?_, by decide, by decide +kernel, fun H4 q us s4 nq hq hu => ?_⟩
    · exact List.all_eq_true.mp (show (moreT grA true).all (smN 20) = true by decide +kernel) d hd
    · exact List.all_eq_true.mp (show (szW [.int 50] 0).all (smN 20) = true by decide +kernel) d hd
    refine ⟨(by show 6 ≤ sizeLine; decide), fun l nl => ?_⟩
    have sl := same_upd (o := .lst [.int 20, .int 30, .int 50, .int 10, .int 20, .int 30]) nl
    refine ⟨.list (betw (moreT grA true) (szW [.int 50] 0) 2 4), .list [.int 20, .int 30, .int 50, .int 10, .int 20, .int 30], .lst (SqL.of (sl _ _ hq)) (dpSA sl hu), .lst (SqL.of upd_same) (.cons (.int _) (.cons (.int _) (.cons (.int _) (.cons (.int _) (.cons (.int _) (.cons (.int _) .nil)))))), by decide +kernel, by decide +kernel, _, rfl, ite2 (fun c => absurd c (by decide +kernel)) (fun _ => ?_)⟩
    have s05 := (s03.trans s4).trans sl
    generalize upd H4 l (.lst [.int 20, .int 30, .int 50, .int 10, .int 20, .int 30]) = H5 at s05 ⊢
    have hM := mx3 (L := (((ns.map V.int).length : Nat) : Int)) (by omega)
    refine ⟨_, rfl, a, _, rfl, .inl (s05.seq ha), _, _, rfl, _, _, rfl, _, rfl, ?_, ?_, ?_⟩
    · exact Int.le_trans (by decide) hM.1
    · exact Int.lt_of_le_of_lt hM.2 (by decide)
    refine for_range (fun i σ H' => Same H H' ∧ ∃ v2 v3 v4 v5 v6 v7 v8 v9 v10 v11 v12 v13 v14, σ = [some (.ref a), some (.ref x), v2, v3, v4, v5, v6, v7, v8, v9, v10, v11, v12, v13, v14])
      ⟨s05, _, _, _, _, _, _, _, _, _, _, _, _, _, rfl⟩ ?_ ?_
    rotate_left
    · rintro σ H6 ⟨s6, v2, v3, v4, v5, v6, v7, v8, v9, v10, v11, v12, v13, v14, rfl⟩
      exact k H6
    rintro i σ H6 hi ⟨s6, v2, v3, v4, v5, v6, v7, v8, v9, v10, v11, v12, v13, v14, rfl⟩
    have hi : i < 3 := by
      have := hM.2
      omega
    refine ⟨_, rfl, _, rfl, a, ns, i, (by show [V.ref a, V.int ((0 : Int) + (i : Int))] = _; rw [Int.zero_add]), s6.seq ha, hn, by omega, fun H7 wl s7 nwl w7 => ?_⟩
    have nwl0 : H wl = none := none_of (s6) nwl
    refine ⟨8, rfl, by decide, by decide, for_range (n := 8) (fun t σ H' => Keep wl H7 H' ∧ Wl H' wl (1000 * (t : Int)) ∧ ∃ v4 v5 v6 v7 v8 v9 v10 v11 v12 v13 v14, σ = [some (.ref a), some (.ref x), some (.int (0 + (i : Int))), some (.ref wl), v4, v5, v6, v7, v8, v9, v10, v11, v12, v13, v14])
      ⟨Keep.of (Same.refl _), w7.mono (by omega), _, _, _, _, _, _, _, _, _, _, _, rfl⟩ ?_ ?_⟩
    rotate_left
    · rintro σ H8 ⟨k8, w8, v4, v5, v6, v7, v8, v9, v10, v11, v12, v13, v14, rfl⟩
      refine ⟨fun b o e => k8 b o (ne_of_none e nwl0) ((s6.trans s7) b o e), _, _, _, _, _, _, _, _, _, _, _, _, _, rfl⟩
    rintro t σ H8 ht ⟨k8, w8, v4, v5, v6, v7, v8, v9, v10, v11, v12, v13, v14, rfl⟩
    have ht : t < 8 := ht
    obtain ⟨m, hm⟩ : ∃ m : Int, m = 1000 * (t : Int) := ⟨_, rfl⟩
    have hm8 : m + 1000 ≤ 8000 := by omega
    have hmt : (1000 * ((t + 1 : Nat) : Int)) = m + 1000 := by omega
    rw [← hm] at w8
    -- the sorts
    refine ⟨2, rfl, by decide, by decide, fun S nS => ?_⟩
    have nSa := w8.new nS
    have sS := same_upd (o := .lst []) nS
    refine lc_range (lo := 0) (n := 2) (fun j H' => Keep wl H8 H' ∧ Wl H' wl (m + (j : Int)) ∧ ∃ ss : List (Option Str), ss.length = j ∧ (∀ so ∈ ss, SoOk so) ∧ H' S = some (.lst (ss.map sortV)))
      ⟨Keep.of sS, (w8.same sS).mono (by omega), [], rfl, (fun so h => nomatch h), upd_same⟩ ?_ ?_
    · rintro j H9 hj ⟨k9, w9, ss, ls, hss, hS⟩
      refine ⟨rfl, iteT (B := Keep wl H8 H9 ∧ Wl H9 wl (m + ((j + 1 : Nat) : Int)) ∧ ∃ ss : List (Option Str), ss.length = j + 1 ∧ (∀ so ∈ ss, SoOk so) ∧ H9 S = some (.lst (ss.map sortV))) ?_⟩
      refine ⟨_, rfl, (by show 3 ≤ sizeLine; decide), fun z nz => ?_⟩
      have sz := same_upd (o := .lst [V.non, .str "fill", .str "fit"]) nz
      have hz := w9.new nz
      refine ⟨wl, z, _, [V.non, .str "fill", .str "fit"], rfl, w9.same sz, by omega, Ne.symm hz, upd_same, by decide, by decide, fun y H10 hy b10 w10 => ?_⟩
      obtain ⟨so, rfl, hso⟩ : ∃ so : Option Str, y = sortV so ∧ SoOk so := by
        simp only [List.mem_cons, List.not_mem_nil, or_false] at hy
        rcases hy with rfl | rfl | rfl
        · exact ⟨none, rfl, fun z e => nomatch e⟩
        · exact ⟨some "fill", rfl, fun z e => by cases e; exact .inl rfl⟩
        · exact ⟨some "fit", rfl, fun z e => by cases e; exact .inr rfl⟩
      have hS10 := b10.keep _ _ nSa (sz _ _ hS)
      refine ⟨_, hS10, by rw [List.length_map, ls]; exact Nat.lt_of_lt_of_le hj (by decide), updK (((k9.trans (Keep.of sz)).trans b10.keep)) nS, (w10.updNe nSa).mono (by omega), ss ++ [so], by rw [List.length_append, ls]; rfl, fun s1 h1 => ?_, by rw [List.map_append]; exact upd_same⟩
      rcases List.mem_append.mp h1 with q | q
      · exact hss s1 q
      · rw [List.mem_singleton] at q
        rw [q]
        exact hso
    rintro H9 ⟨k9, w9, ss, ls, hss, hS⟩
    obtain ⟨so0, so1, rfl⟩ : ∃ s0 s1, ss = [s0, s1] := by
      match ss, ls with
      | [s0, s1], _ => exact ⟨s0, s1, rfl⟩
    have w9 := w9.mono (show m + ((2 : Nat) : Int) ≤ m + 2 by omega)
    -- the templates
    refine ⟨_, rfl, S, rfl, ⟨_, SqL.of hS⟩, fun Bo nB => ?_⟩
    have nBa := w9.new nB
    have sB := same_upd (o := .lst []) nB
    have tsm : ∀ {wf : Bool} {ds : List PyData}, TT wf ds → smN 20 (.tuple ds) = true := fun p => smN_le p.a.2 (by decide)
    refine lc_list (K := K) (a := S) (xs := [so0, so1].map sortV) (fun j H' => Keep wl H9 H' ∧ Wl H' wl (m + 2 + 300 * (j : Int)) ∧ ∃ dss : List (List PyData), dss.length = j ∧ Bag K H' Bo (dss.map PyData.tuple) ∧ AllSm (dss.map PyData.tuple) ∧ ∀ (q : Nat) (so : Option Str) (ds : List PyData), [so0, so1][q]? = some so → dss[q]? = some ds → TT so.isSome ds)
      ⟨Keep.of sB, (w9.same sB).mono (by omega), [], rfl, ⟨[], upd_same, .nil⟩, (fun d h => nomatch h), (fun q so ds _ h => by rw [List.getElem?_nil] at h; cases h)⟩ (fun j H' _ h => SqL.of (h.1 _ _ nSa hS)) ?_ ?_
    · rintro j y H10 hj ⟨k10, w10, dss, ld, hb, am, htt⟩
      rw [List.getElem?_map] at hj
      obtain ⟨so, hso, rfl⟩ : ∃ so, [so0, so1][j]? = some so ∧ y = sortV so := by
        cases e : [so0, so1][j]? with
        | none =>
          rw [e] at hj
          cases hj
        | some so =>
          rw [e] at hj
          cases hj
          exact ⟨so, rfl, rfl⟩
      have j2 : j < 2 := (List.getElem?_eq_some_iff.mp hso).1
      refine ⟨rfl, iteT (B := Keep wl H9 H10 ∧ Wl H10 wl (m + 2 + 300 * ((j + 1 : Nat) : Int)) ∧ ∃ dss : List (List PyData), dss.length = j + 1 ∧ Bag K H10 Bo (dss.map PyData.tuple) ∧ AllSm (dss.map PyData.tuple) ∧ ∀ (q : Nat) (so : Option Str) (ds : List PyData), [so0, so1][q]? = some so → dss[q]? = some ds → TT so.isSome ds) ?_⟩
      refine ⟨_, rfl, _, rfl, wl, _, so, rfl, hss so (List.mem_of_getElem? hso), w10, by omega, fun y ds H11 k11 w11 e p => ?_⟩
      obtain ⟨zs, hz, hzs⟩ := hb.keep k11 w10.lst.choose_spec nBa am
      obtain ⟨p1, p2, p3⟩ := bag_app hz hzs am (by rw [List.length_map, ld]; omega) e (tsm p) (k10.trans k11) nB
      refine ⟨zs, hz, p1, p2, (w11.updNe nBa).mono (by omega), dss ++ [ds], by rw [List.length_append, ld]; rfl, by rw [List.map_append]; exact p3, ?_, fun q so' ds' h1 h2 => ?_⟩
      · rw [List.map_append]
        exact allSm_snoc am (tsm p)
      · by_cases hq : q < dss.length
        · rw [List.getElem?_append_left hq] at h2
          exact htt q so' ds' h1 h2
        · rw [List.getElem?_append_right (by omega)] at h2
          have q0 : q - dss.length = 0 := by
            have := (List.getElem?_eq_some_iff.mp h2).1
            rw [List.length_singleton] at this
            omega
          have qj : q = j := by omega
          rw [q0] at h2
          cases h2
          rw [qj, hso] at h1
          cases h1
          exact p
    rintro H10 ⟨k10, w10, dss, ld, hb, am, htt⟩
    obtain ⟨ds0, ds1, rfl⟩ : ∃ s0 s1, dss = [s0, s1] := by
      match dss, (show dss.length = 2 from ld) with
      | [s0, s1], _ => exact ⟨s0, s1, rfl⟩
    have tt0 := htt 0 so0 ds0 rfl rfl
    have tt1 := htt 1 so1 ds1 rfl rfl
    have w10 := w10.mono (show m + 2 + 300 * ((([so0, so1].map sortV).length : Nat) : Int) ≤ m + 602 by show m + 2 + 300 * ((2 : Nat) : Int) ≤ m + 602; omega)
    have hb : Bag K H10 Bo [.tuple ds0, .tuple ds1] := hb
    have am : AllSm [.tuple ds0, .tuple ds1] := am
    clear htt
    -- further sizes
    refine ⟨2, rfl, by decide, by decide, fun Mo nM => ?_⟩
    have nMa := w10.new nM
    have sM := same_upd (o := .lst []) nM
    have msm : ∀ {ms : List PyData}, moreB ms → smN 20 (.tuple ms) = true := fun p => smN_le p.2 (by decide)
    have mall : ∀ {mss : List (List PyData)}, (∀ ms ∈ mss, moreB ms) → AllSm (mss.map PyData.tuple) := fun h d hd => by
      obtain ⟨ms, hm, rfl⟩ := List.mem_map.mp hd
      exact msm (h ms hm)
    refine lc_range (lo := 0) (n := 2) (fun j H' => Keep wl H10 H' ∧ Wl H' wl (m + 602 + 89 * (j : Int)) ∧ ∃ mss : List (List PyData), mss.length = j ∧ Bag K H' Mo (mss.map PyData.tuple) ∧ ∀ ms ∈ mss, moreB ms)
      ⟨Keep.of sM, (w10.same sM).mono (by omega), [], rfl, ⟨[], upd_same, .nil⟩, (fun so h => nomatch h)⟩ ?_ ?_
    · rintro j H11 hj ⟨k11, w11, mss, lm, hbm, hmm⟩
      refine ⟨rfl, iteT (B := Keep wl H10 H11 ∧ Wl H11 wl (m + 602 + 89 * ((j + 1 : Nat) : Int)) ∧ ∃ mss : List (List PyData), mss.length = j + 1 ∧ Bag K H11 Mo (mss.map PyData.tuple) ∧ ∀ ms ∈ mss, moreB ms) ?_⟩
      refine ⟨_, rfl, wl, 8, _, rfl, w11, by omega, by decide, by decide, fun r H12 r0 r1 b12 w12 => ⟨_, _, rfl, rfl, 1 + r, rfl, by omega, by omega, fun L nL => ?_⟩⟩
      have nLa := w12.new nL
      have sL := same_upd (o := .lst []) nL
      have hbm := hbm.keep b12.keep w11.lst.choose_spec nMa (mall hmm)
      refine lc_range (lo := 0) (n := (1 + r).toNat) (fun q H' => Keep wl H12 H' ∧ Wl H' wl (m + 602 + 89 * (j : Int) + 1 + 11 * (q : Int)) ∧ ∃ ds : List PyData, ds.length = q ∧ Bag K H' L ds ∧ ∀ d ∈ ds, sizB d = true)
        ⟨Keep.of sL, (w12.same sL).mono (by omega), [], rfl, ⟨[], upd_same, .nil⟩, (fun so h => nomatch h)⟩ ?_ ?_
      · rintro q H13 hq ⟨k13, w13, ds, lq, hbl, hsz⟩
        have asz : AllSm ds := fun d hd => smN_le (ba (hsz d hd)).2 (by decide)
        refine ⟨rfl, iteT (B := Keep wl H12 H13 ∧ Wl H13 wl (m + 602 + 89 * (j : Int) + 1 + 11 * ((q + 1 : Nat) : Int)) ∧ ∃ ds : List PyData, ds.length = q + 1 ∧ Bag K H13 L ds ∧ ∀ d ∈ ds, sizB d = true) ?_⟩
        refine ⟨_, rfl, wl, _, rfl, w13, by omega, fun y d H14 k14 w14 e p => ?_⟩
        obtain ⟨zs, hz, hzs⟩ := hbl.keep k14 w13.lst.choose_spec nLa asz
        obtain ⟨p1, p2, p3⟩ := bag_app hz hzs asz (by omega) e (smN_le (ba p).2 (by decide)) (k13.trans k14) nL
        refine ⟨zs, hz, p1, p2, (w14.updNe nLa).mono (by omega), ds ++ [d], by rw [List.length_append, lq]; rfl, p3, fun d' hd' => ?_⟩
        rcases List.mem_append.mp hd' with q | q
        · exact hsz d' q
        · rw [List.mem_singleton] at q
          rw [q]
          exact p
      rintro H13 ⟨k13, w13, ds, lq, ⟨ys, hL, hy⟩, hsz⟩
      refine ⟨L, ys, rfl, .inl ⟨SqL.of hL, fun u nu => ?_⟩⟩
      have su := same_upd (o := .tup ys) nu
      have tu := tupNew nu (dpSA su hy)
      have pm := more_mk hsz (by omega) (by omega)
      obtain ⟨zs, hz, hzs⟩ := (hbm.keep k13 w12.lst.choose_spec nMa (mall hmm)).same su
      obtain ⟨p1, p2, p3⟩ := bag_app hz hzs (mall hmm) (by rw [List.length_map, lm]; omega) tu (msm pm) (((k11.trans b12.keep).trans k13).trans (Keep.of su)) nM
      refine ⟨zs, hz, p1, p2, ((w13.same su).updNe nMa).mono (by omega), mss ++ [ds], by rw [List.length_append, lm]; rfl, by rw [List.map_append]; exact p3, fun ms hms => ?_⟩
      rcases List.mem_append.mp hms with q | q
      · exact hmm ms q
      · rw [List.mem_singleton] at q
        rw [q]
        exact pm
    rintro H11 ⟨k11, w11, mss, lm, hbm, hmm⟩
    obtain ⟨mc, mr, rfl⟩ : ∃ s0 s1, mss = [s0, s1] := by
      match mss, lm with
      | [s0, s1], _ => exact ⟨s0, s1, rfl⟩
    have mb1 := hmm mc (by simp)
    have mb2 := hmm mr (by simp)
    have amm : AllSm [.tuple mc, .tuple mr] := mall hmm
    have hb10 := hb
    have hbm11 : Bag K H11 Mo [.tuple mc, .tuple mr] := hbm
    have hbm : Bag K H11 Mo [.tuple mc, .tuple mr] := hbm
    have w11 := w11.mono (show m + 602 + 89 * ((2 : Nat) : Int) ≤ m + 780 by omega)
    have hb := hb.keep k11 w10.lst.choose_spec nBa am
    obtain ⟨zs, hz, hzs⟩ := id hb
    refine ⟨_, rfl, Bo, zs, rfl, .inl (SqL.of hz), fun Hd nH => ?_⟩
    have sH := same_upd (o := .lst zs) nH
    have nHa := w11.new nH
    have hbh : Bag K (upd H11 Hd (.lst zs)) Hd [.tuple ds0, .tuple ds1] := ⟨zs, upd_same, dpSA sH hzs⟩
    refine ⟨_, rfl, wl, 4, _, rfl, w11.same sH, by omega, by decide, by decide, fun r H12 r0 r1 b12 w12 => ⟨rfl, _, rfl, ite2 (fun c => ?_) (fun c => ?_)⟩⟩
    focus
      refine ⟨(by show 0 ≤ sizeLine; decide), fun t1 n1 => ⟨(by show 1 ≤ sizeLine; decide), fun t2 n2 => ⟨(by show 0 ≤ sizeLine; decide), fun t3 n3 => ⟨(by show 1 ≤ sizeLine; decide), fun t4 n4 => ⟨(by show 3 ≤ sizeLine; decide), fun t5 n5 => ⟨(by show 2 ≤ sizeLine; decide), fun t6 n6 => ⟨(by show 3 ≤ sizeLine; decide), fun t7 n7 => ?_⟩⟩⟩⟩⟩⟩⟩
      have u1 := same_upd (o := .tup []) n1
      have u2 := same_upd (o := .tup [.str "a"]) n2
      have u3 := same_upd (o := .tup []) n3
      have u4 := same_upd (o := .tup [.str "b"]) n4
      have u5 := same_upd (o := .tup [.ref t2, .ref t3, .ref t4]) n5
      have u6 := same_upd (o := .tup [.str "inherited", .ref t5]) n6
      have u7 := same_upd (o := .tup [.non, .ref t1, .ref t6]) n7
      have f1 := tupNew (K := K) (xs := []) (ds := []) n1 .nil
      have f2 := tupNew (K := K) (xs := [.str "a"]) (ds := [.str "a"]) n2 (.cons (.str _) .nil)
      have f3 := tupNew (K := K) (xs := []) (ds := []) n3 .nil
      have f4 := tupNew (K := K) (xs := [.str "b"]) (ds := [.str "b"]) n4 (.cons (.str _) .nil)
      have f5 := tupNew (K := K) (xs := [.ref t2, .ref t3, .ref t4]) (ds := [.tuple [.str "a"], .tuple [], .tuple [.str "b"]]) n5 (.cons (dpS ((u3.trans u4).trans u5) f2) (.cons (dpS (u4.trans u5) f3) (.cons (dpS u5 f4) .nil)))
      have f6 := tupNew (K := K) (xs := [.str "inherited", .ref t5]) (ds := [.str "inherited", .tuple [.tuple [.str "a"], .tuple [], .tuple [.str "b"]]]) n6 (.cons (.str _) (.cons (dpS u6 f5) .nil))
      have g1 := dpS (((((u2.trans u3).trans u4).trans u5).trans u6).trans u7) f1
      have g6 : Dp K _ (.ref t6) inhD := dpS u7 f6
      have u17 := (((((u1.trans u2).trans u3).trans u4).trans u5).trans u6).trans u7
      refine ⟨t7, [.non, .ref t1, .ref t6], rfl, SqT.of upd_same, rfl, ?_⟩
      clear f1 f2 f3 f4 f5 f6 u1 u2 u3 u4 u5 u6 u7
      generalize upd _ t7 (.tup [.non, .ref t1, .ref t6]) = G7 at g1 g6 u17 ⊢
      have hS7 : G7 S = some (.lst ([so0, so1].map sortV)) := u17 _ _ (b12.keep _ _ nSa (sH _ _ (k11 _ _ nSa (k10 _ _ nSa hS))))
      have hbo := ((hb.same sH).keep b12.keep (w11.same sH).lst.choose_spec nBa am).same u17
      have hbh := (hbh.keep b12.keep (w11.same sH).lst.choose_spec nHa am).same u17
      have hbm := ((hbm.same sH).keep b12.keep (w11.same sH).lst.choose_spec nMa amm).same u17
      obtain ⟨zo, hzo, hzos⟩ := hbo
      obtain ⟨zh, hzh, hzhs⟩ := hbh
      have lzo : zo.length = 2 := dpLen hzos
      have lzh : zh.length = 2 := dpLen hzhs
      have SB : S ≠ Bo := fun e => by
        rw [← e, hS] at nB
        cases nB
      have SH : S ≠ Hd := fun e => by
        rw [← e, k11 _ _ nSa (k10 _ _ nSa hS)] at nH
        cases nH
      have BH : Bo ≠ Hd := fun e => by
        rw [← e, hz] at nH
        cases nH
      refine ⟨_, _, rfl, _, rfl, S, _, 0, 0, rfl, rfl, hS7, rfl, _, _, rfl, _, rfl, Bo, zo, 0, 0, rfl, rfl, (by rw [upd_ne (Ne.symm SB)]; exact hzo), (by rw [lzo]; rfl), _, _, rfl, _, rfl, Hd, zh, 0, 0, rfl, rfl, (by rw [upd_ne (Ne.symm BH), upd_ne (Ne.symm SH)]; exact hzh), (by rw [lzh]; rfl), rfl, ?_⟩
      have am0 : AllSm [.tuple [], .tuple ds1] := fun d hd => by
        simp only [List.mem_cons, List.not_mem_nil, or_false] at hd
        rcases hd with rfl | rfl
        · rfl
        · exact tsm tt1
      have ax0 : AxP (none : Option Str).isSome inhD [] := .inr ⟨rfl, rfl, rfl⟩
      have amh : AllSm [inhD, .tuple ds1] := fun d hd => by
        simp only [List.mem_cons, List.not_mem_nil, or_false] at hd
        rcases hd with rfl | rfl
        · decide +kernel
        · exact tsm tt1
      -- S, Bo, Hd stored
      have kS := fun (o : HO) => Keep.upd (a := S) (o := o) (Keep.of (Same.refl G7))
      have hzos := dpKall (fun d v => dpK (K := K) (kS (.lst (([so0, so1].map sortV).set 0 .non))) hS7 20 d v) _ _ am hzos
      have hzhs := dpKall (fun d v => dpK (K := K) (kS (.lst (([so0, so1].map sortV).set 0 .non))) hS7 20 d v) _ _ am hzhs
      have g1 := dpK (K := K) (kS (.lst (([so0, so1].map sortV).set 0 .non))) hS7 20 _ _ (by rfl) g1
      have g6 := dpK (K := K) (kS (.lst (([so0, so1].map sortV).set 0 .non))) hS7 20 _ _ (amh _ (List.mem_cons_self ..)) g6
      have SM : Mo ≠ S := fun e => by
        rw [e, k10 _ _ nSa hS] at nM
        cases nM
      have hbm := hbm.keep (kS (.lst (([so0, so1].map sortV).set 0 .non))) hS7 SM amm
      have hS8 : upd G7 S (.lst (([so0, so1].map sortV).set 0 .non)) S = some (.lst ([none, so1].map sortV)) := upd_same
      have hB8 : upd G7 S (.lst (([so0, so1].map sortV).set 0 .non)) Bo = some (.lst zo) := by rw [upd_ne (Ne.symm SB)]; exact hzo
      have hH8 : upd G7 S (.lst (([so0, so1].map sortV).set 0 .non)) Hd = some (.lst zh) := by rw [upd_ne (Ne.symm SH)]; exact hzh
      have nB8 : H8 Bo = none := by
        cases e : H8 Bo with
        | none => rfl
        | some o =>
          rw [k9 _ _ nBa e] at nB
          cases nB
      have nH8 : H8 Hd = none := by
        cases e : H8 Hd with
        | none => rfl
        | some o =>
          rw [k11 _ _ nHa (k10 _ _ nHa (k9 _ _ nHa e))] at nH
          cases nH
      have kk := updK (o := .lst (([so0, so1].map sortV).set 0 .non)) (((((k9.trans k10).trans k11).trans (Keep.of sH)).trans b12.keep).trans (Keep.of u17)) nS
      have w13 := (w12.same u17).updNe (o := .lst (([so0, so1].map sortV).set 0 .non)) nSa
      generalize upd G7 S (.lst (([so0, so1].map sortV).set 0 .non)) = G8 at hzos hzhs g1 g6 hbm hS8 hB8 hH8 kk w13 ⊢
      -- Bo
      have kB := fun (o : HO) => Keep.upd (a := Bo) (o := o) (Keep.of (Same.refl G8))
      have MB : Mo ≠ Bo := fun e => by
        obtain ⟨_, q, _⟩ := hb10
        rw [e, q] at nM
        cases nM
      have hbo : Bag K (upd G8 Bo (.lst (zo.set 0 (.ref t1)))) Bo [.tuple [], .tuple ds1] := by
        match zo, hzos with
        | [_, _], .cons _ (.cons q _) => exact ⟨_, upd_same, .cons (dpK (K := K) (kB _) hB8 20 _ _ (by rfl) g1) (.cons (dpK (K := K) (kB _) hB8 20 _ _ (tsm tt1) q) .nil)⟩
      have hzhs := dpKall (fun d v => dpK (K := K) (kB (.lst (zo.set 0 (.ref t1)))) hB8 20 d v) _ _ am hzhs
      have g6 := dpK (K := K) (kB (.lst (zo.set 0 (.ref t1)))) hB8 20 _ _ (amh _ (List.mem_cons_self ..)) g6
      have hbm := hbm.keep (kB (.lst (zo.set 0 (.ref t1)))) hB8 MB amm
      have hS9 : upd G8 Bo (.lst (zo.set 0 (.ref t1))) S = some (.lst ([none, so1].map sortV)) := by rw [upd_ne SB]; exact hS8
      have hH9 : upd G8 Bo (.lst (zo.set 0 (.ref t1))) Hd = some (.lst zh) := by rw [upd_ne (Ne.symm BH)]; exact hH8
      have kk := updK (o := .lst (zo.set 0 (.ref t1))) kk nB8
      have w13 := w13.updNe (o := .lst (zo.set 0 (.ref t1))) nBa
      generalize upd G8 Bo (.lst (zo.set 0 (.ref t1))) = G9 at hbo hzhs g6 hbm hS9 hH9 kk w13 ⊢
      -- Hd
      have kH := fun (o : HO) => Keep.upd (a := Hd) (o := o) (Keep.of (Same.refl G9))
      have MH : Mo ≠ Hd := fun e => by
        obtain ⟨_, q, _⟩ := hbm11
        rw [e] at q
        rw [q] at nH
        cases nH
      have hbh : Bag K (upd G9 Hd (.lst (zh.set 0 (.ref t6)))) Hd [inhD, .tuple ds1] := by
        match zh, hzhs with
        | [_, _], .cons _ (.cons q _) => exact ⟨_, upd_same, .cons (dpK (K := K) (kH _) hH9 20 _ _ (amh _ (List.mem_cons_self ..)) g6) (.cons (dpK (K := K) (kH _) hH9 20 _ _ (tsm tt1) q) .nil)⟩
      have hbo := hbo.keep (kH (.lst (zh.set 0 (.ref t6)))) hH9 BH am0
      have hbm := hbm.keep (kH (.lst (zh.set 0 (.ref t6)))) hH9 MH amm
      have hS : upd G9 Hd (.lst (zh.set 0 (.ref t6))) S = some (.lst ([none, so1].map sortV)) := by rw [upd_ne SH]; exact hS9
      have kk := updK (o := .lst (zh.set 0 (.ref t6))) kk nH8
      have w13 := w13.updNe (o := .lst (zh.set 0 (.ref t6))) nHa
      generalize upd G9 Hd (.lst (zh.set 0 (.ref t6))) = G at hbo hbh hbm hS kk w13 ⊢
      have am := am0
      generalize (none : Option Str) = s0 at ax0 hS
      obtain ⟨e0, he0⟩ : ∃ e : List PyData, e = [] := ⟨_, rfl⟩
      have ax0 : AxP s0.isSome inhD e0 := by rw [he0]; exact ax0
      have hbo : Bag K G Bo [.tuple e0, .tuple ds1] := by rw [he0]; exact hbo
      have am : AllSm [.tuple e0, .tuple ds1] := by rw [he0]; exact am
      generalize inhD = d0 at ax0 hbh amh
      have w13 := w13.mono (show _ ≤ m + 790 by omega)
      clear hzos hzhs g1 g6 am0 hb hzs hz hb10 hbm11 hS9 hH9 hS8 hB8 hH8 hS7 hzo hzh
    rotate_left
    focus
      have hS := b12.keep _ _ nSa (sH _ _ (k11 _ _ nSa (k10 _ _ nSa hS)))
      have hbo := (hb.same sH).keep b12.keep (w11.same sH).lst.choose_spec nBa am
      have hbh := hbh.keep b12.keep (w11.same sH).lst.choose_spec nHa am
      have hbm := (hbm.same sH).keep b12.keep (w11.same sH).lst.choose_spec nMa amm
      have kk := (((k9.trans k10).trans k11).trans (Keep.of sH)).trans b12.keep
      have w13 := w12.mono (show _ ≤ m + 790 by omega)
      have ax0 : AxP so0.isSome (.tuple ds0) ds0 := .inl ⟨rfl, tt0⟩
      have amh := am
      generalize so0 = s0 at ax0 hS
      generalize hd0 : PyData.tuple ds0 = d0 at ax0 hbh amh
      rw [hd0] at hbo am
      rw [← hd0] at hbo am
      generalize ds0 = e0 at ax0 hbo am
      generalize H12 = G at hbo hbh hbm hS kk w13 ⊢
    all_goals
      have ax1 : AxP so1.isSome (.tuple ds1) ds1 := .inl ⟨rfl, tt1⟩
      obtain ⟨zh, hzh, hzhs⟩ := hbh
      obtain ⟨h0, h1, rfl, c0, c1⟩ : ∃ h0 h1, zh = [h0, h1] ∧ Dp K G h0 d0 ∧ Dp K G h1 (.tuple ds1) := by
        match zh, hzhs with
        | [_, _], .cons p (.cons q _) => exact ⟨_, _, rfl, p, q⟩
      refine ⟨_, rfl, Hd, _, _, h0, rfl, rfl, SqL.of hzh, atI_nat (j := 0) rfl, _, rfl, Hd, _, _, h1, rfl, rfl, SqL.of hzh, atI_nat (j := 1) rfl, ?_⟩
      refine ⟨_, rfl, wl, _, rfl, w13, by omega, fun y rows H14 k14 w14 e okf => ?_⟩
      have c0 := dpK (K := K) k14 w13.lst.choose_spec 20 _ _ (amh d0 (List.mem_cons_self ..)) c0
      have c1 := dpK (K := K) k14 w13.lst.choose_spec 20 _ _ (tsm tt1) c1
      have hS := k14 _ _ nSa hS
      have hbo := hbo.keep k14 w13.lst.choose_spec nBa am
      obtain ⟨zm, hzm, hzms⟩ := hbm.keep k14 w13.lst.choose_spec nMa amm
      obtain ⟨a0, a1, rfl, c3, c4⟩ : ∃ h0 h1, zm = [h0, h1] ∧ Dp K H14 h0 (.tuple mc) ∧ Dp K H14 h1 (.tuple mr) := by
        match zm, hzms with
        | [_, _], .cons p (.cons q _) => exact ⟨_, _, rfl, p, q⟩
      refine ⟨_, rfl, Mo, _, _, a0, rfl, rfl, SqL.of hzm, atI_nat (j := 0) rfl, _, rfl, Mo, _, _, a1, rfl, rfl, SqL.of hzm, atI_nat (j := 1) rfl, rfl, rfl, fun xw dw nx ndx ne => ?_⟩
      have hx : DpAll K H14 [h0, h1, y, a0, a1, .str "row", .bl false, .int 0, .int 0, .str "stretch", .str "stretch", .str "stretch", .str "stretch"] (lawG d0 (.tuple ds1) rows mc mr).ds := .cons c0 (.cons c1 (.cons e (.cons c3 (.cons c4 dfl_tail))))
      have s2n : Same H14 (upd (upd H14 dw (.own xw)) xw (.ins C dw [])) := (same_upd ndx).trans (same_upd (by rw [upd_ne (Ne.symm ne)]; exact nx))
      have gsm := lawG_sm ax0.d ax1.d okf.2.1 mb1 mb2
      refine ⟨xw, dw, _, lawG d0 (.tuple ds1) rows mc mr, rfl, upd_same, dpSA s2n hx, lawG_ok ax0.d ax1.d okf.1 mb1 mb2, fun H15 k15 e15 => ⟨rfl, ?_⟩⟩
      obtain ⟨s15, hg⟩ := grid_new nx ndx ne hx gsm k15 e15
      refine ⟨(by show 2 ≤ sizeLine; decide), fun p np => ⟨p, [.str "column", .str "row"], rfl, SqT.of upd_same, ?_⟩⟩
      have sp := same_upd (o := .tup [.str "column", .str "row"]) np
      have hp : upd H15 p (.tup [.str "column", .str "row"]) p = some (.tup [.str "column", .str "row"]) := upd_same
      have hg := hg.same sp
      have hS := (s15.trans sp) _ _ hS
      have hbo := hbo.same (s15.trans sp)
      have w15 := w14.same (s15.trans sp)
      have kk := (kk.trans k14).trans (Keep.of (s15.trans sp))
      generalize upd H15 p (.tup [.str "column", .str "row"]) = HG at hp hg hS hbo w15 kk ⊢
      have w15 := w15.mono (show _ ≤ m + 800 by omega)
      refine for_enumT (K := K) (a := p) (xs := [.str "column", .str "row"]) (fun q σ H' => Keep wl HG H' ∧ Wl H' wl (m + 800 + 3 * (q : Int)) ∧ ∃ v4 v6 v8 v10 v13 v14, σ = [some (.ref a), some (.ref x), some (.int (0 + (i : Int))), some (.ref wl), v4, some (.ref S), v6, some (.ref Bo), v8, some (.ref Mo), v10, some (.ref Hd), some (.ref xw), v13, v14])
        ⟨Keep.of (Same.refl _), w15.mono (by omega), _, _, _, _, _, _, rfl⟩ (fun q σ H' _ h => seqT_keep h.1 w15.lst.choose_spec (SqT.of hp)) ?_ ?_
      · rintro q yq TT σ H16 hq ⟨k16, w16, v4, v6, v8, v10, v13, v14, rfl⟩ nT
        refine ⟨TT, _, rfl, SqT.of upd_same, rfl, _, _, rfl, _, _, rfl, rfl, ?_⟩
        have sT := same_upd (o := .tup [.int (q : Nat), yq]) nT
        obtain ⟨zo, hzo, hzos⟩ := hbo.keep k16 w15.lst.choose_spec nBa am
        obtain ⟨b0, b1, rfl, cb0, cb1⟩ : ∃ h0 h1, zo = [h0, h1] ∧ Dp K H16 h0 (.tuple e0) ∧ Dp K H16 h1 (.tuple ds1) := by
          match zo, hzos with
          | [_, _], .cons p (.cons q _) => exact ⟨_, _, rfl, p, q⟩
        have hS16 := k16 _ _ nSa hS
        have hg16 := hg.keep k16 w15.lst.choose_spec gsm
        obtain ⟨col, so, es, vb, rfl, iso, ivb, cvb, hax, q2⟩ : ∃ (col : Bool) (so : Option Str) (es : List PyData) (vb : V), yq = .str (axS col) ∧ ([s0, so1].map sortV)[q]? = some (sortV so) ∧ ([b0, b1] : List V)[q]? = some vb ∧ Dp K H16 vb (.tuple es) ∧ AxP so.isSome (askedT (lawG d0 (.tuple ds1) rows mc mr) col) es ∧ q < 2 := by
          match q, hq with
          | 0, hq =>
            cases hq
            exact ⟨true, s0, e0, b0, rfl, rfl, rfl, cb0, ax0, by decide⟩
          | 1, hq =>
            cases hq
            exact ⟨false, so1, ds1, b1, rfl, rfl, rfl, cb1, ax1, by decide⟩
          | _ + 2, hq => exact nomatch hq
        have w17 := w16.same sT
        refine ⟨_, rfl, wl, 3, _, rfl, w17, by omega, by decide, by decide, fun r18 H18 r0 r1 b18 w18 => ?_⟩
        have hS18 := b18.keep _ _ nSa (sT _ _ hS16)
        refine ⟨_, rfl, _, rfl, S, _, _, sortV so, rfl, rfl, SqL.of hS18, atI_nat iso, .inr ⟨_, rfl, _, _, rfl, rfl, ?_⟩⟩
        obtain ⟨n, hn, hn3, hn1⟩ : ∃ n : Nat, (r18 + if (!decide (sortV so = .non)) = true then 1 else 0) = (n : Int) ∧ n ≤ 3 ∧ (so.isSome = true → 1 ≤ n) := by
          obtain ⟨rn, rfl⟩ := Int.eq_ofNat_of_zero_le r0
          cases so with
          | none => exact ⟨rn, by show (rn : Int) + 0 = _; omega, by omega, fun h => nomatch h⟩
          | some z => exact ⟨rn + 1, by show (rn : Int) + 1 = _; omega, by omega, fun _ => by omega⟩
        refine gn_eq (y := V.int (n : Int)) (congrArg V.int hn) ?_
        have hw20 : wideOf rows col ≤ 20 := by
          cases col with
          | false => exact okf.2.2.1
          | true =>
            cases rows with
            | nil => exact Nat.zero_le _
            | cons bs rest => exact okf.2.2.2 bs (List.mem_cons_self ..)
        obtain ⟨gc, gsh, gam⟩ := gc_of (G := lawG d0 (.tuple ds1) rows mc mr) (col := col) hax hn3 hn1 hw20
        have hne : moreT (lawG d0 (.tuple ds1) rows mc mr) col ≠ [] := by
          cases col with
          | true => exact fun e => absurd mb1.1.1 (by rw [show mc = [] from e]; decide)
          | false => exact fun e => absurd mb2.1.1 (by rw [show mr = [] from e]; decide)
        have hg18 := (hg16.same sT).keep b18.keep w17.lst.choose_spec gsm
        have hbo18 := (show Bag K H16 Bo _ from ⟨_, hzo, .cons cb0 (.cons cb1 .nil)⟩).same sT |>.keep b18.keep w17.lst.choose_spec nBa am
        have hzo18 := b18.keep _ _ nBa (sT _ _ hzo)
        have esm : smN 20 (.tuple es) = true := by
          rcases hax with ⟨_, tt⟩ | ⟨_, rfl, _⟩
          · exact tsm tt
          · rfl
        have cvb := dpK (K := K) b18.keep w17.lst.choose_spec 20 _ _ esm (dpS sT cvb)
        refine ⟨_, rfl, _, rfl, _, rfl, _, rfl, _, rfl, Bo, _, _, vb, rfl, rfl, SqL.of hzo18, atI_nat ivb, _, rfl, wl, _, xw, _, lawG d0 (.tuple ds1) rows mc mr, col, vb, es, n, rfl, w18, by omega, hg18, gc, gsh, cvb, hn3, hne, gam, gsm, fun H19 k19 w19 => ⟨true, rfl, iteF ?_⟩⟩
        exact ⟨((k16.trans (Keep.of sT)).trans b18.keep).trans k19, w19.mono (by omega), _, _, _, _, _, _, rfl⟩
      · rintro σ H16 ⟨k16, w16, v4, v6, v8, v10, v13, v14, rfl⟩
        rw [hmt]
        refine ⟨k8.trans (kk.trans k16), w16.mono (show m + 800 + 3 * ((2 : Nat) : Int) ≤ m + 1000 by omega), _, _, _, _, _, _, _, _, _, _, _, rfl⟩
end
end K5

set_option Elab.async false
set_option linter.all false
set_option maxRecDepth 100000
set_option maxHeartbeats 4000000
namespace K5
open PySem PySem.Spec PyProof.Rows L2
open K1 (FnP top Nm wm)
abbrev ga := He.ga
abbrev ma := He.ma
/-! ### what the top has written -/
def tupA (K : PySem.W.Frag) (a : Addr) (vs : List V) : Bool := match K.lookup a with
  | some ⟨.type c, _, .seq its _, _⟩ => decide (c = "tuple") && (decide (its.size ≤ sizeLine) && He.relAll vs its.toList)
  | _ => false
theorem tupA_ok {K : PySem.W.Frag} {a : Addr} {vs : List V} (h : tupA K a vs = true) (H : Hp) : SqT K H a vs := by
  unfold tupA at h
  split at h
  · rename_i c _ its n _ q
    obtain ⟨h1, h2⟩ := ba h
    obtain ⟨h3, h4⟩ := ba h2
    exact .inr ⟨_, its, n, q, congrArg Value.type (of_decide_eq_true h1), rfl, of_decide_eq_true h3, He.relAll_ok h4⟩
  · exact nomatch h
/-- a keyword-only default that is an object -/
def kwdAt (f : Str × Option Str) (x : Str) (K : PySem.W.Frag) : Addr := match K.lookup (He.fAd K f) with
  | some ⟨_, _, .func fd, _⟩ => (match fd.kwdefaults with
    | .ref D => (match PySem.W.nsIn K D x with
      | some (some (.ref a)) => a
      | _ => 0)
    | _ => 0)
  | _ => 0
def gI : Str × Option Str := ("Grid", some "__init__")
abbrev aE0 := He.dflAt gI 0
abbrev aE1 := He.dflAt gI 1
abbrev aE2 := kwdAt gI "fields"
abbrev aT3 := kwdAt gI "more_columns"
abbrev aT4 := kwdAt gI "more_rows"
def dvStrs (l : List Str) : List He.Dv := l.map He.Dv.str
def clsB (K : PySem.W.Frag) (x : Str) : Bool := decide (PySem.W.findIn K (.ref (ga K x)) "__ne__" = some (some (.builtin "object.__ne__"))) && (decide (PySem.W.findIn K (.ref (ga K x)) "__class__" = some (some (.builtin "object.__class__"))) && (decide (PySem.W.mroIn K (ga K x) (.type "object") = some true) &&
  (decide (PySem.W.kitOne K (.ref (ga K x)) (.ref (ga K x)) = some true) && PySem.W.notFirst K (ga K x) (.ref (ga K x)))))
def momB (K : PySem.W.Frag) : Bool := ["NoneType", "bool", "int", "str", "list", "tuple", "dict"].all fun t => decide (PySem.W.kitOne K (.type t) (.ref (ga K "Moment")) = some false)
theorem momB_ok {K : PySem.W.Frag} (h : momB K = true) (d : PyData) : PySem.W.kitOne K (.type (tyN d)) (.ref (ga K "Moment")) = some false := by
  have h := List.all_eq_true.mp h
  cases d <;> exact of_decide_eq_true (h _ (by simp [tyN]))
def exB0 (K : PySem.W.Frag) : Bool := clsB K "Grid" && (decide (PySem.W.specialIn K (.builtin "object.__class__") "__get__" = some (some (.builtin "getset_descriptor.__get__"))) && (decide (PySem.W.takesIn K (.builtin "object.__class__") = some true) &&
  (decide (PySem.W.kitOne K (.type "list") (.ref (ga K "Grid")) = some false) && (PySem.W.notFirst K (ga K "Grid") (.type "list") && (He.eqO (PySem.W.nsIn K mainGlobals "gcd") (some (some (.builtin "math.gcd"))) &&
  (He.tupB K "SIZE_WORDS" (dvStrs sizeWords) && (He.tupB K "FLOWS" (dvStrs flows) && (He.tupB K "LANES_WAYS" (dvStrs lanesWays) && (He.tupB K "WAYS_ACROSS" (dvStrs waysAcross) && (He.tupB K "WAYS_DOWN" (dvStrs waysDown) && (He.tupB K "AXES" (dvStrs ["column", "row"]) &&
  (tupA K (aE0 K) [] && (tupA K (aE1 K) [] && (tupA K (aE2 K) [] && (tupA K (aT3 K) [.str "auto"] && tupA K (aT4 K) [.str "auto"])))))))))))))))
def exB (K : PySem.W.Frag) : Bool := momB K && exB0 K
theorem dvStrs_v {K : PySem.W.Frag} : ∀ l : List Str, (dvStrs l).map (He.Dv.v K) = l.map V.str
  | [] => rfl
  | x :: l => congrArg (V.str x :: ·) (dvStrs_v l)
theorem tupS {K : PySem.W.Frag} {x : Str} {l : List Str} (h : He.tupB K x (dvStrs l) = true) (H : Hp) : SqT K H (ga K x) (l.map V.str) := by
  have := He.tupB_ok h H
  rw [dvStrs_v] at this
  exact this
abbrev AlP : Type := He.AlD × Bool
def obsPG (n : Nat) (fa : List He.Fa) (fn : List He.DefD) (ex : PySem.W.Frag → Bool) (g : Addr → Option Obj) : AlP := (He.obsD fa fn (He.frG g (List.range n)), ex (He.frG g (List.range n)))
def hookP (n : Nat) (fa : List He.Fa) (fn : List He.DefD) (ex : PySem.W.Frag → Bool) : PySem.W.Hook where
  α := AlP
  obs := fun s => obsPG n fa fn ex s.heap.get?
  val := fun _ => (He.valD fn, true)
  says := fun _ h => ∃ K : PySem.W.Frag, K.In h ∧ He.SaysD fa fn K ∧ ex K = true
  of := fun _ _ e => ⟨_, He.frG_in, congrArg (fun z : AlP => z.1) e, congrArg (fun z : AlP => z.2) e⟩
  keeps := fun _ _ _ ⟨K, hK, c⟩ k => ⟨K, PySem.W.Frag.In.keeps hK k, c⟩
theorem obsPG_eq {n : Nat} {fa : List He.Fa} {fn : List He.DefD} {ex : PySem.W.Frag → Bool} {g : Addr → Option Obj} {s : Shared} (h : ∀ a, g a = s.heap.get? a) : obsPG n fa fn ex g = (hookP n fa fn ex).obs s := by
  have e : g = s.heap.get? := funext h
  rw [e] <;> rfl


def D_is_integer : He.DefD := ⟨("is_integer", none), "is_integer", "is_integer", defArgs (top 26), defBody (top 26), defScope (top 26), [], []⟩
def D_is_number : He.DefD := ⟨("is_number", none), "is_number", "is_number", defArgs (top 27), defBody (top 27), defScope (top 27), [], []⟩
def D_fraction_of : He.DefD := ⟨("fraction_of", none), "fraction_of", "fraction_of", defArgs (top 29), defBody (top 29), defScope (top 29), [], []⟩
def D_is_moving : He.DefD := ⟨("is_moving", none), "is_moving", "is_moving", defArgs (top 31), defBody (top 31), defScope (top 31), [], []⟩
def D_at_most : He.DefD := ⟨("at_most", none), "at_most", "at_most", defArgs (top 37), defBody (top 37), defScope (top 37), [], []⟩
def D_is_length : He.DefD := ⟨("is_length", none), "is_length", "is_length", defArgs (top 28), defBody (top 28), defScope (top 28), [], []⟩
def D_is_word : He.DefD := ⟨("is_word", none), "is_word", "is_word", defArgs (top 11), defBody (top 11), defScope (top 11), [], []⟩
def D_is_marked : He.DefD := ⟨("is_marked", none), "is_marked", "is_marked", defArgs (top 12), defBody (top 12), defScope (top 12), [], []⟩
def D_is_part : He.DefD := ⟨("is_part", none), "is_part", "is_part", defArgs (top 43), defBody (top 43), defScope (top 43), [], []⟩
def D_is_share : He.DefD := ⟨("is_share", none), "is_share", "is_share", defArgs (top 44), defBody (top 44), defScope (top 44), [], []⟩
def D_is_fixed : He.DefD := ⟨("is_fixed", none), "is_fixed", "is_fixed", defArgs (top 45), defBody (top 45), defScope (top 45), [], []⟩
def D_is_plain_size : He.DefD := ⟨("is_plain_size", none), "is_plain_size", "is_plain_size", defArgs (top 46), defBody (top 46), defScope (top 46), [], []⟩
def D_is_upto : He.DefD := ⟨("is_upto", none), "is_upto", "is_upto", defArgs (top 48), defBody (top 48), defScope (top 48), [], []⟩
def D_is_between : He.DefD := ⟨("is_between", none), "is_between", "is_between", defArgs (top 47), defBody (top 47), defScope (top 47), [], []⟩
def D_is_size : He.DefD := ⟨("is_size", none), "is_size", "is_size", defArgs (top 49), defBody (top 49), defScope (top 49), [], []⟩
def D_is_name : He.DefD := ⟨("is_name", none), "is_name", "is_name", defArgs (top 13), defBody (top 13), defScope (top 13), [], []⟩
def D_are_names : He.DefD := ⟨("are_names", none), "are_names", "are_names", defArgs (top 14), defBody (top 14), defScope (top 14), [], []⟩
def D_is_names_entry : He.DefD := ⟨("is_names_entry", none), "is_names_entry", "is_names_entry", defArgs (top 52), defBody (top 52), defScope (top 52), [], []⟩
def D_are_inner_entries : He.DefD := ⟨("are_inner_entries", none), "are_inner_entries", "are_inner_entries", defArgs (top 53), defBody (top 53), defScope (top 53), [], []⟩
def D_is_repeat : He.DefD := ⟨("is_repeat", none), "is_repeat", "is_repeat", defArgs (top 54), defBody (top 54), defScope (top 54), [], []⟩
def D_is_filler : He.DefD := ⟨("is_filler", none), "is_filler", "is_filler", defArgs (top 55), defBody (top 55), defScope (top 55), [], []⟩
def D_is_entry : He.DefD := ⟨("is_entry", none), "is_entry", "is_entry", defArgs (top 56), defBody (top 56), defScope (top 56), [], []⟩
def D_low_of : He.DefD := ⟨("low_of", none), "low_of", "low_of", defArgs (top 50), defBody (top 50), defScope (top 50), [], []⟩
def D_high_of : He.DefD := ⟨("high_of", none), "high_of", "high_of", defArgs (top 51), defBody (top 51), defScope (top 51), [], []⟩
def D_may_be_filled : He.DefD := ⟨("may_be_filled", none), "may_be_filled", "may_be_filled", defArgs (top 58), defBody (top 58), defScope (top 58), [], []⟩
def D_is_inherited : He.DefD := ⟨("is_inherited", none), "is_inherited", "is_inherited", defArgs (top 60), defBody (top 60), defScope (top 60), [], []⟩
def D_sizes_in : He.DefD := ⟨("sizes_in", none), "sizes_in", "sizes_in", defArgs (top 57), defBody (top 57), defScope (top 57), [], []⟩
def D_are_entries : He.DefD := ⟨("are_entries", none), "are_entries", "are_entries", defArgs (top 59), defBody (top 59), defScope (top 59), [], []⟩
def D_is_template : He.DefD := ⟨("is_template", none), "is_template", "is_template", defArgs (top 61), defBody (top 61), defScope (top 61), [], []⟩
def D_is_field_word : He.DefD := ⟨("is_field_word", none), "is_field_word", "is_field_word", defArgs (top 19), defBody (top 19), defScope (top 19), [], []⟩
def D_is_field_row : He.DefD := ⟨("is_field_row", none), "is_field_row", "is_field_row", defArgs (top 20), defBody (top 20), defScope (top 20), [], []⟩
def D_field_cells : He.DefD := ⟨("field_cells", none), "field_cells", "field_cells", defArgs (top 21), defBody (top 21), defScope (top 21), [], []⟩
def D_is_rectangle : He.DefD := ⟨("is_rectangle", none), "is_rectangle", "is_rectangle", defArgs (top 22), defBody (top 22), defScope (top 22), [], []⟩
def D_wrong_field_row : He.DefD := ⟨("wrong_field_row", none), "wrong_field_row", "wrong_field_row", defArgs (top 23), defBody (top 23), defScope (top 23), [], []⟩
def D_check_grid : He.DefD := ⟨("check_grid", none), "check_grid", "check_grid", defArgs (top 69), defBody (top 69), defScope (top 69), [], []⟩
def D_check_fields : He.DefD := ⟨("check_fields", none), "check_fields", "check_fields", defArgs (top 70), defBody (top 70), defScope (top 70), [], []⟩
def D_check_further_sizes : He.DefD := ⟨("check_further_sizes", none), "check_further_sizes", "check_further_sizes", defArgs (top 71), defBody (top 71), defScope (top 71), [], []⟩
def D_check_axis : He.DefD := ⟨("check_axis", none), "check_axis", "check_axis", defArgs (top 75), defBody (top 75), defScope (top 75), [], []⟩
def D_check_grid_axis : He.DefD := ⟨("check_grid_axis", none), "check_grid_axis", "check_grid_axis", defArgs (top 76), defBody (top 76), defScope (top 76), [], []⟩
def D_check_lanes : He.DefD := ⟨("check_lanes", none), "check_lanes", "check_lanes", defArgs (top 77), defBody (top 77), defScope (top 77), [], []⟩
def D_asked_template : He.DefD := ⟨("asked_template", none), "asked_template", "asked_template", defArgs (top 78), defBody (top 78), defScope (top 78), [], []⟩
def D_inherits : He.DefD := ⟨("inherits", none), "inherits", "inherits", defArgs (top 79), defBody (top 79), defScope (top 79), [], []⟩
def D_template_of : He.DefD := ⟨("template_of", none), "template_of", "template_of", defArgs (top 80), defBody (top 80), defScope (top 80), [], []⟩
def D_further_sizes : He.DefD := ⟨("further_sizes", none), "further_sizes", "further_sizes", defArgs (top 81), defBody (top 81), defScope (top 81), [], []⟩
def D_field_lanes : He.DefD := ⟨("field_lanes", none), "field_lanes", "field_lanes", defArgs (top 82), defBody (top 82), defScope (top 82), [], []⟩
def D_is_names : He.DefD := ⟨("is_names", none), "is_names", "is_names", defArgs (top 84), defBody (top 84), defScope (top 84), [], []⟩
def D_is_fill : He.DefD := ⟨("is_fill", none), "is_fill", "is_fill", defArgs (top 85), defBody (top 85), defScope (top 85), [], []⟩
def D_filler_of : He.DefD := ⟨("filler_of", none), "filler_of", "filler_of", defArgs (top 86), defBody (top 86), defScope (top 86), [], []⟩
def D_inner_sizes : He.DefD := ⟨("inner_sizes", none), "inner_sizes", "inner_sizes", defArgs (top 87), defBody (top 87), defScope (top 87), [], []⟩
def D_written_entries : He.DefD := ⟨("written_entries", none), "written_entries", "written_entries", defArgs (top 88), defBody (top 88), defScope (top 88), [], []⟩
def D_written_sizes : He.DefD := ⟨("written_sizes", none), "written_sizes", "written_sizes", defArgs (top 89), defBody (top 89), defScope (top 89), [], []⟩
def D_filled_lanes : He.DefD := ⟨("filled_lanes", none), "filled_lanes", "filled_lanes", defArgs (top 90), defBody (top 90), defScope (top 90), [], []⟩
def D_told_lanes : He.DefD := ⟨("told_lanes", none), "told_lanes", "told_lanes", defArgs (top 91), defBody (top 91), defScope (top 91), [], []⟩
def D_further_size : He.DefD := ⟨("further_size", none), "further_size", "further_size", defArgs (top 94), defBody (top 94), defScope (top 94), [], []⟩
def D_sizes_between : He.DefD := ⟨("sizes_between", none), "sizes_between", "sizes_between", defArgs (top 95), defBody (top 95), defScope (top 95), [], []⟩
def D_check_repeats : He.DefD := ⟨("check_repeats", none), "check_repeats", "check_repeats", defArgs (top 93), defBody (top 93), defScope (top 93), [], []⟩
def D_template_sizes : He.DefD := ⟨("template_sizes", none), "template_sizes", "template_sizes", defArgs (top 96), defBody (top 96), defScope (top 96), [], []⟩
def D_lane_count : He.DefD := ⟨("lane_count", none), "lane_count", "lane_count", defArgs (top 97), defBody (top 97), defScope (top 97), [], []⟩
def D_lane_sizes : He.DefD := ⟨("lane_sizes", none), "lane_sizes", "lane_sizes", defArgs (top 98), defBody (top 98), defScope (top 98), [], []⟩
def D__law_mix : He.DefD := ⟨("_law_mix", none), "_law_mix", "_law_mix", defArgs (top 100), defBody (top 100), defScope (top 100), [], []⟩
def D__law_draw : He.DefD := ⟨("_law_draw", none), "_law_draw", "_law_draw", defArgs (top 102), defBody (top 102), defScope (top 102), [], []⟩
def D__law_source : He.DefD := ⟨("_law_source", none), "_law_source", "_law_source", defArgs (top 101), defBody (top 101), defScope (top 101), [], []⟩
def D__law_one : He.DefD := ⟨("_law_one", none), "_law_one", "_law_one", defArgs (top 103), defBody (top 103), defScope (top 103), [], []⟩
def D__law_num : He.DefD := ⟨("_law_num", none), "_law_num", "_law_num", defArgs (top 104), defBody (top 104), defScope (top 104), [], []⟩
def D__law_length : He.DefD := ⟨("_law_length", none), "_law_length", "_law_length", defArgs (top 106), defBody (top 106), defScope (top 106), [], []⟩
def D__law_fixed : He.DefD := ⟨("_law_fixed", none), "_law_fixed", "_law_fixed", defArgs (top 107), defBody (top 107), defScope (top 107), [], []⟩
def D__law_counted_size : He.DefD := ⟨("_law_counted_size", none), "_law_counted_size", "_law_counted_size", defArgs (top 108), defBody (top 108), defScope (top 108), [], []⟩
def D__law_any_size : He.DefD := ⟨("_law_any_size", none), "_law_any_size", "_law_any_size", defArgs (top 109), defBody (top 109), defScope (top 109), [], []⟩
def D__law_plain : He.DefD := ⟨("_law_plain", none), "_law_plain", "_law_plain", defArgs (top 110), defBody (top 110), defScope (top 110), [], []⟩
def D__law_template : He.DefD := ⟨("_law_template", none), "_law_template", "_law_template", defArgs (top 111), defBody (top 111), defScope (top 111), [], []⟩
def D__law_written : He.DefD := ⟨("_law_written", none), "_law_written", "_law_written", defArgs (top 112), defBody (top 112), defScope (top 112), [], []⟩
def D__law_fields : He.DefD := ⟨("_law_fields", none), "_law_fields", "_law_fields", defArgs (top 114), defBody (top 114), defScope (top 114), [], []⟩
def D__law_right : He.DefD := ⟨("_law_right", none), "_law_right", "_law_right", defArgs (top 113), defBody (top 113), defScope (top 113), [], []⟩
def D_law : He.DefD := ⟨("law", none), "law", "law", defArgs (top 115), defBody (top 115), defScope (top 115), [], []⟩
def D_Grid__init__ : He.DefD := ⟨gI, "__init__", "Grid.__init__", defArgs (inClass (top 68) 0), defBody (inClass (top 68) 0), defScope (inClass (top 68) 0), [.adr aE0, .adr aE1], [("fields", .adr aE2), ("more_columns", .adr aT3), ("more_rows", .adr aT4), ("flow", .str "row"), ("dense", .bl false), ("column_gap", .int 0), ("row_gap", .int 0), ("justify", .str "stretch"), ("align", .str "stretch"), ("items_justify", .str "stretch"), ("items_align", .str "stretch")]⟩
def D_Grid__eq__ : He.DefD := ⟨("Grid", some "__eq__"), "__eq__", "Grid.__eq__", defArgs (inClass (top 68) 1), defBody (inClass (top 68) 1), defScope (inClass (top 68) 1), [], []⟩
def fn : List He.DefD := [D_is_integer, D_is_number, D_fraction_of, D_is_moving, D_at_most, D_is_length, D_is_word, D_is_marked, D_is_part, D_is_share, D_is_fixed, D_is_plain_size, D_is_upto, D_is_between, D_is_size, D_is_name, D_are_names, D_is_names_entry, D_are_inner_entries, D_is_repeat, D_is_filler, D_is_entry, D_low_of, D_high_of, D_may_be_filled, D_is_inherited, D_sizes_in, D_are_entries, D_is_template, D_is_field_word, D_is_field_row, D_field_cells, D_is_rectangle, D_wrong_field_row, D_check_grid, D_check_fields, D_check_further_sizes, D_check_axis, D_check_grid_axis, D_check_lanes, D_asked_template, D_inherits, D_template_of, D_further_sizes, D_field_lanes, D_is_names, D_is_fill, D_filler_of, D_inner_sizes, D_written_entries, D_written_sizes, D_filled_lanes, D_told_lanes, D_further_size, D_sizes_between, D_check_repeats, D_template_sizes, D_lane_count, D_lane_sizes, D__law_mix, D__law_draw, D__law_source, D__law_one, D__law_num, D__law_length, D__law_fixed, D__law_counted_size, D__law_any_size, D__law_plain, D__law_template, D__law_written, D__law_fields, D__law_right, D_law, D_Grid__init__, D_Grid__eq__]
theorem K1b4 {K : PySem.W.Frag} {x p q r t : Str} {i : Nat} {f : Addr} {fd : FuncData} (F : FnP K x (top i) f fd) (h : ∀ (kV doc pm : Value) (an : Option Addr) (cdv ct : Value) (u v z y : Value), bindArgs (PySem.W.fnOf x x (defArgs (top i)) (defBody (top i)) (defScope (top i)) .none kV doc pm an cdv ct) ⟨[u, v, z, y], []⟩ = pure [(p, u), (q, v), (r, z), (t, y)] := by intros; rfl) : Binds K fd [p, q, r, t] [] := F.bindsN fun _ _ _ _ _ _ us hl => match us, hl with | [_, _, _, _], _ => h _ _ _ _ _ _ _ _ _ _
theorem K1b5 {K : PySem.W.Frag} {x p q r t l : Str} {i : Nat} {f : Addr} {fd : FuncData} (F : FnP K x (top i) f fd) (h : ∀ (kV doc pm : Value) (an : Option Addr) (cdv ct : Value) (u v z y o : Value), bindArgs (PySem.W.fnOf x x (defArgs (top i)) (defBody (top i)) (defScope (top i)) .none kV doc pm an cdv ct) ⟨[u, v, z, y, o], []⟩ = pure [(p, u), (q, v), (r, z), (t, y), (l, o)] := by intros; rfl) : Binds K fd [p, q, r, t, l] [] := F.bindsN fun _ _ _ _ _ _ us hl => match us, hl with | [_, _, _, _, _], _ => h _ _ _ _ _ _ _ _ _ _ _
theorem kbR3 {K : PySem.W.Frag} {x p q r : Str} {i : Nat} {f : Addr} {fd : FuncData} (F : FnP K x (top i) f fd) (h : ∀ (kV doc pm : Value) (an : Option Addr) (cdv ct : Value) (u v z : Value), bindArgs (PySem.W.fnOf x x (defArgs (top i)) (defBody (top i)) (defScope (top i)) .none kV doc pm an cdv ct) ⟨[], [(r, u), (q, v), (p, z)]⟩ = pure [(p, z), (q, v), (r, u)] := by intros; rfl) : KBn K fd [p, q, r] 0 [r, q, p] kbG kbV := by
  obtain ⟨oc, od, dV, kV, doc, pm, an, cdv, ct, osl, rfl, lk, hcd, hD, hK⟩ := F.ex
  rcases hD with ⟨_, rfl⟩ | ⟨e, _⟩
  · refine ⟨fun s us ws X l1 l2 => ?_, fun r1 r2 => r1.append (Vals.reverse r2)⟩
    match us, l1, ws, l2 with
    | [], _, [u, v, z], _ => exact .of_eq (h kV doc pm an cdv ct u v z)
  · exact absurd rfl e
theorem kbR5 {K : PySem.W.Frag} {x p q r t l : Str} {i : Nat} {f : Addr} {fd : FuncData} (F : FnP K x (top i) f fd) (h : ∀ (kV doc pm : Value) (an : Option Addr) (cdv ct : Value) (u v z y o : Value), bindArgs (PySem.W.fnOf x x (defArgs (top i)) (defBody (top i)) (defScope (top i)) .none kV doc pm an cdv ct) ⟨[], [(l, u), (t, v), (r, z), (q, y), (p, o)]⟩ = pure [(p, o), (q, y), (r, z), (t, v), (l, u)] := by intros; rfl) : KBn K fd [p, q, r, t, l] 0 [l, t, r, q, p] kbG kbV := by
  obtain ⟨oc, od, dV, kV, doc, pm, an, cdv, ct, osl, rfl, lk, hcd, hD, hK⟩ := F.ex
  rcases hD with ⟨_, rfl⟩ | ⟨e, _⟩
  · refine ⟨fun s us ws X l1 l2 => ?_, fun r1 r2 => r1.append (Vals.reverse r2)⟩
    match us, l1, ws, l2 with
    | [], _, [u, v, z, y, o], _ => exact .of_eq (h kV doc pm an cdv ct u v z y o)
  · exact absurd rfl e

theorem K1b1 {K : PySem.W.Frag} {x p : Str} {i : Nat} {f : Addr} {fd : FuncData} (F : FnP K x (top i) f fd) (h : ∀ (kV doc pm : Value) (an : Option Addr) (cdv ct : Value) (u : Value), bindArgs (PySem.W.fnOf x x (defArgs (top i)) (defBody (top i)) (defScope (top i)) .none kV doc pm an cdv ct) ⟨[u], []⟩ = pure [(p, u)] := by intros; rfl) : Binds K fd [p] [] := F.bindsN fun _ _ _ _ _ _ us hl => match us, hl with | [_], _ => h _ _ _ _ _ _ _
theorem K1b2 {K : PySem.W.Frag} {x p q : Str} {i : Nat} {f : Addr} {fd : FuncData} (F : FnP K x (top i) f fd) (h : ∀ (kV doc pm : Value) (an : Option Addr) (cdv ct : Value) (u v : Value), bindArgs (PySem.W.fnOf x x (defArgs (top i)) (defBody (top i)) (defScope (top i)) .none kV doc pm an cdv ct) ⟨[u, v], []⟩ = pure [(p, u), (q, v)] := by intros; rfl) : Binds K fd [p, q] [] := F.bindsN fun _ _ _ _ _ _ us hl => match us, hl with | [_, _], _ => h _ _ _ _ _ _ _ _
theorem K1b3 {K : PySem.W.Frag} {x p q r : Str} {i : Nat} {f : Addr} {fd : FuncData} (F : FnP K x (top i) f fd) (h : ∀ (kV doc pm : Value) (an : Option Addr) (cdv ct : Value) (u v z : Value), bindArgs (PySem.W.fnOf x x (defArgs (top i)) (defBody (top i)) (defScope (top i)) .none kV doc pm an cdv ct) ⟨[u, v, z], []⟩ = pure [(p, u), (q, v), (r, z)] := by intros; rfl) : Binds K fd [p, q, r] [] := F.bindsN fun _ _ _ _ _ _ us hl => match us, hl with | [_, _, _], _ => h _ _ _ _ _ _ _ _ _
def fa : List He.Fa := [.glo "law", .free "isinstance", .free "int", .free "bool", .free "tuple", .free "list", .free "len", .free "abs", .free "range", .free "enumerate", .free "zip", .free "str", .free "all", .free "any", .free "max", .free "min", .int "LONGEST_NAME" 16, .int "MOST_FIELD_ROWS" 20, .int "MOST_FIELD_COLUMNS" 20, .int "MOST_REPEATS" 20, .int "MOST_SIZES" 40, .int "MOST_INHERITED_NAMES" 40, .int "MOST_FURTHER_SIZES" 8, .int "MOST_LANES" 60, .str "LETTERS" letters, .str "NAME_SIGNS" signs, .str "NO_FIELD" ".", .glo "SIZE_WORDS", .glo "AXES", .glo "Moment", .mkr "Grid", .meth "Grid" "__eq__", .noat "Grid" "columns", .noat "Grid" "rows", .noat "Grid" "fields", .noat "Grid" "more_columns", .noat "Grid" "more_rows", .noat "Grid" "flow", .noat "Grid" "dense", .noat "Grid" "column_gap", .noat "Grid" "row_gap", .noat "Grid" "justify", .noat "Grid" "align", .noat "Grid" "items_justify", .noat "Grid" "items_align", .glo "Grid", .cls "Grid", .glo "FLOWS", .glo "LANES_WAYS", .glo "WAYS_ACROSS", .glo "WAYS_DOWN", .glo "is_integer", .glo "is_number", .glo "fraction_of", .glo "is_moving", .glo "at_most", .glo "is_length", .glo "is_word", .glo "is_marked", .glo "is_part", .glo "is_share", .glo "is_fixed", .glo "is_plain_size", .glo "is_upto", .glo "is_between", .glo "is_size", .glo "is_name", .glo "are_names", .glo "is_names_entry", .glo "are_inner_entries", .glo "is_repeat", .glo "is_filler", .glo "is_entry", .glo "low_of", .glo "high_of", .glo "may_be_filled", .glo "is_inherited", .glo "sizes_in", .glo "are_entries", .glo "is_template", .glo "is_field_word", .glo "is_field_row", .glo "field_cells", .glo "is_rectangle", .glo "wrong_field_row", .glo "check_grid", .glo "check_fields", .glo "check_further_sizes", .glo "check_axis", .glo "check_grid_axis", .glo "check_lanes", .glo "asked_template", .glo "inherits", .glo "template_of", .glo "further_sizes", .glo "field_lanes", .glo "is_names", .glo "is_fill", .glo "filler_of", .glo "inner_sizes", .glo "written_entries", .glo "written_sizes", .glo "filled_lanes", .glo "told_lanes", .glo "further_size", .glo "sizes_between", .glo "check_repeats", .glo "template_sizes", .glo "lane_count", .glo "lane_sizes", .glo "_law_mix", .glo "_law_draw", .glo "_law_source", .glo "_law_one", .glo "_law_num", .glo "_law_length", .glo "_law_fixed", .glo "_law_counted_size", .glo "_law_any_size", .glo "_law_plain", .glo "_law_template", .glo "_law_written", .glo "_law_fields", .glo "_law_right"]
theorem facts {P : Program} {w : World} {K : PySem.W.Frag} {h : Heap} {mg : Str → Option Value} {f : Addr} (X : K.In h) (G : h.Ns mainGlobals mg) (hfa : mg ("law" : Str) = some (.ref f)) (c : He.SaysD fa fn K) (x : exB K = true) :
    ∃ fd : FuncData, (∀ (s : Shared) (v : Value), BindsTo s fd ⟨[v], []⟩ [("script", v)]) ∧ ∀ base : Heap, K.In base → base.Ns mainGlobals mg → FnOk P w K mg base CX0 17 f fd ["script"] (spLaw K) := by
  obtain ⟨xm, x⟩ := ba x
  obtain ⟨xW, x⟩ := ba x
  obtain ⟨x1, x⟩ := ba x
  obtain ⟨x2, x⟩ := ba x
  obtain ⟨xl, x⟩ := ba x
  obtain ⟨xn, x⟩ := ba x
  obtain ⟨xg, x⟩ := ba x
  obtain ⟨z1, x⟩ := ba x
  obtain ⟨z2, x⟩ := ba x
  obtain ⟨z3, x⟩ := ba x
  obtain ⟨z4, x⟩ := ba x
  obtain ⟨z5, x⟩ := ba x
  obtain ⟨z6, x⟩ := ba x
  obtain ⟨y1, x⟩ := ba x
  obtain ⟨y2, x⟩ := ba x
  obtain ⟨y3, x⟩ := ba x
  obtain ⟨y4, y5⟩ := ba x
  obtain ⟨w1, xW⟩ := ba xW
  obtain ⟨w2, xW⟩ := ba xW
  obtain ⟨w3, xW⟩ := ba xW
  obtain ⟨w4, w5⟩ := ba xW
  obtain ⟨f_is_integer, F_is_integer⟩ := c.def_ 0 (d := D_is_integer) rfl
  obtain ⟨f_is_number, F_is_number⟩ := c.def_ 1 (d := D_is_number) rfl
  obtain ⟨f_fraction_of, F_fraction_of⟩ := c.def_ 2 (d := D_fraction_of) rfl
  obtain ⟨f_is_moving, F_is_moving⟩ := c.def_ 3 (d := D_is_moving) rfl
  obtain ⟨f_at_most, F_at_most⟩ := c.def_ 4 (d := D_at_most) rfl
  obtain ⟨f_is_length, F_is_length⟩ := c.def_ 5 (d := D_is_length) rfl
  obtain ⟨f_is_word, F_is_word⟩ := c.def_ 6 (d := D_is_word) rfl
  obtain ⟨f_is_marked, F_is_marked⟩ := c.def_ 7 (d := D_is_marked) rfl
  obtain ⟨f_is_part, F_is_part⟩ := c.def_ 8 (d := D_is_part) rfl
  obtain ⟨f_is_share, F_is_share⟩ := c.def_ 9 (d := D_is_share) rfl
  obtain ⟨f_is_fixed, F_is_fixed⟩ := c.def_ 10 (d := D_is_fixed) rfl
  obtain ⟨f_is_plain_size, F_is_plain_size⟩ := c.def_ 11 (d := D_is_plain_size) rfl
  obtain ⟨f_is_upto, F_is_upto⟩ := c.def_ 12 (d := D_is_upto) rfl
  obtain ⟨f_is_between, F_is_between⟩ := c.def_ 13 (d := D_is_between) rfl
  obtain ⟨f_is_size, F_is_size⟩ := c.def_ 14 (d := D_is_size) rfl
  obtain ⟨f_is_name, F_is_name⟩ := c.def_ 15 (d := D_is_name) rfl
  obtain ⟨f_are_names, F_are_names⟩ := c.def_ 16 (d := D_are_names) rfl
  obtain ⟨f_is_names_entry, F_is_names_entry⟩ := c.def_ 17 (d := D_is_names_entry) rfl
  obtain ⟨f_are_inner_entries, F_are_inner_entries⟩ := c.def_ 18 (d := D_are_inner_entries) rfl
  obtain ⟨f_is_repeat, F_is_repeat⟩ := c.def_ 19 (d := D_is_repeat) rfl
  obtain ⟨f_is_filler, F_is_filler⟩ := c.def_ 20 (d := D_is_filler) rfl
  obtain ⟨f_is_entry, F_is_entry⟩ := c.def_ 21 (d := D_is_entry) rfl
  obtain ⟨f_low_of, F_low_of⟩ := c.def_ 22 (d := D_low_of) rfl
  obtain ⟨f_high_of, F_high_of⟩ := c.def_ 23 (d := D_high_of) rfl
  obtain ⟨f_may_be_filled, F_may_be_filled⟩ := c.def_ 24 (d := D_may_be_filled) rfl
  obtain ⟨f_is_inherited, F_is_inherited⟩ := c.def_ 25 (d := D_is_inherited) rfl
  obtain ⟨f_sizes_in, F_sizes_in⟩ := c.def_ 26 (d := D_sizes_in) rfl
  obtain ⟨f_are_entries, F_are_entries⟩ := c.def_ 27 (d := D_are_entries) rfl
  obtain ⟨f_is_template, F_is_template⟩ := c.def_ 28 (d := D_is_template) rfl
  obtain ⟨f_is_field_word, F_is_field_word⟩ := c.def_ 29 (d := D_is_field_word) rfl
  obtain ⟨f_is_field_row, F_is_field_row⟩ := c.def_ 30 (d := D_is_field_row) rfl
  obtain ⟨f_field_cells, F_field_cells⟩ := c.def_ 31 (d := D_field_cells) rfl
  obtain ⟨f_is_rectangle, F_is_rectangle⟩ := c.def_ 32 (d := D_is_rectangle) rfl
  obtain ⟨f_wrong_field_row, F_wrong_field_row⟩ := c.def_ 33 (d := D_wrong_field_row) rfl
  obtain ⟨f_check_grid, F_check_grid⟩ := c.def_ 34 (d := D_check_grid) rfl
  obtain ⟨f_check_fields, F_check_fields⟩ := c.def_ 35 (d := D_check_fields) rfl
  obtain ⟨f_check_further_sizes, F_check_further_sizes⟩ := c.def_ 36 (d := D_check_further_sizes) rfl
  obtain ⟨f_check_axis, F_check_axis⟩ := c.def_ 37 (d := D_check_axis) rfl
  obtain ⟨f_check_grid_axis, F_check_grid_axis⟩ := c.def_ 38 (d := D_check_grid_axis) rfl
  obtain ⟨f_check_lanes, F_check_lanes⟩ := c.def_ 39 (d := D_check_lanes) rfl
  obtain ⟨f_asked_template, F_asked_template⟩ := c.def_ 40 (d := D_asked_template) rfl
  obtain ⟨f_inherits, F_inherits⟩ := c.def_ 41 (d := D_inherits) rfl
  obtain ⟨f_template_of, F_template_of⟩ := c.def_ 42 (d := D_template_of) rfl
  obtain ⟨f_further_sizes, F_further_sizes⟩ := c.def_ 43 (d := D_further_sizes) rfl
  obtain ⟨f_field_lanes, F_field_lanes⟩ := c.def_ 44 (d := D_field_lanes) rfl
  obtain ⟨f_is_names, F_is_names⟩ := c.def_ 45 (d := D_is_names) rfl
  obtain ⟨f_is_fill, F_is_fill⟩ := c.def_ 46 (d := D_is_fill) rfl
  obtain ⟨f_filler_of, F_filler_of⟩ := c.def_ 47 (d := D_filler_of) rfl
  obtain ⟨f_inner_sizes, F_inner_sizes⟩ := c.def_ 48 (d := D_inner_sizes) rfl
  obtain ⟨f_written_entries, F_written_entries⟩ := c.def_ 49 (d := D_written_entries) rfl
  obtain ⟨f_written_sizes, F_written_sizes⟩ := c.def_ 50 (d := D_written_sizes) rfl
  obtain ⟨f_filled_lanes, F_filled_lanes⟩ := c.def_ 51 (d := D_filled_lanes) rfl
  obtain ⟨f_told_lanes, F_told_lanes⟩ := c.def_ 52 (d := D_told_lanes) rfl
  obtain ⟨f_further_size, F_further_size⟩ := c.def_ 53 (d := D_further_size) rfl
  obtain ⟨f_sizes_between, F_sizes_between⟩ := c.def_ 54 (d := D_sizes_between) rfl
  obtain ⟨f_check_repeats, F_check_repeats⟩ := c.def_ 55 (d := D_check_repeats) rfl
  obtain ⟨f_template_sizes, F_template_sizes⟩ := c.def_ 56 (d := D_template_sizes) rfl
  obtain ⟨f_lane_count, F_lane_count⟩ := c.def_ 57 (d := D_lane_count) rfl
  obtain ⟨f_lane_sizes, F_lane_sizes⟩ := c.def_ 58 (d := D_lane_sizes) rfl
  obtain ⟨f__law_mix, F__law_mix⟩ := c.def_ 59 (d := D__law_mix) rfl
  obtain ⟨f__law_draw, F__law_draw⟩ := c.def_ 60 (d := D__law_draw) rfl
  obtain ⟨f__law_source, F__law_source⟩ := c.def_ 61 (d := D__law_source) rfl
  obtain ⟨f__law_one, F__law_one⟩ := c.def_ 62 (d := D__law_one) rfl
  obtain ⟨f__law_num, F__law_num⟩ := c.def_ 63 (d := D__law_num) rfl
  obtain ⟨f__law_length, F__law_length⟩ := c.def_ 64 (d := D__law_length) rfl
  obtain ⟨f__law_fixed, F__law_fixed⟩ := c.def_ 65 (d := D__law_fixed) rfl
  obtain ⟨f__law_counted_size, F__law_counted_size⟩ := c.def_ 66 (d := D__law_counted_size) rfl
  obtain ⟨f__law_any_size, F__law_any_size⟩ := c.def_ 67 (d := D__law_any_size) rfl
  obtain ⟨f__law_plain, F__law_plain⟩ := c.def_ 68 (d := D__law_plain) rfl
  obtain ⟨f__law_template, F__law_template⟩ := c.def_ 69 (d := D__law_template) rfl
  obtain ⟨f__law_written, F__law_written⟩ := c.def_ 70 (d := D__law_written) rfl
  obtain ⟨f__law_fields, F__law_fields⟩ := c.def_ 71 (d := D__law_fields) rfl
  obtain ⟨f__law_right, F__law_right⟩ := c.def_ 72 (d := D__law_right) rfl
  obtain ⟨f_law, F_law⟩ := c.def_ 73 (d := D_law) rfl
  obtain ⟨f_Grid__init__, F_Grid__init__⟩ := c.def_ 74 (d := D_Grid__init__) rfl
  obtain ⟨f_Grid__eq__, F_Grid__eq__⟩ := c.def_ 75 (d := D_Grid__eq__) rfl
  have e := hfa.symm.trans (He.glo_ok X G (c.fact 0 (f := .glo "law") rfl))
  cases e
  have bL := FunD.bindsA (ps := ["script"]) F_law fun _ _ _ _ _ _ us hl => match us, hl with | [_], _ => rfl
  refine ⟨f_law, fun s v => bL s [v] rfl, fun base _ _ => ?_⟩
  have N : Nm mg := { isi := He.free_ok X G (c.fact 1 (f := .free "isinstance") rfl), tint := He.free_ok X G (c.fact 2 (f := .free "int") rfl), tbool := He.free_ok X G (c.fact 3 (f := .free "bool") rfl), ttup := He.free_ok X G (c.fact 4 (f := .free "tuple") rfl), tlst := He.free_ok X G (c.fact 5 (f := .free "list") rfl), len := He.free_ok X G (c.fact 6 (f := .free "len") rfl), abs := He.free_ok X G (c.fact 7 (f := .free "abs") rfl), rng := He.free_ok X G (c.fact 8 (f := .free "range") rfl), enu := He.free_ok X G (c.fact 9 (f := .free "enumerate") rfl), zip := He.free_ok X G (c.fact 10 (f := .free "zip") rfl), gcd := PySem.W.mg_of X G (He.eqO_ok xg) }
  have hs := He.free_ok X G (c.fact 11 (f := .free "str") rfl)
  have hall := He.free_ok X G (c.fact 12 (f := .free "all") rfl)
  have hany := He.free_ok X G (c.fact 13 (f := .free "any") rfl)
  have hmax := He.free_ok X G (c.fact 14 (f := .free "max") rfl)
  have hmin := He.free_ok X G (c.fact 15 (f := .free "min") rfl)
  obtain ⟨tk_LONGEST_NAME, g_LONGEST_NAME⟩ := He.int_ok X G (c.fact 16 (f := .int "LONGEST_NAME" 16) rfl)
  obtain ⟨tk_MOST_FIELD_ROWS, g_MOST_FIELD_ROWS⟩ := He.int_ok X G (c.fact 17 (f := .int "MOST_FIELD_ROWS" 20) rfl)
  obtain ⟨tk_MOST_FIELD_COLUMNS, g_MOST_FIELD_COLUMNS⟩ := He.int_ok X G (c.fact 18 (f := .int "MOST_FIELD_COLUMNS" 20) rfl)
  obtain ⟨tk_MOST_REPEATS, g_MOST_REPEATS⟩ := He.int_ok X G (c.fact 19 (f := .int "MOST_REPEATS" 20) rfl)
  obtain ⟨tk_MOST_SIZES, g_MOST_SIZES⟩ := He.int_ok X G (c.fact 20 (f := .int "MOST_SIZES" 40) rfl)
  obtain ⟨tk_MOST_INHERITED_NAMES, g_MOST_INHERITED_NAMES⟩ := He.int_ok X G (c.fact 21 (f := .int "MOST_INHERITED_NAMES" 40) rfl)
  obtain ⟨tk_MOST_FURTHER_SIZES, g_MOST_FURTHER_SIZES⟩ := He.int_ok X G (c.fact 22 (f := .int "MOST_FURTHER_SIZES" 8) rfl)
  obtain ⟨tk_MOST_LANES, g_MOST_LANES⟩ := He.int_ok X G (c.fact 23 (f := .int "MOST_LANES" 60) rfl)
  obtain ⟨tk_LETTERS, g_LETTERS⟩ := He.str_ok X G (c.fact 24 (f := .str "LETTERS" letters) rfl)
  obtain ⟨tk_NAME_SIGNS, g_NAME_SIGNS⟩ := He.str_ok X G (c.fact 25 (f := .str "NAME_SIGNS" signs) rfl)
  obtain ⟨tk_NO_FIELD, g_NO_FIELD⟩ := He.str_ok X G (c.fact 26 (f := .str "NO_FIELD" ".") rfl)
  have g_SIZE_WORDS := He.glo_ok X G (c.fact 27 (f := .glo "SIZE_WORDS") rfl)
  have hS := tupS z1
  have g_AXES := He.glo_ok X G (c.fact 28 (f := .glo "AXES") rfl)
  have hX := tupS z6
  have Mo : Mom K mg (ga K "Moment") := ⟨He.glo_ok X G (c.fact 29 (f := .glo "Moment") rfl), momB_ok xm⟩
  have MG := He.mkr_ok (c.fact 30 (f := .mkr "Grid") rfl)
  have EG := He.meth_ok (c.fact 31 (f := .meth "Grid" "__eq__") rfl)
  have nas : ∀ y ∈ fnames, NoAttr K (ga K "Grid") y := by
    intro y hy
    simp only [fnames, List.mem_cons, List.not_mem_nil, or_false] at hy
    rcases hy with rfl | rfl | rfl | rfl | rfl | rfl | rfl | rfl | rfl | rfl | rfl | rfl | rfl
    · exact He.noat_ok (c.fact 32 (f := .noat "Grid" "columns") rfl)
    · exact He.noat_ok (c.fact 33 (f := .noat "Grid" "rows") rfl)
    · exact He.noat_ok (c.fact 34 (f := .noat "Grid" "fields") rfl)
    · exact He.noat_ok (c.fact 35 (f := .noat "Grid" "more_columns") rfl)
    · exact He.noat_ok (c.fact 36 (f := .noat "Grid" "more_rows") rfl)
    · exact He.noat_ok (c.fact 37 (f := .noat "Grid" "flow") rfl)
    · exact He.noat_ok (c.fact 38 (f := .noat "Grid" "dense") rfl)
    · exact He.noat_ok (c.fact 39 (f := .noat "Grid" "column_gap") rfl)
    · exact He.noat_ok (c.fact 40 (f := .noat "Grid" "row_gap") rfl)
    · exact He.noat_ok (c.fact 41 (f := .noat "Grid" "justify") rfl)
    · exact He.noat_ok (c.fact 42 (f := .noat "Grid" "align") rfl)
    · exact He.noat_ok (c.fact 43 (f := .noat "Grid" "items_justify") rfl)
    · exact He.noat_ok (c.fact 44 (f := .noat "Grid" "items_align") rfl)
  have T : TG K mg "Grid" (ga K "Grid") (ma K (ga K "Grid") "__init__") (ma K (ga K "Grid") "__eq__") := ⟨He.glo_ok X G (c.fact 45 (f := .glo "Grid") rfl), He.cls_ok (c.fact 46 (f := .cls "Grid") rfl), MG, EG.at_, EG.fn, of_decide_eq_true w1, of_decide_eq_true w2, of_decide_eq_true w3, of_decide_eq_true x1, of_decide_eq_true x2, of_decide_eq_true w4, w5, nas⟩
  have W : Ways K mg (ga K "FLOWS") (ga K "LANES_WAYS") (ga K "WAYS_ACROSS") (ga K "WAYS_DOWN") := ⟨He.glo_ok X G (c.fact 47 (f := .glo "FLOWS") rfl), tupS z2, He.glo_ok X G (c.fact 48 (f := .glo "LANES_WAYS") rfl), tupS z3, He.glo_ok X G (c.fact 49 (f := .glo "WAYS_ACROSS") rfl), tupS z4, He.glo_ok X G (c.fact 50 (f := .glo "WAYS_DOWN") rfl), tupS z5⟩
  have d_is_integer : D1 P w K mg base "is_integer" "value" 1 (spQ K any isInt) _ _ := ⟨ok_int F_is_integer N, He.glo_ok X G (c.fact 51 (f := .glo "is_integer") rfl), F_is_integer.kp, K1b1 (x := "is_integer") (i := 26) F_is_integer⟩
  have d_is_number : D1 P w K mg base "is_number" "value" 2 (spQ K any isNum) _ _ := ⟨ok_num F_is_number N Mo d_is_integer, He.glo_ok X G (c.fact 52 (f := .glo "is_number") rfl), F_is_number.kp, K1b1 (x := "is_number") (i := 27) F_is_number⟩
  have d_fraction_of : D1 P w K mg base "fraction_of" "number" 1 (spPair K) _ _ := ⟨ok_frac F_fraction_of N, He.glo_ok X G (c.fact 53 (f := .glo "fraction_of") rfl), F_fraction_of.kp, K1b1 (x := "fraction_of") (i := 29) F_fraction_of⟩
  have d_is_moving : D1 P w K mg base "is_moving" "number" 1 (spMov K) _ _ := ⟨ok_mov F_is_moving N, He.glo_ok X G (c.fact 54 (f := .glo "is_moving") rfl), F_is_moving.kp, K1b1 (x := "is_moving") (i := 31) F_is_moving⟩
  have d_at_most : D2 P w K mg base "at_most" "one" "other" 2 (spLe K) _ _ := ⟨ok_le F_at_most N d_is_moving d_fraction_of, He.glo_ok X G (c.fact 55 (f := .glo "at_most") rfl), F_at_most.kp, K1b2 (x := "at_most") (i := 37) F_at_most⟩
  have d_is_length : D1 P w K mg base "is_length" "value" 3 (spQ K okL isLen) _ _ := ⟨ok_len F_is_length d_is_number d_at_most, He.glo_ok X G (c.fact 56 (f := .glo "is_length") rfl), F_is_length.kp, K1b1 (x := "is_length") (i := 28) F_is_length⟩
  have d_is_word : D2 P w K mg base "is_word" "value" "words" 1 (spWord K) _ _ := ⟨ok_word F_is_word N hs, He.glo_ok X G (c.fact 57 (f := .glo "is_word") rfl), F_is_word.kp, K1b2 (x := "is_word") (i := 11) F_is_word⟩
  have d_is_marked : D3 P w K mg base "is_marked" "value" "word" "many" 2 (spMark K) _ _ := ⟨ok_mark F_is_marked N d_is_word, He.glo_ok X G (c.fact 58 (f := .glo "is_marked") rfl), F_is_marked.kp, K1b3 (x := "is_marked") (i := 12) F_is_marked⟩
  have d_is_part : D1 P w K mg base "is_part" "value" 4 (spQ K okS isPart) _ _ := ⟨ok_part F_is_part d_is_marked d_is_length, He.glo_ok X G (c.fact 59 (f := .glo "is_part") rfl), F_is_part.kp, K1b1 (x := "is_part") (i := 43) F_is_part⟩
  have d_is_share : D1 P w K mg base "is_share" "value" 4 (spQ K okS isShare) _ _ := ⟨ok_share F_is_share d_is_marked d_is_length, He.glo_ok X G (c.fact 60 (f := .glo "is_share") rfl), F_is_share.kp, K1b1 (x := "is_share") (i := 44) F_is_share⟩
  have d_is_fixed : D1 P w K mg base "is_fixed" "value" 5 (spQ K okS isFixed) _ _ := ⟨ok_fixed F_is_fixed d_is_length d_is_part, He.glo_ok X G (c.fact 61 (f := .glo "is_fixed") rfl), F_is_fixed.kp, K1b1 (x := "is_fixed") (i := 45) F_is_fixed⟩
  have d_is_plain_size : D1 P w K mg base "is_plain_size" "value" 6 (spQ K okS isPlain) _ _ := ⟨ok_plain F_is_plain_size d_is_fixed d_is_word g_SIZE_WORDS hS, He.glo_ok X G (c.fact 62 (f := .glo "is_plain_size") rfl), F_is_plain_size.kp, K1b1 (x := "is_plain_size") (i := 46) F_is_plain_size⟩
  have d_is_upto : D1 P w K mg base "is_upto" "value" 6 (spQ K okB isUpto) _ _ := ⟨ok_upto F_is_upto d_is_marked d_is_fixed, He.glo_ok X G (c.fact 63 (f := .glo "is_upto") rfl), F_is_upto.kp, K1b1 (x := "is_upto") (i := 48) F_is_upto⟩
  have d_is_between : D1 P w K mg base "is_between" "value" 7 (spQ K okB isBetw) _ _ := ⟨ok_betw F_is_between d_is_marked d_is_plain_size d_is_share, He.glo_ok X G (c.fact 64 (f := .glo "is_between") rfl), F_is_between.kp, K1b1 (x := "is_between") (i := 47) F_is_between⟩
  have d_is_size : D1 P w K mg base "is_size" "value" 8 (spQ K okB isSize) _ _ := ⟨ok_size F_is_size d_is_plain_size d_is_share d_is_between d_is_upto, He.glo_ok X G (c.fact 65 (f := .glo "is_size") rfl), F_is_size.kp, K1b1 (x := "is_size") (i := 49) F_is_size⟩
  have d_is_name : D1 P w K mg base "is_name" "value" 1 (spQ K okZ isName) _ _ := ⟨ok_name F_is_name N hs g_LETTERS g_NAME_SIGNS g_LONGEST_NAME, He.glo_ok X G (c.fact 66 (f := .glo "is_name") rfl), F_is_name.kp, K1b1 (x := "is_name") (i := 13) F_is_name⟩
  have d_are_names : D1 P w K mg base "are_names" "value" 2 (spQ K okNs areNames) _ _ := ⟨ok_names F_are_names N hall d_is_name, He.glo_ok X G (c.fact 67 (f := .glo "are_names") rfl), F_are_names.kp, K1b1 (x := "are_names") (i := 14) F_are_names⟩
  have d_is_names_entry : D1 P w K mg base "is_names_entry" "value" 3 (spQ K okE isNamesE) _ _ := ⟨ok_namesE F_is_names_entry d_is_marked d_are_names, He.glo_ok X G (c.fact 68 (f := .glo "is_names_entry") rfl), F_is_names_entry.kp, K1b1 (x := "is_names_entry") (i := 52) F_is_names_entry⟩
  have d_are_inner_entries : D1 P w K mg base "are_inner_entries" "value" 9 (spQ K okIn areInner) _ _ := ⟨ok_inner F_are_inner_entries N hany d_is_size d_is_names_entry, He.glo_ok X G (c.fact 69 (f := .glo "are_inner_entries") rfl), F_are_inner_entries.kp, K1b1 (x := "are_inner_entries") (i := 53) F_are_inner_entries⟩
  have d_is_repeat : D1 P w K mg base "is_repeat" "value" 10 (spQ K okR isRepeat) _ _ := ⟨ok_repeat F_is_repeat g_MOST_REPEATS d_is_marked d_is_integer d_are_inner_entries, He.glo_ok X G (c.fact 70 (f := .glo "is_repeat") rfl), F_is_repeat.kp, K1b1 (x := "is_repeat") (i := 54) F_is_repeat⟩
  have d_is_filler : D1 P w K mg base "is_filler" "value" 10 (spQ K okR isFill) _ _ := ⟨ok_filler F_is_filler d_is_marked d_are_inner_entries, He.glo_ok X G (c.fact 71 (f := .glo "is_filler") rfl), F_is_filler.kp, K1b1 (x := "is_filler") (i := 55) F_is_filler⟩
  have d_is_entry : D1 P w K mg base "is_entry" "value" 11 (spQ K okR isEntry) _ _ := ⟨ok_entry F_is_entry d_is_size d_is_names_entry d_is_repeat d_is_filler, He.glo_ok X G (c.fact 72 (f := .glo "is_entry") rfl), F_is_entry.kp, K1b1 (x := "is_entry") (i := 56) F_is_entry⟩
  have d_low_of : D1 P w K mg base "low_of" "size" 8 (spV K okB lowOf) _ _ := ⟨ok_low F_low_of d_is_between d_is_share d_is_upto, He.glo_ok X G (c.fact 73 (f := .glo "low_of") rfl), F_low_of.kp, K1b1 (x := "low_of") (i := 50) F_low_of⟩
  have d_high_of : D1 P w K mg base "high_of" "size" 8 (spV K okB highOf) _ _ := ⟨ok_high F_high_of d_is_between d_is_upto, He.glo_ok X G (c.fact 74 (f := .glo "high_of") rfl), F_high_of.kp, K1b1 (x := "high_of") (i := 51) F_high_of⟩
  have d_may_be_filled : D1 P w K mg base "may_be_filled" "size" 9 (spQ K okB mayFill) _ _ := ⟨ok_may F_may_be_filled d_is_fixed d_low_of d_high_of, He.glo_ok X G (c.fact 75 (f := .glo "may_be_filled") rfl), F_may_be_filled.kp, K1b1 (x := "may_be_filled") (i := 58) F_may_be_filled⟩
  have d_is_inherited : D1 P w K mg base "is_inherited" "value" 3 (spQ K okInh isInh) _ _ := ⟨ok_inh F_is_inherited N hall g_MOST_INHERITED_NAMES d_is_marked d_are_names, He.glo_ok X G (c.fact 76 (f := .glo "is_inherited") rfl), F_is_inherited.kp, K1b1 (x := "is_inherited") (i := 60) F_is_inherited⟩
  have d_sizes_in : D1 P w K mg base "sizes_in" "entries" 11 (spSz0 K) _ _ := ⟨ok_sz0 F_sizes_in d_is_size d_is_repeat d_is_filler, He.glo_ok X G (c.fact 77 (f := .glo "sizes_in") rfl), F_sizes_in.kp, K1b1 (x := "sizes_in") (i := 57) F_sizes_in⟩
  have d_sizes_in : D1 P w K mg base "sizes_in" "entries" 12 (spSz K) _ _ := ⟨ok_sz F_sizes_in d_is_size d_is_repeat d_is_filler d_sizes_in, He.glo_ok X G (c.fact 77 (f := .glo "sizes_in") rfl), F_sizes_in.kp, K1b1 (x := "sizes_in") (i := 57) F_sizes_in⟩
  have d_are_entries : D1 P w K mg base "are_entries" "value" 13 (spQ K okEnt areEnt) _ _ := ⟨ok_ae F_are_entries N hall g_MOST_SIZES d_is_entry d_sizes_in d_is_filler d_may_be_filled, He.glo_ok X G (c.fact 78 (f := .glo "are_entries") rfl), F_are_entries.kp, K1b1 (x := "are_entries") (i := 59) F_are_entries⟩
  have d_is_template : D1 P w K mg base "is_template" "value" 14 (spQ K (fun d => okInh d ∧ okEnt d) fun d => isInh d || areEnt d) _ _ := ⟨ok_tp F_is_template d_is_inherited d_are_entries, He.glo_ok X G (c.fact 79 (f := .glo "is_template") rfl), F_is_template.kp, K1b1 (x := "is_template") (i := 61) F_is_template⟩
  have d_is_field_word : D1 P w K mg base "is_field_word" "value" 2 (spQ K okZ isFW) _ _ := ⟨ok_fw F_is_field_word N hs g_NO_FIELD d_is_name, He.glo_ok X G (c.fact 80 (f := .glo "is_field_word") rfl), F_is_field_word.kp, K1b1 (x := "is_field_word") (i := 19) F_is_field_word⟩
  have d_is_field_row : D1 P w K mg base "is_field_row" "value" 3 (spQ K okNs isFRow) _ _ := ⟨ok_fr F_is_field_row N hall g_MOST_FIELD_COLUMNS d_is_field_word, He.glo_ok X G (c.fact 81 (f := .glo "is_field_row") rfl), F_is_field_row.kp, K1b1 (x := "is_field_row") (i := 20) F_is_field_row⟩
  have d_field_cells : D1 P w K mg base "field_cells" "fields" 1 (spFC K) _ _ := ⟨ok_fc F_field_cells N g_NO_FIELD, He.glo_ok X G (c.fact 82 (f := .glo "field_cells") rfl), F_field_cells.kp, K1b1 (x := "field_cells") (i := 21) F_field_cells⟩
  have d_is_rectangle : D1 P w K mg base "is_rectangle" "cells" 1 (spRect) _ _ := ⟨ok_rc F_is_rectangle N hmax hmin, He.glo_ok X G (c.fact 83 (f := .glo "is_rectangle") rfl), F_is_rectangle.kp, K1b1 (x := "is_rectangle") (i := 22) F_is_rectangle⟩
  have d_wrong_field_row : D1 P w K mg base "wrong_field_row" "fields" 4 (spWF K) _ _ := ⟨ok_wf F_wrong_field_row N hany g_MOST_FIELD_ROWS d_is_field_row d_field_cells d_is_rectangle, He.glo_ok X G (c.fact 84 (f := .glo "wrong_field_row") rfl), F_wrong_field_row.kp, K1b1 (x := "wrong_field_row") (i := 23) F_wrong_field_row⟩
  have d_check_grid : D2 P w K mg base "check_grid" "part" "is_right" 1 (spCG) _ _ := ⟨ok_cg F_check_grid N, He.glo_ok X G (c.fact 85 (f := .glo "check_grid") rfl), F_check_grid.kp, K1b2 (x := "check_grid") (i := 69) F_check_grid⟩
  have d_check_fields : D1 P w K mg base "check_fields" "fields" 5 (spWF K) _ _ := ⟨ok_cf F_check_fields N d_wrong_field_row, He.glo_ok X G (c.fact 86 (f := .glo "check_fields") rfl), F_check_fields.kp, K1b1 (x := "check_fields") (i := 70) F_check_fields⟩
  have d_check_further_sizes : D2 P w K mg base "check_further_sizes" "part" "sizes" 9 (spFS K) _ _ := ⟨ok_fs F_check_further_sizes N g_MOST_FURTHER_SIZES d_is_size, He.glo_ok X G (c.fact 87 (f := .glo "check_further_sizes") rfl), F_check_further_sizes.kp, K1b2 (x := "check_further_sizes") (i := 71) F_check_further_sizes⟩
  have d_check_axis : D1 P w K mg base "check_axis" "axis" 2 (spCA) _ _ := ⟨ok_ca F_check_axis N g_AXES hX d_is_word, He.glo_ok X G (c.fact 88 (f := .glo "check_axis") rfl), F_check_axis.kp, K1b1 (x := "check_axis") (i := 75) F_check_axis⟩
  have d_check_grid_axis : D2 P w K mg base "check_grid_axis" "grid" "axis" 3 (spCGA K  (ga K "Grid")) _ _ := ⟨ok_cga F_check_grid_axis N T d_check_axis, He.glo_ok X G (c.fact 89 (f := .glo "check_grid_axis") rfl), F_check_grid_axis.kp, K1b2 (x := "check_grid_axis") (i := 76) F_check_grid_axis⟩
  have d_check_lanes : D2 P w K mg base "check_lanes" "axis" "many" 1 (spCL) _ _ := ⟨ok_cl F_check_lanes N g_MOST_LANES, He.glo_ok X G (c.fact 90 (f := .glo "check_lanes") rfl), F_check_lanes.kp, K1b2 (x := "check_lanes") (i := 77) F_check_lanes⟩
  have d_asked_template : D2 P w K mg base "asked_template" "grid" "axis" 1 (spGA K (ga K "Grid") askedT) _ _ := ⟨ok_at F_asked_template N T, He.glo_ok X G (c.fact 91 (f := .glo "asked_template") rfl), F_asked_template.kp, K1b2 (x := "asked_template") (i := 78) F_asked_template⟩
  have d_inherits : D2 P w K mg base "inherits" "grid" "axis" 3 (spGB K (ga K "Grid") inhB) _ _ := ⟨ok_ih F_inherits d_asked_template d_is_marked, He.glo_ok X G (c.fact 92 (f := .glo "inherits") rfl), F_inherits.kp, K1b2 (x := "inherits") (i := 79) F_inherits⟩
  have d_template_of : D2 P w K mg base "template_of" "grid" "axis" 4 (spGA K (ga K "Grid") tmplT) _ _ := ⟨ok_to F_template_of d_inherits d_asked_template, He.glo_ok X G (c.fact 93 (f := .glo "template_of") rfl), F_template_of.kp, K1b2 (x := "template_of") (i := 80) F_template_of⟩
  have d_further_sizes : D2 P w K mg base "further_sizes" "grid" "axis" 1 (spGA K (ga K "Grid") fun g col => .tuple (moreT g col)) _ _ := ⟨ok_fus F_further_sizes N T, He.glo_ok X G (c.fact 94 (f := .glo "further_sizes") rfl), F_further_sizes.kp, K1b2 (x := "further_sizes") (i := 81) F_further_sizes⟩
  have d_field_lanes : D2 P w K mg base "field_lanes" "grid" "axis" 1 (spGN K (ga K "Grid") fun g col => wideOf g.rows col) _ _ := ⟨ok_fln F_field_lanes N T, He.glo_ok X G (c.fact 95 (f := .glo "field_lanes") rfl), F_field_lanes.kp, K1b2 (x := "field_lanes") (i := 82) F_field_lanes⟩
  have d_is_names : D1 P w K mg base "is_names" "entry" 3 (spQ K any isNm) _ _ := ⟨ok_isn F_is_names d_is_marked, He.glo_ok X G (c.fact 96 (f := .glo "is_names") rfl), F_is_names.kp, K1b1 (x := "is_names") (i := 84) F_is_names⟩
  have d_is_fill : D1 P w K mg base "is_fill" "entry" 3 (spQ K any isFl) _ _ := ⟨ok_isf F_is_fill d_is_marked, He.glo_ok X G (c.fact 97 (f := .glo "is_fill") rfl), F_is_fill.kp, K1b1 (x := "is_fill") (i := 85) F_is_fill⟩
  have d_filler_of : D1 P w K mg base "filler_of" "template" 4 (spFo K) _ _ := ⟨ok_fo F_filler_of d_is_fill, He.glo_ok X G (c.fact 98 (f := .glo "filler_of") rfl), F_filler_of.kp, K1b1 (x := "filler_of") (i := 86) F_filler_of⟩
  have d_inner_sizes : D1 P w K mg base "inner_sizes" "entries" 4 (spLs K noNm) _ _ := ⟨ok_is F_inner_sizes d_is_names, He.glo_ok X G (c.fact 99 (f := .glo "inner_sizes") rfl), F_inner_sizes.kp, K1b1 (x := "inner_sizes") (i := 87) F_inner_sizes⟩
  have d_written_entries : D2 P w K mg base "written_entries" "template" "count" 4 (spWE K) _ _ := ⟨ok_wre F_written_entries d_is_marked d_is_fill, He.glo_ok X G (c.fact 100 (f := .glo "written_entries") rfl), F_written_entries.kp, K1b2 (x := "written_entries") (i := 88) F_written_entries⟩
  have d_written_sizes : D2 P w K mg base "written_sizes" "template" "count" 5 (spWS K) _ _ := ⟨ok_wrs F_written_sizes d_written_entries d_inner_sizes, He.glo_ok X G (c.fact 101 (f := .glo "written_sizes") rfl), F_written_sizes.kp, K1b2 (x := "written_sizes") (i := 89) F_written_sizes⟩
  have d_filled_lanes : D2 P w K mg base "filled_lanes" "template" "count" 6 (spFi K) _ _ := ⟨ok_fil F_filled_lanes N d_filler_of d_written_sizes d_inner_sizes, He.glo_ok X G (c.fact 102 (f := .glo "filled_lanes") rfl), F_filled_lanes.kp, K1b2 (x := "filled_lanes") (i := 90) F_filled_lanes⟩
  have d_told_lanes : D3 P w K mg base "told_lanes" "grid" "axis" "count" 7 (spTL K  (ga K "Grid")) _ _ := ⟨ok_tl F_told_lanes N hmax d_template_of d_filled_lanes d_field_lanes, He.glo_ok X G (c.fact 103 (f := .glo "told_lanes") rfl), F_told_lanes.kp, K1b3 (x := "told_lanes") (i := 91) F_told_lanes⟩
  have d_further_size : D3 P w K mg base "further_size" "grid" "axis" "index" 2 (spFu K  (ga K "Grid")) _ _ := ⟨ok_fu F_further_size N d_further_sizes, He.glo_ok X G (c.fact 104 (f := .glo "further_size") rfl), F_further_size.kp, K1b3 (x := "further_size") (i := 94) F_further_size⟩
  have d_sizes_between : D5 P w K mg base "sizes_between" ["grid", "axis", "count", "first", "behind"] 6 (spBw K  (ga K "Grid")) _ _ := ⟨ok_bw F_sizes_between N d_further_size d_template_of d_written_sizes, He.glo_ok X G (c.fact 105 (f := .glo "sizes_between") rfl), F_sizes_between.kp, K1b5 (x := "sizes_between") (i := 95) F_sizes_between⟩
  have d_check_repeats : D3 P w K mg base "check_repeats" "grid" "axis" "count" 8 (spCR K  (ga K "Grid")) _ _ := ⟨ok_cr F_check_repeats d_template_of d_filler_of d_is_integer d_told_lanes d_check_lanes, He.glo_ok X G (c.fact 106 (f := .glo "check_repeats") rfl), F_check_repeats.kp, K1b3 (x := "check_repeats") (i := 93) F_check_repeats⟩
  have d_template_sizes : D3 P w K mg base "template_sizes" "grid" "axis" "count" 9 (spTS K  (ga K "Grid")) _ _ := ⟨ok_ts F_template_sizes d_check_grid_axis d_check_repeats d_template_of d_written_sizes, He.glo_ok X G (c.fact 107 (f := .glo "template_sizes") rfl), F_template_sizes.kp, K1b3 (x := "template_sizes") (i := 96) F_template_sizes⟩
  have d_lane_count : D3 P w K mg base "lane_count" "grid" "axis" "count" 9 (spLC K  (ga K "Grid")) _ _ := ⟨ok_lc F_lane_count d_check_grid_axis d_check_repeats d_told_lanes, He.glo_ok X G (c.fact 108 (f := .glo "lane_count") rfl), F_lane_count.kp, K1b3 (x := "lane_count") (i := 97) F_lane_count⟩
  have d_lane_sizes : D5 P w K mg base "lane_sizes" ["grid", "axis", "count", "first", "behind"] 9 (spLZ K  (ga K "Grid")) _ _ := ⟨ok_lz F_lane_sizes d_check_grid_axis d_check_repeats d_is_integer d_told_lanes d_check_lanes d_sizes_between, He.glo_ok X G (c.fact 109 (f := .glo "lane_sizes") rfl), F_lane_sizes.kp, K1b5 (x := "lane_sizes") (i := 98) F_lane_sizes⟩
  have d__law_mix : D2 P w K mg base "_law_mix" "cell" "lap" 1 (spMx) _ _ := ⟨ok_mx F__law_mix N, He.glo_ok X G (c.fact 110 (f := .glo "_law_mix") rfl), F__law_mix.kp, K1b2 (x := "_law_mix") (i := 100) F__law_mix⟩
  have d__law_draw : D2 P w K mg base "_law_draw" "well" "limit" 2 (spDr) _ _ := ⟨ok_dr F__law_draw N d__law_mix, He.glo_ok X G (c.fact 111 (f := .glo "_law_draw") rfl), F__law_draw.kp, K1b2 (x := "_law_draw") (i := 102) F__law_draw⟩
  have d__law_source : D2 P w K mg base "_law_source" "script" "k" 1 (spSo K) _ _ := ⟨ok_so F__law_source N, He.glo_ok X G (c.fact 112 (f := .glo "_law_source") rfl), F__law_source.kp, K1b2 (x := "_law_source") (i := 101) F__law_source⟩
  have d__law_one : D2 P w K mg base "_law_one" "well" "items" 3 (spOn) _ _ := ⟨ok_on F__law_one N d__law_draw, He.glo_ok X G (c.fact 113 (f := .glo "_law_one") rfl), F__law_one.kp, K1b2 (x := "_law_one") (i := 103) F__law_one⟩
  have d__law_num : D1 P w K mg base "_law_num" "units" 1 (spNu K) _ _ := ⟨ok_nu F__law_num N, He.glo_ok X G (c.fact 114 (f := .glo "_law_num") rfl), F__law_num.kp, K1b1 (x := "_law_num") (i := 104) F__law_num⟩
  have d__law_length : D2 P w K mg base "_law_length" "well" "most" 3 (spLn K) _ _ := ⟨ok_ll F__law_length N d__law_draw d__law_num, He.glo_ok X G (c.fact 115 (f := .glo "_law_length") rfl), F__law_length.kp, K1b2 (x := "_law_length") (i := 106) F__law_length⟩
  have d__law_fixed : D1 P w K mg base "_law_fixed" "well" 4 (spDl K 3 fun d => fixB d = true) _ _ := ⟨ok_lfx F__law_fixed N d__law_draw d__law_num d__law_length, He.glo_ok X G (c.fact 116 (f := .glo "_law_fixed") rfl), F__law_fixed.kp, K1b1 (x := "_law_fixed") (i := 107) F__law_fixed⟩
  have d__law_counted_size : D1 P w K mg base "_law_counted_size" "well" 5 (spDl K 10 fun d => cntB d = true) _ _ := ⟨ok_lcs F__law_counted_size N d__law_draw d__law_one d__law_fixed d__law_length, He.glo_ok X G (c.fact 117 (f := .glo "_law_counted_size") rfl), F__law_counted_size.kp, K1b1 (x := "_law_counted_size") (i := 108) F__law_counted_size⟩
  have d__law_any_size : D1 P w K mg base "_law_any_size" "well" 6 (spDl K 11 fun d => sizB d = true) _ _ := ⟨ok_las F__law_any_size N d__law_draw d__law_one d__law_fixed d__law_length d__law_counted_size, He.glo_ok X G (c.fact 118 (f := .glo "_law_any_size") rfl), F__law_any_size.kp, K1b1 (x := "_law_any_size") (i := 109) F__law_any_size⟩
  have d__law_plain : D3 P w K mg base "_law_plain" "well" "many" "maker" 7 (spPn K (ga K "_law_counted_size") (ga K "_law_any_size")) _ _ := ⟨ok_pn F__law_plain N d__law_draw d__law_one d__law_counted_size d__law_any_size, He.glo_ok X G (c.fact 119 (f := .glo "_law_plain") rfl), F__law_plain.kp, K1b3 (x := "_law_plain") (i := 110) F__law_plain⟩
  have d__law_template : D2 P w K mg base "_law_template" "well" "sort" 8 (spTm K) _ _ := ⟨ok_tm F__law_template N d__law_draw d__law_plain d__law_counted_size d__law_any_size, He.glo_ok X G (c.fact 120 (f := .glo "_law_template") rfl), F__law_template.kp, K1b2 (x := "_law_template") (i := 111) F__law_template⟩
  have d__law_written : D2 P w K mg base "_law_written" "template" "often" 1 (spWr K) _ _ := ⟨ok_wr F__law_written N, He.glo_ok X G (c.fact 121 (f := .glo "_law_written") rfl), F__law_written.kp, K1b2 (x := "_law_written") (i := 112) F__law_written⟩
  have d__law_fields : D1 P w K mg base "_law_fields" "well" 3 (spFd K) _ _ := ⟨ok_fd F__law_fields N d__law_draw, He.glo_ok X G (c.fact 122 (f := .glo "_law_fields") rfl), F__law_fields.kp, K1b1 (x := "_law_fields") (i := 114) F__law_fields⟩
  have kb_template_sizes := kbR3 (p := "grid") (q := "axis") (r := "count") (x := "template_sizes") (i := 96) F_template_sizes
  have kb_lane_count := kbR3 (p := "grid") (q := "axis") (r := "count") (x := "lane_count") (i := 97) F_lane_count
  have kb_lane_sizes := kbR5 (p := "grid") (q := "axis") (r := "count") (t := "first") (l := "behind") (x := "lane_sizes") (i := 98) F_lane_sizes
  have d__law_right : D5 P w K mg base "_law_right" ["well", "world", "side", "template", "often"] 10 (spRt K  (ga K "Grid")) _ _ := ⟨ok_rt F__law_right N T hmax d__law_draw d__law_written d_template_sizes d_lane_count d_lane_sizes kb_template_sizes kb_lane_count kb_lane_sizes, He.glo_ok X G (c.fact 123 (f := .glo "_law_right") rfl), F__law_right.kp, K1b5 (x := "_law_right") (i := 113) F__law_right⟩
  have d_Grid : DG P w K mg base (ga K "Grid") _ _ := ⟨MG, ok_gi F_Grid__init__ N T W d_check_grid d_check_fields d_check_further_sizes d_is_template d_is_word d_is_fixed, T.gC⟩
  have FGr : FG K (aE0 K) (aE1 K) (aE2 K) (aT3 K) (aT4 K) _ _ := F_Grid__init__
  obtain ⟨iA, vA, kA⟩ := g_kA FGr
  obtain ⟨iB, vB, kB⟩ := g_kB FGr
  have dd : ∀ H, DpAll K H (dflG (aE0 K) (aE1 K) (aE2 K) (aT3 K) (aT4 K)) grD.ds := fun H =>
    .cons (.tup (tupA_ok y1 H) .nil) (.cons (.tup (tupA_ok y2 H) .nil) (.cons (.tup (tupA_ok y3 H) .nil) (.cons (.tup (tupA_ok y4 H) (.cons (.str _) .nil)) (.cons (.tup (tupA_ok y5 H) (.cons (.str _) .nil))
      (.cons (.str _) (.cons (.bl _) (.cons (.int _) (.cons (.int _) (.cons (.str _) (.cons (.str _) (.cons (.str _) (.cons (.str _) .nil))))))))))))
  exact ok_law F_law N T hmax hmin N.enu d__law_source d__law_draw d__law_one d__law_template d__law_any_size d__law_fields d__law_right d_lane_sizes dd d_Grid kA kB
end K5

set_option Elab.async false
set_option linter.all false
set_option maxRecDepth 100000
set_option maxHeartbeats 0
namespace K5
open PySem PySem.Spec PyProof.Rows L2
abbrev R : PySem.W.OpenRow := PySem.W.OpenLaw.row PySem.Challenge.rw_gridlanes_k27_sizes_of_all_lanes
abbrev hk : PySem.W.Hook := hookP 800 fa fn exB
def ob (s : PySem.W.SharedT) : AlP := obsPG 800 fa fn exB (HandSHeadRun.getT s)
theorem ob_eq (s : PySem.W.SharedT) : ob s = hk.obs s.abs := obsPG_eq (HandSHeadRun.getT_eq s)
def lo1 : List Str := ["LaneError", "NoNumber", "NoGrid", "ManyLanes", "NoAxis", "LETTERS", "NAME_SIGNS", "LONGEST_NAME", "is_word", "is_marked", "is_name", "are_names", "NO_FIELD", "MOST_FIELD_ROWS", "MOST_FIELD_COLUMNS"]
def lo2 : List Str := ["is_field_word", "is_field_row", "field_cells", "is_rectangle", "wrong_field_row", "Moment", "is_integer", "is_number", "is_length", "fraction_of", "number_of", "is_moving", "moving_parts", "moving_of", "moving_sum"]
def lo3 : List Str := ["keep_turn", "is_above", "at_most", "SIZE_WORDS", "MOST_REPEATS", "MOST_SIZES", "MOST_INHERITED_NAMES", "is_part", "is_share", "is_fixed", "is_plain_size", "is_between", "is_upto", "is_size", "low_of"]
def lo4 : List Str := ["high_of", "is_names_entry", "are_inner_entries", "is_repeat", "is_filler", "is_entry", "sizes_in", "may_be_filled", "are_entries", "is_inherited", "is_template", "FLOWS", "LANES_WAYS", "WAYS_ACROSS", "WAYS_DOWN"]
def lo5 : List Str := ["MOST_FURTHER_SIZES", "Grid", "check_grid", "check_fields", "check_further_sizes", "AXES", "MOST_LANES", "check_axis", "check_grid_axis", "check_lanes", "asked_template", "inherits", "template_of", "further_sizes", "field_lanes"]
def lo6 : List Str := ["is_names", "is_fill", "filler_of", "inner_sizes", "written_entries", "written_sizes", "filled_lanes", "told_lanes", "check_repeats", "further_size", "sizes_between", "template_sizes", "lane_count", "lane_sizes", "_law_mix"]
def lo7 : List Str := ["_law_source", "_law_draw", "_law_one", "_law_num", "_law_units", "_law_length", "_law_fixed", "_law_counted_size", "_law_any_size", "_law_plain", "_law_template", "_law_written", "_law_right", "_law_fields"]
def loo : List Str := lo1 ++ lo2 ++ lo3 ++ lo4 ++ lo5 ++ lo6 ++ lo7
theorem map3 {a b1 b2 b3 : Type} {A : Option a} {f1 : a → b1} {f2 : a → b2} {f3 : a → b3} {v1 : b1} {v2 : b2} {v3 : b3} (h1 : A.map f1 = some v1) (h2 : A.map f2 = some v2) (h3 : A.map f3 = some v3) : A.map (fun x => (f1 x, f2 x, f3 x)) = some (v1, v2, v3) := by
  cases A with
  | none => exact nomatch h1
  | some x =>
    have e1 : f1 x = v1 := Option.some.inj h1
    have e2 : f2 x = v2 := Option.some.inj h2
    have e3 : f3 x = v3 := Option.some.inj h3
    rw [← e1, ← e2, ← e3]
    rfl
theorem run1 (w : World) : (HandSHeadRun.wholeF (fun p => HandSHeadRun.stepQ (HandSHeadRun.denQ HandSHeadRun.tabQ) p w) HandSHeadRun.fenceQ 60000 R.prog).map (fun x => HandSHeadRun.looksF R.prog x.1.heap x.2.abs) = some true := by
  kernel_rfl
theorem run2 (w : World) : (HandSHeadRun.wholeF (fun p => HandSHeadRun.stepQ (HandSHeadRun.denQ HandSHeadRun.tabQ) p w) HandSHeadRun.fenceQ 60000 R.prog).map (fun x => HandSHeadRun.seenQ (PySem.W.view R.prog [0, 115]) loo (importedModules R.prog.main.body) (fun s => PySem.W.xlAt (PySem.W.view R.prog [0, 115]) [] s && PySem.W.recOk R.toRowW.records s) x.2.abs) = some (PySem.W.openGood (PySem.W.view R.prog [0, 115]) loo) := by
  kernel_rfl
theorem run3 (w : World) : (HandSHeadRun.wholeF (fun p => HandSHeadRun.stepQ (HandSHeadRun.denQ HandSHeadRun.tabQ) p w) HandSHeadRun.fenceQ 60000 R.prog).map (fun x => ob x.2) = some (hk.val w) := by
  kernel_rfl
theorem run (w : World) : HandSHeadRun.RunEqI R (PySem.W.view R.prog [0, 115]) hk ob 60000 loo w := map3 (run1 w) (run2 w) (run3 w)
end K5
open PySem PySem.W PySem.Calls PyProof.Rows
theorem PySem.Challenge.cw_gridlanes_k27_sizes_of_all_lanes_holds : PySem.Challenge.rw_gridlanes_k27_sizes_of_all_lanes.Holds := by
  w_on; o_law
  refine HandSHeadRun.head_imp (r := OpenLaw.row PySem.Challenge.rw_gridlanes_k27_sizes_of_all_lanes) (q := view (OpenLaw.row PySem.Challenge.rw_gridlanes_k27_sizes_of_all_lanes).prog [0, 115]) (H := K5.hk) (ob := K5.ob) (M := 60000) (loose := K5.loo) (d := HandSHeadRun.topDef (OpenLaw.row PySem.Challenge.rw_gridlanes_k27_sizes_of_all_lanes).prog 115) (kwd := []) K5.ob_eq
    K5.run (by kernel_rfl) (by kernel_rfl) (by kernel_rfl) (by rfl) (by first | assumption | decide +kernel) (by decide +kernel) ⟨rfl, rfl, rfl, rfl, rfl, by decide +kernel⟩ ?hw ?hc
  case hw => w_witness2
  case hc =>
    refine L2.walk_ofE (l := PySem.Challenge.rw_gridlanes_k27_sizes_of_all_lanes) (n := 63) (k := 17) (x := "script") (CX := L2.CX0) rfl (by decide) (by kernel_rfl) ⟨rfl, by decide, by decide⟩ ?F (fun _ _ _ _ z => z)
    intro w mg fa h Y G hmg0
    obtain ⟨K, KX, c, x⟩ := Y
    have hmg : mg ("law" : PySem.Str) = some (.ref fa) := by
      have e : (HandSHeadRun.topDef (OpenLaw.row PySem.Challenge.rw_gridlanes_k27_sizes_of_all_lanes).prog 115).name = ("law" : PySem.Str) := by kernel_rfl
      rw [← e]
      exact hmg0
    obtain ⟨fd, hb, hF⟩ := K5.facts (P := (PySem.Challenge.rw_gridlanes_k27_sizes_of_all_lanes).prog) (w := w) KX G hmg c x
    exact ⟨K, fd, K5.spLaw K, KX, hb, fun H a ns hl _ hS => ⟨a, ns, rfl, hS, hl, fun _ => rfl⟩, hF⟩
#print axioms PySem.Challenge.cw_gridlanes_k27_sizes_of_all_lanes_holds
