import PyProof.Rows.All
import Wide.All
import OpenK.AllK
import Wide.FinOn
import KE.KStateDown
import KE.KExcIs
import HandS.ForMost
import HandS.Exc
import HandS.ExcOwn
import HandS.ExcValue
import HandS.ExcInit
import HandS.ExcField
import HandS.ExcIs
import HandS.ExcBuiltin
import HandS.IsInst
import HandS.Defaults
import HandS.Flow
import HandS.Head0
import HandS.Head1
import HandS.Head2
import HandS.HeadEnd
import HandS.HeadHook1
import HandS.HeadHook2
import PySem.Challenge.RW_gridlanes_k04_exceptions
set_option Elab.async false
set_option linter.all false
set_option maxRecDepth 100000
set_option maxHeartbeats 4000000
namespace PySem
namespace HandSPX
open Builtin Builtin.ObjectAttr
section
variable {M : Model} {A : Around} {E : Value → Shared → Prop} {h : Heap} {g : Array GenState} {d : Drawn} {t : Nat} {os : OsState}
variable {nm q : Str} {C N : Addr} {bs bm bmB : List Value} {hdct : Bool} {sn : List Str} {sub : List Value} {ab : Bool} {col : Option Bool} {dd : Option Addr} {k0 k1 k2 k3 k5 : Option Value} {B newId initId : String}
theorem ev_check1 (F : ExcBaseFacts B newId initId bmB) (hT : ∀ X : String, bm.contains (.type X) = bmB.contains (.type X)) {rest : List Value} {kw : List (Str × Value)} (hkw : (∃ y1 u1, kw = [(y1, u1)]) ∨ ∃ y1 u1 y2 u2, kw = [(y1, u1), (y2, u2)]) {Q : Unit → Shared → Prop}
    (hC : h.get? C = some (excClassObj nm q C N bs bm hdct sn sub ab col dd k0 k1 k2 k3 k5 newId)) (hq : Q () ⟨h, g, d, t, os⟩) : wpAny M A (checkBuiltinCall newId ⟨.ref C :: rest, kw⟩) Q E ⟨h, g, d, t, os⟩ := by
  have hcont : (Value.ref C :: bm).contains (.type B) = true := by rw [List.contains_cons, hT, F.hasB, Bool.or_true]
  have hstar := F.noStar
  rcases hkw with ⟨y1, u1, rfl⟩ | ⟨y1, u1, y2, u2, rfl⟩
  · simp only [checkBuiltinCall, F.newKind, F.newSplit, F.newRow]
    repeat (first | refine wpAny_loadPart_at hC ?_ | (refine wpAny_isSubtype_exc hC ?_; rw [hcont]) | refine wpAny_staticBase_exc hC ?_ | refine wpAny_madeBy_exc hC ?_ | simp only [bne_self_eq_false, Bool.false_eq_true, if_false] | wp_step)
    exact hq
  · simp only [checkBuiltinCall, F.newKind, F.newSplit, F.newRow]
    repeat (first | refine wpAny_loadPart_at hC ?_ | (refine wpAny_isSubtype_exc hC ?_; rw [hcont]) | refine wpAny_staticBase_exc hC ?_ | refine wpAny_madeBy_exc hC ?_ | simp only [bne_self_eq_false, Bool.false_eq_true, if_false] | wp_step)
    exact hq
end
section
variable {prog : Program} {w : World} {A : Around} {E : Value → Shared → Prop} {R : Result → Shared → Prop} {h : Heap} {g : Array GenState} {d : Drawn} {t : Nat} {os : OsState}
variable {nm q : Str} {C N : Addr} {bs bm bmB : List Value} {hdct : Bool} {sn : List Str} {sub : List Value} {ab : Bool} {col : Option Bool} {dd : Option Addr} {k0 k1 k2 k3 k5 : Option Value} {B newId initId : String}
theorem ev_new (F : ExcBaseFacts B newId initId bmB) (hT : ∀ X : String, bm.contains (.type X) = bmB.contains (.type X)) {rest : List Value} {kw : List (Str × Value)}
    (hC : h.get? C = some (excClassObj nm q C N bs bm hdct sn sub ab col dd k0 k1 k2 k3 k5 newId))
    (hq : R (.ok (.ret (.ref (h.objs.size + 1)))) ⟨(h.push { cls := .type "tuple", data := .seq rest.toArray }).push
      { cls := .ref C, data := .fields #[.ref h.objs.size, .none, .none, .none, .bool false, .none] }, g, d, t, os⟩) (hrest : rest.length ≤ sizeLine) :
    codeAny (model prog w) A (.builtin newId ⟨.ref C :: rest, kw⟩) R ⟨h, g, d, t, os⟩ := by
  have hends := F.ends
  have hcB : (Value.ref C :: bm).contains (.type B) = true := by rw [List.contains_cons, hT, F.hasB, Bool.or_true]
  have hcA : (Value.ref C :: bm).contains (.type "AttributeError") = false := by rw [List.contains_cons, hT, F.noAttr]; rfl
  have hcN : (Value.ref C :: bm).contains (.type "NameError") = false := by rw [List.contains_cons, hT, F.noName]; rfl
  refine codeAny_builtinAt F.entry ?_
  unfold Builtin.«BaseException.__new__»
  refine wpAt_bind ?_
  show wpAt _ _ _ (stack >>= _) _ _ _
  refine wpAt_bind (wpAt_stack fun p below => wpAt_of_wpAny ?_)
  wp_walk
  refine wpAt_of_wpAny ?_
  rw [F.owner]
  repeat (first | with_reducible refine wpAny_madeHere_exc F.canon hC ?_ | with_reducible refine wpAny_loadPart_at hC ?_ | (with_reducible refine wpAny_isSubtype_exc hC ?_; first | rw [hcB] | rw [hcA] | rw [hcN]) | wp_step)
  show R _ _
  rw [Heap.size_push]
  exact hq
theorem ev_type_call (F : ExcBaseFacts B newId initId bmB) (hT : ∀ X : String, bm.contains (.type X) = bmB.contains (.type X)) {rest : List Value} {kw : List (Str × Value)} (hkw : (∃ y1 u1, kw = [(y1, u1)]) ∨ ∃ y1 u1 y2 u2, kw = [(y1, u1), (y2, u2)]) {fI : Addr} {Q : Fin → Shared → Prop}
    (hC : h.get? C = some (excClassObj nm q C N bs bm hdct sn sub ab col dd k0 k1 k2 k3 k5 newId))
    (hi : W.Looks (model prog w) h (typeLookup (.ref C) "__init__") (some (.ref fI))) (hb : ∀ self, W.Looks (model prog w) h (bindSpecial (.ref fI) self) (.ref fI, [self])) (hrest : rest.length ≤ sizeLine)
    (hq : codeAny (model prog w) A (.call (.ref fI) ⟨.ref (h.objs.size + 1) :: rest, kw⟩)
      (fun r s' => match r with | .ok (.ret v) => v = .none ∧ Q (.done (.ret (.ref (h.objs.size + 1)))) s' | .ok _ => False | .error e => E e s')
      ⟨(h.push (W.kdv_tup rest)).push (excO C h.objs.size), g, d, t, os⟩) :
    wpAny (model prog w) A (Builtin.«type.__call__» ⟨.ref C :: rest, kw⟩) Q E ⟨h, g, d, t, os⟩ := by
  repeat (first | with_reducible refine wpAny_loadPart_at hC ?_ | with_reducible refine wpAny_madeBy_exc hC ?_ | wp_step)
  refine codeAny_call_builtin_code (Code.quiet_builtin _ F.quiet) (ev_check1 F hT hkw hC ?_)
  refine ev_new F hT hC ?_ hrest
  show wpAny _ _ _ _ _ _
  have k : ∀ b o, h.get? b = some o → ((h.push (W.kdv_tup rest)).push (excO C h.objs.size)).get? b = some o := fun b o e => Heap.get?_push_of_some _ (Heap.get?_push_of_some _ e)
  have hC₁ := k _ _ hC
  have hget : ((h.push (W.kdv_tup rest)).push (excO C h.objs.size)).get? (h.objs.size + 1) = some (excO C h.objs.size) := by heap_get
  have hcC : (Value.ref C :: bm).contains (.ref C) = true := by simp
  have i1 := hi.keeps k
  have b1 := (hb (.ref (h.objs.size + 1))).keeps k
  unfold isInstance
  repeat (first | with_reducible refine wpAny_loadPart_at hget ?_ | (with_reducible refine wpAny_isSubtype_exc hC₁ ?_; rw [hcC]) | wp_step)
  show wpAny _ _ (typeLookup (.ref C) _) _ _ _
  refine i1.at ?_
  refine wpAny_holding (wpAny_bind (b1.at ?_))
  refine wpAny_bind (wpAny_call (codeAny_mono hq fun r s' z => ?_))
  rcases r with e | (v | _ | _ | _) <;> first | exact z | exact z.elim | skip
  obtain ⟨rfl, z⟩ := z
  first
    | exact wpAny_pure (wpAny_pure z)
    | (wp_walk; exact z)
theorem ev_call (F : ExcBaseFacts B newId initId bmB) (hT : ∀ X : String, bm.contains (.type X) = bmB.contains (.type X)) {rest : List Value} {kw : List (Str × Value)} (hkw : (∃ y1 u1, kw = [(y1, u1)]) ∨ ∃ y1 u1 y2 u2, kw = [(y1, u1), (y2, u2)]) {fI : Addr}
    (hC : h.get? C = some (excClassObj nm q C N bs bm hdct sn sub ab col dd k0 k1 k2 k3 k5 newId))
    (hi : W.Looks (model prog w) h (typeLookup (.ref C) "__init__") (some (.ref fI))) (hb : ∀ self, W.Looks (model prog w) h (bindSpecial (.ref fI) self) (.ref fI, [self])) (hrest : rest.length ≤ sizeLine)
    (hq : codeAny (model prog w) (A.under (.builtin "type.__call__" ⟨.ref C :: rest, kw⟩)) (.call (.ref fI) ⟨.ref (h.objs.size + 1) :: rest, kw⟩) (W.InitBack (h.objs.size + 1) R)
      ⟨(h.push (W.kdv_tup rest)).push (excO C h.objs.size), g, d, t, os⟩) :
    codeAny (model prog w) A (.call (.ref C) ⟨rest, kw⟩) R ⟨h, g, d, t, os⟩ := by
  have f1 := tc_lookup
  have f2 := tc_bind (.ref C)
  have hTy : (⟨h, g, d, t, os⟩ : Shared).TypeIs (.ref C) "type" := ⟨_, hC, rfl⟩
  refine codeAny_of_tree ?_
  show wpAny _ _ (callAny (.ref C) _) _ _ _
  repeat (any_goals (first | assumption | with_reducible refine wpAny_loadPart_at hC ?_ | wp_step))
  refine ⟨rfl, ?_⟩
  refine codeAny_call_builtin_at (Code.quiet_builtin _ (by decide +kernel)) entry_typeCall (wpAny_check_type_call_sub hC (ev_type_call F hT hkw hC hi hb hrest ?_))
  refine codeAny_mono hq fun r s' z => ?_
  rcases r with e | (v | _ | _ | _) <;> exact z
end
end HandSPX
end PySem
namespace L2
open PySem PySem.Spec PyProof.Rows
/-! ### exceptions of own classes as values -/
/-- at a: an exception of the class at C, its fields fs in a dict of its own -/
def ExAt (H : Hp) (a C : Addr) (fs : List (Str × V)) : Prop := ∃ d, H a = some (exo a C (some d)) ∧ H d = some (exd d fs)
theorem ExAt.same {H H' : Hp} {a C : Addr} {fs : List (Str × V)} (x : ExAt H a C fs) (s : Same H H') : ExAt H' a C fs := by
  obtain ⟨d, h1, h2⟩ := x
  exact ⟨d, s _ _ h1, s _ _ h2⟩
/-- weaker readings -/
theorem pe_imp {X : Cx} {e : Expr} {t t' : TE} (he : PE X e t) (h : ∀ σ H Q, t' σ H Q → t σ H Q) : PE X e t' := ⟨fun pins s σ H Q I q => he.run pins s σ H Q I (h _ _ _ q)⟩
/-- C(e, ..): the class's own __init__ keeps sp -/
def tMkE (R : List V → Hp → VK → Prop) (t : TA) : TE := fun σ H Q => t σ H fun vs H1 => R vs H1 Q
/-- what R must give -/
def MkR (C : Addr) (sp : Sp) (R : List V → Hp → VK → Prop) : Prop := ∀ vs H1 Q, R vs H1 Q → vs.length ≤ 1000 ∧ ∀ a, H1 a = none → sp (.ref a :: vs) (upd H1 a (exo a C none)) (fun v H2 => v = .non ∧ Q (.ref a) H2) (fun _ _ _ => False)
def MkRK (C : Addr) (n : Nat) (sp : Sp) (gV : List V → List V → List V) (R : List V → Hp → VK → Prop) : Prop := ∀ zs H1 Q, R zs H1 Q → zs.length = n ∧ ∀ a, H1 a = none → sp (gV [.ref a] zs) (upd H1 a (exo a C none)) (fun v H2 => v = .non ∧ Q (.ref a) H2) (fun _ _ _ => False)
section
variable {X : Cx} {e : Expr} {es : List Expr} {kws : List Keyword} {te : TE} {t tk : TA} {p pos : Pos} {CX : CXT} {x : Str} {C fI : Addr} {k : Nat} {fd : FuncData} {ps ks : List Str} {sp : Sp} {g : List Value → List Value → List Value} {gV : List V → List V → List V} {R : List V → Hp → VK → Prop}
theorem pe_mkE (T : OexC X.K C) (iC : PySem.W.findIn X.K (.ref C) "__init__" = some (some (.ref fI))) (tI : PySem.W.typeIn X.K (.ref fI) = some (.type "function"))
    (F1 : FnOk X.prog X.w X.K X.mg X.base CX k fI fd ps sp) (hr : Room (k + 1) X.A) (hb : Binds X.K fd ps []) (hx : Passes CX X (fun _ _ _ => False)) (hg : Gl X x) (hm : X.mg x = some (.ref C)) (hR : MkR C sp R) (ha : PA X (e :: es) t)
    (hdb : (x == ("__debug__" : Str)) = false := by decide) (he : starEach (e :: es) X.env = (false, eval e X.env) :: starEach es X.env := by rfl) (hpl : (backTo pos (starEach es X.env)).any (·.1) = false := by rfl) :
    PE X (.Call (.Name x p) (e :: es) [] pos) (tMkE R t) := by
  refine ⟨fun pins s σ H Q I h => ?_⟩
  obtain ⟨nm, q, N, bs, bm, sn, sub, ab, col, dd, k0, k1, k2, k3, k5, hC, hbm⟩ := T.cls
  refine wpAny_Call_Name_kw (ld_glob I hg hm ?_ hdb)
  refine PySem.W.callWith_K (h₀ := X.base) I.ok.mod.kin T.kC (thn (ha.run pos pins s σ H _ I h) fun us s1 ⟨vs, H1, I1, r1, qR⟩ => ⟨I1.kIn, ?_⟩) he hpl
  obtain ⟨hz, q1⟩ := hR _ _ _ qR
  show wpAny _ _ (call (.ref C) us) _ _ _
  obtain ⟨hp, g, dr, tk, os⟩ := s1
  have hsz : hp.objs.size ≤ hp.objs.size + 1 := Nat.le_succ _
  have hn : H1 (hp.objs.size + 1) = none := I1.hok.fresh hsz
  have hq := q1 (hp.objs.size + 1) hn
  have kk : ∀ b o, hp.get? b = some o → ((hp.push (PySem.W.kdv_tup us)).push (PySem.HandSPX.excO C hp.objs.size)).get? b = some o := fun b o e => Heap.get?_push_of_some _ (Heap.get?_push_of_some _ e)
  have hget : ((hp.push (PySem.W.kdv_tup us)).push (PySem.HandSPX.excO C hp.objs.size)).get? (hp.objs.size + 1) = some (PySem.HandSPX.excO C hp.objs.size) := by heap_get
  have I2 : Inv X pins σ (upd H1 (hp.objs.size + 1) (exo (hp.objs.size + 1) C none)) ⟨(hp.push (PySem.W.kdv_tup us)).push (PySem.HandSPX.excO C hp.objs.size), g, dr, tk, os⟩ :=
    I1.laid (t' := tk) (a := hp.objs.size + 1) (o := exo (hp.objs.size + 1) C none) (h' := (hp.push (PySem.W.kdv_tup us)).push (PySem.HandSPX.excO C hp.objs.size)) kk hsz (exo_ok hget)
  have r2 : Vals (V.ref (hp.objs.size + 1) :: vs) (Value.ref (hp.objs.size + 1) :: us) := .cons rfl r1
  have hl : (Value.ref (hp.objs.size + 1) :: us ++ []).length = ps.length := by
    have e := r2.length
    rw [F1.len _ _ _ _ hq] at e
    rw [List.append_nil]
    exact e.symm
  have hus : us.length ≤ sizeLine := by
    rw [← Paired.length r1, sizeLine_eq]
    omega
  have bb := hb ⟨(hp.push (PySem.W.kdv_tup us)).push (PySem.HandSPX.excO C hp.objs.size), g, dr, tk, os⟩ (Value.ref (hp.objs.size + 1) :: us) I2.kIn hl
  rw [List.append_nil] at bb
  refine wpAny_call (PySem.HandSPX.call_own F.excBase_ValueError (fun Y => PySem.HandSPX.refsVE_contains Y bm hbm) (I1.kIn _ _ hC) (PySem.W.looks_findIn I1.kIn iC) (fun self => PySem.W.bind_fn I1.kIn self tI) hus
    (codeAny_mono (F1.run _ X.stack _ _ ⟨Value.ref (hp.objs.size + 1) :: us, []⟩ (Value.ref (hp.objs.size + 1) :: us) _ _ (fun _ _ _ => False) (hr.make C us []) (I2.env0.make C us []) bb r2 hq) fun r s' hq' => ?_))
  cases r with
  | error er => exact hx pins σ _ _ er s' I2 hq'
  | ok fl =>
    cases fl with
    | ret u =>
      obtain ⟨v, H', I3, rv, ev, q3⟩ := I2.after hq'
      subst ev
      exact ⟨rv, ⟨V.ref (hp.objs.size + 1), H', I3, rfl, q3⟩⟩
    | next => exact False.elim hq'
    | brk => exact False.elim hq'
    | cont => exact False.elim hq'
theorem pe_mkEK (T : OexC X.K C) (iC : PySem.W.findIn X.K (.ref C) "__init__" = some (some (.ref fI))) (tI : PySem.W.typeIn X.K (.ref fI) = some (.type "function"))
    (F1 : FnOk X.prog X.w X.K X.mg X.base CX k fI fd ps sp) (hr : Room (k + 1) X.A) (hb : KBn X.K fd ps 1 ks g gV) (hx : Passes CX X (fun _ _ _ => False)) (hg : Gl X x) (hm : X.mg x = some (.ref C)) (hR : MkRK C ks.length sp gV R) (hkw : PK X kws tk) (hk2 : (∃ y, ks = [y]) ∨ ∃ y z, ks = [y, z])
    (hall : (backToKw pos (keywordEach kws X.env)).all (·.1.isSome) = true := by rfl) (hks : (backToKw pos (keywordEach kws X.env)).filterMap (·.1) = ks := by rfl) (hdb : (x == ("__debug__" : Str)) = false := by decide)
    (hpl : ((backTo pos (starEach [] X.env)).any (·.1) || (backToKw pos (keywordEach kws X.env)).any (·.1.isNone)) = false := by rfl) :
    PE X (.Call (.Name x p) [] kws pos) (tMkE R tk) := by
  refine ⟨fun pins s σ H Q I h => ?_⟩
  obtain ⟨nm, q, N, bs, bm, sn, sub, ab, col, dd, k0, k1, k2, k3, k5, hC, hbm⟩ := T.cls
  refine wpAny_Call_Name_kw (ld_glob I hg hm ?_ hdb)
  refine PySem.W.callWith_KW0 (h₀ := X.base) I.ok.mod.kin T.kC hall ?_ hpl
  refine thn (hkw.run pos pins s σ H _ I h) fun ws s1 ⟨zs, H1, I1, rz, qR⟩ => ⟨I1.kIn, ?_⟩
  obtain ⟨lz, q1⟩ := hR _ _ _ qR
  rw [hks]
  show wpAny _ _ (call (.ref C) [] (ks.zip ws)) _ _ _
  obtain ⟨hp, gg, dr, tk, os⟩ := s1
  have hsz : hp.objs.size ≤ hp.objs.size + 1 := Nat.le_succ _
  have hn : H1 (hp.objs.size + 1) = none := I1.hok.fresh hsz
  have hq := q1 (hp.objs.size + 1) hn
  have kk : ∀ b o, hp.get? b = some o → ((hp.push (PySem.W.kdv_tup [])).push (PySem.HandSPX.excO C hp.objs.size)).get? b = some o := fun b o e => Heap.get?_push_of_some _ (Heap.get?_push_of_some _ e)
  have hget : ((hp.push (PySem.W.kdv_tup [])).push (PySem.HandSPX.excO C hp.objs.size)).get? (hp.objs.size + 1) = some (PySem.HandSPX.excO C hp.objs.size) := by heap_get
  have I2 : Inv X pins σ (upd H1 (hp.objs.size + 1) (exo (hp.objs.size + 1) C none)) ⟨(hp.push (PySem.W.kdv_tup [])).push (PySem.HandSPX.excO C hp.objs.size), gg, dr, tk, os⟩ :=
    I1.laid (t' := tk) (a := hp.objs.size + 1) (o := exo (hp.objs.size + 1) C none) (h' := (hp.push (PySem.W.kdv_tup [])).push (PySem.HandSPX.excO C hp.objs.size)) kk hsz (exo_ok hget)
  have r2 := hb.rel (vs := [V.ref (hp.objs.size + 1)]) (us := [Value.ref (hp.objs.size + 1)]) (.cons rfl .nil) rz
  have e2 : ws.length = ks.length := rz.length.symm.trans lz
  have hkw2 : (∃ y1 u1, ks.zip ws = [(y1, u1)]) ∨ ∃ y1 u1 y2 u2, ks.zip ws = [(y1, u1), (y2, u2)] := by
    rcases hk2 with ⟨y, rfl⟩ | ⟨y, z, rfl⟩
    · match ws, e2 with
      | [u], _ => exact .inl ⟨y, u, rfl⟩
    · match ws, e2 with
      | [u, v], _ => exact .inr ⟨y, u, z, v, rfl⟩
  refine wpAny_call (PySem.HandSPX.ev_call F.excBase_ValueError (fun Y => PySem.HandSPX.refsVE_contains Y bm hbm) hkw2 (I1.kIn _ _ hC) (PySem.W.looks_findIn I1.kIn iC) (fun self => PySem.W.bind_fn I1.kIn self tI) (Nat.zero_le _)
    (codeAny_mono (F1.run _ X.stack _ _ ⟨[Value.ref (hp.objs.size + 1)], ks.zip ws⟩ (g [Value.ref (hp.objs.size + 1)] ws) _ _ (fun _ _ _ => False) (hr.make C [] (ks.zip ws)) (I2.env0.make C [] (ks.zip ws)) (hb.to _ [Value.ref (hp.objs.size + 1)] ws I2.kIn rfl e2) r2 hq) fun r s' hq' => ?_))
  cases r with
  | error er => exact hx pins σ _ _ er s' I2 hq'
  | ok fl =>
    cases fl with
    | ret u =>
      obtain ⟨v, H', I3, rv, ev, q3⟩ := I2.after hq'
      subst ev
      exact ⟨rv, ⟨V.ref (hp.objs.size + 1), H', I3, rfl, q3⟩⟩
    | next => exact False.elim hq'
    | brk => exact False.elim hq'
    | cont => exact False.elim hq'
/-- C(): an own class without an own __init__ -/
theorem pe_mkE0 (F : ExcBaseFacts "ValueError" "ValueError.__new__" "ValueError.__init__" PySem.HandSPX.veTail) (q : PySem.W.excIn X.K C PySem.HandSPX.veTail "ValueError.__new__" = true) (kC : PySem.W.keepIn X.K (.ref C) = true) (hg : Gl X x) (hm : X.mg x = some (.ref C))
    (hdb : (x == ("__debug__" : Str)) = false := by decide) : PE X (.Call (.Name x p) [] [] pos) (fun σ H Q => ∀ a, H a = none → Q (.ref a) (upd H a (exo a C none))) := by
  refine ⟨fun pins s σ H Q I h => ?_⟩
  refine wpAny_Call_Name_kw (ld_glob I hg hm ?_ hdb)
  refine PySem.W.callWith_K0 I.kIn kC ?_
  show wpAny _ _ (call (.ref C) []) _ _ _
  obtain ⟨bm, N, nm, qn, bs, hdct, sn, sub, ab, col, dd, k0, k1, k2, k3, k5, mN, hC, hN, hni, T⟩ := exc_obj I.kIn q
  refine wpAny_call_exc_subT F T hC hN hni (fun h' a hm => ?_) (Nat.zero_le _)
  have hn : H a = none := I.hok.gone hm.new
  obtain ⟨t, ht, _, _⟩ := hm.there
  exact ⟨.ref a, upd H a (exo a C none), I.laidN hm.keeps hm.new hn (exo_ok ht), rfl, h a hn⟩
/-- e.f -/
def tFldE (K : PySem.W.Frag) (f : Str) (te : TE) : TE := fun σ H Q => te σ H fun x H1 => ∃ (a C : Addr) (fs : List (Str × V)) (v : V), x = .ref a ∧ ExAt H1 a C fs ∧ XfC K C ∧ PySem.W.findIn K (.ref C) f = some none ∧ fs.lookup f = some v ∧ Q v H1
theorem pe_fldE {n : Str} (he : PE X e te) (hb : attributeBase e n X.env (eval e X.env) = eval e X.env := by rfl) : PE X (.Attribute e n pos) (tFldE X.K n te) := by
  refine ⟨fun pins s σ H Q I h => ?_⟩
  refine attr_of hb (thn (he.run pins s σ H _ I h) fun u s1 hh => ?_)
  obtain ⟨x, H1, I1, rx, a, C, fs, v, ex, ⟨d, ha, hd⟩, T, hno, l, q⟩ := hh
  subst ex
  obtain rfl : u = Value.ref a := rx
  obtain ⟨t1, ho⟩ := exo_at I1.hok ha
  obtain ⟨mA, hns, hr⟩ := exd_at I1.hok hd
  obtain ⟨od, ho2, hl⟩ := lookIn_ns hns
  obtain ⟨u, hu, ru⟩ := RelO.some_of (v := v) (o := mA n) (by rw [← l]; exact hr n)
  have J : PySem.W.InstAt s1.heap a _ C (some od) := ⟨ho, rfl, rfl, ho2⟩
  exact HandSPX.exc_get I1.kIn J T.ga T.gg T.exC (PySem.W.findObj_own T.hdC hno rfl (by rw [hl, hu])) (handed_of ru) ⟨v, H1, I1.tok _, ru, q⟩
/-- isinstance(e, c), e such an exception -/
def rIsV (K : PySem.W.Frag) : List V → Hp → VK → Prop := fun xs H Q => ∃ (a D : Addr) (d : Option Addr) (c : V) (cv : Value) (b : Bool), xs = [.ref a, c] ∧ H a = some (exo a D d) ∧ (∀ dx, d = some dx → ∃ fs, H dx = some (exd dx fs)) ∧ ExcC K D ∧ ClsV c cv ∧
  PySem.W.kitOne K (.ref D) cv = some b ∧ Q (.bl b) H
theorem call_isV : CallR X (.builtin "isinstance") (rIsV X.K) := by
  intro pins s σ H xs us Q I r h
  obtain ⟨a, D, d, c, cv, b, rfl, ha, hd, C, hcv, e, q⟩ := h
  obtain ⟨u1, u2, rfl, r1, r2⟩ := vals2 r
  have e2 := hcv.eq r2
  subst e2
  obtain rfl : u1 = Value.ref a := r1
  obtain ⟨t1, ho⟩ := exo_at I.hok ha
  have hcl : (PySem.W.clsIn X.K D).isSome = true := by
    obtain ⟨cd, hc, _⟩ := PySem.W.any_some C.hd
    rw [hc]
    rfl
  cases d with
  | none =>
    have J : PySem.W.InstAt s.heap a _ D none := ⟨ho, rfl, rfl, trivial⟩
    exact PySem.W.kia_one (PySem.W.kitx_exc hcl C.hg C.hk C.hs C.ha C.hn C.ht C.hm) I.kIn J e (fun z => nomatch z) fun tk => ⟨.bl b, H, I.tok tk, rfl, q⟩
  | some dx =>
    obtain ⟨fs, hdx⟩ := hd dx rfl
    obtain ⟨mA, hns, hr⟩ := exd_at I.hok hdx
    obtain ⟨od, ho2, hl⟩ := lookIn_ns hns
    have J : PySem.W.InstAt s.heap a _ D (some od) := ⟨ho, rfl, rfl, ho2⟩
    exact PySem.W.kia_one (PySem.W.kitx_exc hcl C.hg C.hk C.hs C.ha C.hn C.ht C.hm) I.kIn J e (fun z => nomatch z) fun tk => ⟨.bl b, H, I.tok tk, rfl, q⟩
/-- an exception of a built-in class, as a value -/
def exb (a : Addr) (T : String) : HO := .ext fun h => ∃ o, h.get? a = some o ∧ o.cls = .type T
theorem pe_exbV {T N I' : String} (F : ExcB T N I') (hg : Gl X x) (hm : X.mg x = none) (hv : bootBuiltins x = some (.type T)) (ha : PA X (e :: es) t) (hn : x ≠ "__name__" := by decide) (hdb : (x == ("__debug__" : Str)) = false := by decide)
    (he : starEach (e :: es) X.env = (false, eval e X.env) :: starEach es X.env := by rfl) (hpl : (backTo pos (starEach es X.env)).any (·.1) = false := by rfl) :
    PE X (.Call (.Name x p) (e :: es) [] pos) (fun σ H Q => t σ H fun vs H1 => vs.length ≤ sizeLine ∧ ∀ a, H1 a = none → Q (.ref a) (upd H1 a (exb a T))) := by
  refine ⟨fun pins s σ H Q J h => ?_⟩
  refine wpAny_Call_Name_kw (ld_blt J hg hm hv ?_ hn hdb)
  refine PyProof.Rows.callWith_type1 (thn (ha.run pos pins s σ H _ J h) fun us s1 hh => ?_) he hpl
  obtain ⟨vs, H1, I1, r1, q0, q1⟩ := hh
  obtain ⟨hp1, g1, d1, tk1, os1⟩ := s1
  refine wpAny_call_exc F.call (fun h' a mk => ?_) (Nat.le_trans (Nat.le_of_eq r1.length.symm) q0)
  have hn : H1 a = none := I1.hok.gone mk.new
  have mk2 := PySem.Heap.MadeExc.of mk
  obtain ⟨t0, ha', _, _⟩ := mk2.there
  exact ⟨.ref a, upd H1 a (exb a T), I1.laidN mk.keeps mk.new hn ⟨⟨_, ha', rfl⟩, ⟨_, ha'⟩, fun _ _ ⟨o, e, c⟩ k => ⟨o, k _ e, c⟩⟩, rfl, q1 a hn⟩
def rIsB (K : PySem.W.Frag) (T : String) : List V → Hp → VK → Prop := fun xs H Q => ∃ (a : Addr) (c : V) (cv : Value) (b : Bool), xs = [.ref a, c] ∧ H a = some (exb a T) ∧ ClsV c cv ∧ PySem.W.kitOne K (.type T) cv = some b ∧ Q (.bl b) H
theorem call_isB : CallR X (.builtin "isinstance") (rIsB X.K "ValueError") := by
  intro pins s σ H xs us Q I r h
  obtain ⟨a, c, cv, b, rfl, ha, hcv, e, q⟩ := h
  obtain ⟨u1, u2, rfl, r1, r2⟩ := vals2 r
  have e2 := hcv.eq r2
  subst e2
  obtain rfl : u1 = Value.ref a := r1
  obtain ⟨⟨o, ho, hc⟩, _, _⟩ := (show ObjOk X.prog X.w H s.heap a (exb a "ValueError") from I.hok a _ ha)
  exact PySem.W.kia_one (PySem.W.kitx_bexc PySem.F.excAttr_ValueError PySem.F.lkClass_ValueError PySem.F.soClass_ValueError (by decide +kernel)) I.kIn ⟨o, ho, hc⟩ e (fun z => nomatch z) fun tk => ⟨.bl b, H, I.tok tk, rfl, q⟩
end
end L2

set_option Elab.async false
set_option linter.all false
set_option maxRecDepth 100000
set_option maxHeartbeats 4000000
/-! Draws from a well; lists put together; enumerate. -/
namespace L2
open PySem PySem.Spec PyProof.Rows
/-- list + list, whoever holds them -/
def rCatS (K : PySem.W.Frag) : R2 := fun x y H Q => ∃ l b xs zs, x = .ref l ∧ y = .ref b ∧ SqL K H l xs ∧ SqL K H b zs ∧ xs.length + zs.length ≤ sizeLine ∧ ∀ p, H p = none → Q (.ref p) (upd H p (.lst (xs ++ zs)))
theorem op_catS {X : Cx} : OpR X (binaryOp .Add) (rCatS X.K) := by
  intro pins s σ H x y v u Q I rx ry h
  obtain ⟨l, b, xs, zs, rfl, rfl, hH, hB, hz, q⟩ := h
  cases rx
  cases ry
  obtain ⟨its, r, p1, z⟩ := I.list hH
  obtain ⟨its2, r2, p2, z2⟩ := I.list hB
  have hl := r.length
  have hl2 := r2.length
  obtain ⟨⟨cls, dd, data, sl⟩, ho, hc, n, hd⟩ := id p1.isList
  obtain ⟨⟨cls2, dd2, data2, sl2⟩, ho2, hc2, n2, hd2⟩ := id p2.isList
  simp only at hc hd hc2 hd2
  subst hc hd hc2 hd2
  open PySem.P in
  refine concat_meets ⟨_, ho, rfl⟩ ⟨_, ho2, rfl⟩ noFill_list_add seq_list_add PySem.F.slot_list_add PySem.F.entry_list_add (PySem.F.args_list_add_2 _ _) (list_addW l b its.toArray its2.toArray n n2 dd dd2 sl sl2 (by rw [List.size_toArray, List.size_toArray]; omega)) ⟨ho, ho2, ?_⟩
  have ea : its.toArray ++ its2.toArray = (its ++ its2).toArray := by simp
  rw [ea]
  exact ⟨.ref _, _, I.lnew (t' := s.toks) (r.append r2) (by rw [List.length_append]; omega), rfl, q _ I.fresh⟩
theorem for_enum {K : PySem.W.Frag} {a : Addr} {xs : List V} {g : TG} {tb : TS} {D : Ends} {σ : St} {H : Hp} (Pv : Nat → St → Hp → Prop) (h0 : Pv 0 σ H) (hl : ∀ i σ H, i ≤ xs.length → Pv i σ H → SqL K H a xs)
    (hs : ∀ i x T σ H, xs[i]? = some x → Pv i σ H → H T = none → g (.ref T) σ (upd H T (.tup [.int (i : Nat), x])) fun σ2 H2 => tb { D with nx := Pv (i + 1), ct := Pv (i + 1), bk := D.nx } σ2 H2) (hd : ∀ σ H, Pv xs.length σ H → D.nx σ H) :
    ∃ W : Nat → Nat → St → Hp → Prop, (∃ m, W 0 m σ H) ∧ ∀ i m σ H, W i m σ H →
      ((Ite K a).stop i H ∧ D.nx σ H) ∨ ((Ite K a).go i H ∧ ∃ N : St → Hp → Prop, (∀ σ' H', N σ' H' → ∃ m', m' < m ∧ W (i + 1) m' σ' H') ∧ ∀ x H', (Ite K a).yld i H x H' → g x σ H' fun σ2 H2 => tb { D with nx := N, ct := N, bk := D.nx } σ2 H2) := by
  refine ⟨fun i m σ H => m = xs.length - i ∧ i ≤ xs.length ∧ Pv i σ H, ⟨xs.length, by simp, Nat.zero_le _, h0⟩, ?_⟩
  rintro i m σ H ⟨rfl, hi, p⟩
  have q := hl i σ H hi p
  by_cases hlt : i < xs.length
  · refine .inr ⟨⟨xs, xs[i], q, by simp [hlt]⟩, Pv (i + 1), fun σ' H' p' => ⟨xs.length - (i + 1), by omega, rfl, hlt, p'⟩, fun v H' y => ?_⟩
    obtain ⟨T, x, e, hT, e2, y⟩ := y
    subst e e2
    exact hs i x T σ _ (y xs q) p hT
  · have e : i = xs.length := by omega
    subst e
    exact .inl ⟨⟨xs, q, Nat.le_refl _⟩, hd σ H p⟩
/-- a well: three numbers in a list at a -/
def Well (H : Hp) (a : Addr) (n : Int) : Prop := ∃ w0 w1 w2 : Int, H a = some (.lst [.int w0, .int w1, .int w2]) ∧ 0 ≤ w0 ∧ 0 ≤ w1 ∧ w1 < 4294967296 ∧ 0 ≤ w2 ∧ w2 ≤ n
/-- nothing but a is otherwise -/
def But (a : Addr) (H H' : Hp) : Prop := ∀ b, b ≠ a → H' b = H b
theorem But.refl (a : Addr) (H : Hp) : But a H H := fun _ _ => rfl
theorem But.trans {a : Addr} {H H1 H2 : Hp} (x : But a H H1) (y : But a H1 H2) : But a H H2 := fun b hb => (y b hb).trans (x b hb)
theorem But.upd {a : Addr} {H : Hp} {o : HO} : But a H (upd H a o) := fun b hb => upd_ne hb
theorem at0 {x y z : V} : atI [x, y, z] 0 = some x := rfl
theorem at1 {x y z : V} : atI [x, y, z] 1 = some y := rfl
theorem at2 {x y z : V} : atI [x, y, z] 2 = some z := rfl
theorem ix0 : ixN 3 0 = some 0 := rfl
theorem ix2 : ixN 3 2 = some 2 := rfl
/-- draw(well, many): a number from 0 to many - 1, the well at most one count further -/
def spDraw : Sp := fun vs H Q _ => ∃ (a : Addr) (m n : Int), vs = [.ref a, .int m] ∧ Well H a n ∧ n < 1000000 ∧ 0 < m ∧ m < 1073741824 ∧ ∀ r H', 0 ≤ r → r < m → But a H H' → Well H' a (n + 1) → Q (.int r) H'
/-- one(well, some): one of them -/
def spOne (K : PySem.W.Frag) : Sp := fun vs H Q _ => ∃ (a b : Addr) (n : Int) (xs : List V), vs = [.ref a, .ref b] ∧ Well H a n ∧ n < 1000000 ∧ a ≠ b ∧ H b = some (.lst xs) ∧ 0 < xs.length ∧ xs.length < 1000000 ∧ ∀ x H', x ∈ xs → But a H H' → Well H' a (n + 1) → Q x H'
theorem fmod_in {x m : Int} (hm : 0 < m) : 0 ≤ x.fmod m ∧ x.fmod m < m := by
  rw [Int.fmod_eq_emod_of_nonneg x (Int.le_of_lt hm)]
  exact ⟨Int.emod_nonneg _ (by omega), Int.emod_lt_of_pos _ hm⟩
theorem fdiv_in {x m : Int} (hx : 0 ≤ x) (hm : 0 < m) : 0 ≤ x.fdiv m := by
  rw [Int.fdiv_eq_ediv_of_nonneg x (Int.le_of_lt hm)]
  exact Int.ediv_nonneg hx (Int.le_of_lt hm)
theorem divN {i m : Int} (h0 : 0 < m) (h1 : m < 1073741824) : CDivN i m := ⟨by omega, by omega⟩
end L2

set_option Elab.async false
set_option linter.all false
set_option maxRecDepth 100000
set_option maxHeartbeats 4000000
namespace K4
open PySem PySem.Spec PyProof.Rows L2
def top (i : Nat) : Stmt := PySem.Challenge.pw_gridlanes_k04_exceptions.main.body.getD i (.Pass ⟨0, 0, 0, 0⟩)
abbrev sI (i : Nat) : Stmt := inClass (top i) 0
abbrev sDraw : Stmt := top 21
abbrev sOne : Stmt := top 22
abbrev sTaken : Stmt := top 23
abbrev sPlace : Stmt := top 24
abbrev sName : Stmt := top 25
abbrev sFields : Stmt := top 26
abbrev sRight : Stmt := top 27
abbrev sLaw : Stmt := top 28
abbrev FnP (K : PySem.W.Frag) (x : Str) (st : Stmt) (f : Addr) (fd : FuncData) : Prop := FunD K x x (defArgs st) (defBody st) (defScope st) [] [] f fd
abbrev FnI (K : PySem.W.Frag) (q : Str) (st : Stmt) (f : Addr) (fd : FuncData) : Prop := FunD K "__init__" q (defArgs st) (defBody st) (defScope st) [] [] f fd
theorem same_upd {H : Hp} {p : Addr} {o : HO} (h : H p = none) : Same H (upd H p o) := fun b x e => by
  rw [upd_ne (ne_of_none e h)]
  exact e
/-! ### the classes -/
def spI1 (C : Addr) (f : Str) : Sp := fun vs H Q _ => ∃ (a : Addr) (y : V), vs = [.ref a, y] ∧ H a = some (exo a C none) ∧ ∀ d, H d = none → d ≠ a → Q .non (upd (upd H d (exd d [(f, y)])) a (exo a C (some d)))
def spI2 (C : Addr) (f g : Str) : Sp := fun vs H Q _ => ∃ (a : Addr) (y z : V), vs = [.ref a, y, z] ∧ H a = some (exo a C none) ∧ ∀ d, H d = none → d ≠ a → Q .non (upd (upd (upd H d (exd d [(f, y)])) a (exo a C (some d))) d (exd d [(g, z), (f, y)]))
def R1 (C : Addr) (f : Str) : List V → Hp → VK → Prop := fun vs H Q => ∃ y, vs = [y] ∧ ∀ a H2, H a = none → Same H H2 → ExAt H2 a C [(f, y)] → Q (.ref a) H2
def R2p (C : Addr) (f g : Str) : List V → Hp → VK → Prop := fun vs H Q => ∃ y z, vs = [y, z] ∧ ∀ a H2, H a = none → Same H H2 → ExAt H2 a C [(g, z), (f, y)] → Q (.ref a) H2
def R2k (C : Addr) (f g : Str) : List V → Hp → VK → Prop := fun vs H Q => ∃ y z, vs = [z, y] ∧ ∀ a H2, H a = none → Same H H2 → ExAt H2 a C [(g, z), (f, y)] → Q (.ref a) H2
theorem mk1_fin {H : Hp} {a d C : Addr} {fs : List (Str × V)} (na : H a = none) (nd : upd H a (exo a C none) d = none) (ne : d ≠ a) : Same H (upd (upd (upd H a (exo a C none)) d (exd d fs)) a (exo a C (some d))) ∧ ExAt (upd (upd (upd H a (exo a C none)) d (exd d fs)) a (exo a C (some d))) a C fs := by
  have nd' : H d = none := by
    rw [upd_ne ne] at nd
    exact nd
  refine ⟨fun b o e => ?_, d, upd_same, by rw [upd_ne ne, upd_same]⟩
  have ba : b ≠ a := ne_of_none e na
  have bd : b ≠ d := ne_of_none e nd'
  rw [upd_ne ba, upd_ne bd, upd_ne ba]
  exact e
theorem mk2_fin {H : Hp} {a d C : Addr} {f1 f2 : List (Str × V)} (na : H a = none) (nd : upd H a (exo a C none) d = none) (ne : d ≠ a) : Same H (upd (upd (upd (upd H a (exo a C none)) d (exd d f1)) a (exo a C (some d))) d (exd d f2)) ∧ ExAt (upd (upd (upd (upd H a (exo a C none)) d (exd d f1)) a (exo a C (some d))) d (exd d f2)) a C f2 := by
  have nd' : H d = none := by
    rw [upd_ne ne] at nd
    exact nd
  refine ⟨fun b o e => ?_, d, by rw [upd_ne (Ne.symm ne), upd_same], upd_same⟩
  have ba : b ≠ a := ne_of_none e na
  have bd : b ≠ d := ne_of_none e nd'
  rw [upd_ne bd, upd_ne ba, upd_ne bd, upd_ne ba]
  exact e
theorem mkR1 {C : Addr} {f : Str} : MkR C (spI1 C f) (R1 C f) := by
  rintro vs H Q ⟨y, rfl, k⟩
  refine ⟨by show 1 ≤ 1000; decide, fun a na => ⟨a, y, rfl, upd_same, fun d nd ne => ⟨rfl, ?_⟩⟩⟩
  obtain ⟨s, x⟩ := mk1_fin (fs := [(f, y)]) na nd ne
  exact k a _ na s x
theorem mkR2 {C : Addr} {f g : Str} : MkR C (spI2 C f g) (R2p C f g) := by
  rintro vs H Q ⟨y, z, rfl, k⟩
  refine ⟨by show 2 ≤ 1000; decide, fun a na => ⟨a, y, z, rfl, upd_same, fun d nd ne => ⟨rfl, ?_⟩⟩⟩
  obtain ⟨s, x⟩ := mk2_fin (f1 := [(f, y)]) (f2 := [(g, z), (f, y)]) na nd ne
  exact k a _ na s x
def g1 {α : Type} : List α → List α → List α := fun us ws => us ++ ws
def g2 {α : Type} : List α → List α → List α := fun us ws => us ++ ws.reverse
theorem mkK1 {C : Addr} {f : Str} : MkRK C 1 (spI1 C f) g1 (R1 C f) := by
  rintro vs H Q ⟨y, rfl, k⟩
  refine ⟨rfl, fun a na => ⟨a, y, rfl, upd_same, fun d nd ne => ⟨rfl, ?_⟩⟩⟩
  obtain ⟨s, x⟩ := mk1_fin (fs := [(f, y)]) na nd ne
  exact k a _ na s x
theorem mkK2 {C : Addr} {f g : Str} : MkRK C 2 (spI2 C f g) g2 (R2k C f g) := by
  rintro vs H Q ⟨y, z, rfl, k⟩
  refine ⟨rfl, fun a na => ⟨a, y, z, rfl, upd_same, fun d nd ne => ⟨rfl, ?_⟩⟩⟩
  obtain ⟨s, x⟩ := mk2_fin (f1 := [(f, y)]) (f2 := [(g, z), (f, y)]) na nd ne
  exact k a _ na s x
theorem kbn1 {K : PySem.W.Frag} {q f : Str} {params : Arguments} {body : List Stmt} {scope : Scope} {fI : Addr} {fd : FuncData} (F : FunD K "__init__" q params body scope [] [] fI fd)
    (h : ∀ (kV doc pm : Value) (an : Option Addr) (cdv ct : Value) (u v : Value), bindArgs (PySem.W.fnOf "__init__" q params body scope .none kV doc pm an cdv ct) ⟨[u], [(f, v)]⟩ = pure [(("self" : Str), u), (f, v)]) : KBn K fd ["self", f] 1 [f] g1 g1 := by
  obtain ⟨oc, od, dV, kV, doc, pm, an, cdv, ct, osl, rfl, lk, hcd, hD, hK⟩ := F.ex
  rcases hD with ⟨_, rfl⟩ | ⟨e, _⟩
  · refine ⟨fun s us ws X l1 l2 => ?_, fun r1 r2 => r1.append r2⟩
    match us, l1, ws, l2 with
    | [u], _, [v], _ => exact .of_eq (h kV doc pm an cdv ct u v)
  · exact absurd rfl e
theorem kbn2 {K : PySem.W.Frag} {q f g : Str} {params : Arguments} {body : List Stmt} {scope : Scope} {fI : Addr} {fd : FuncData} (F : FunD K "__init__" q params body scope [] [] fI fd)
    (h : ∀ (kV doc pm : Value) (an : Option Addr) (cdv ct : Value) (u v z : Value), bindArgs (PySem.W.fnOf "__init__" q params body scope .none kV doc pm an cdv ct) ⟨[u], [(g, z), (f, v)]⟩ = pure [(("self" : Str), u), (f, v), (g, z)]) : KBn K fd ["self", f, g] 1 [g, f] g2 g2 := by
  obtain ⟨oc, od, dV, kV, doc, pm, an, cdv, ct, osl, rfl, lk, hcd, hD, hK⟩ := F.ex
  rcases hD with ⟨_, rfl⟩ | ⟨e, _⟩
  · refine ⟨fun s us ws X l1 l2 => ?_, fun r1 r2 => r1.append (Vals.reverse r2)⟩
    match us, l1, ws, l2 with
    | [u], _, [z, v], _ => exact .of_eq (h kV doc pm an cdv ct u v z)
  · exact absurd rfl e
/-! ### facts of a class as one Bool -/
def oexB (K : PySem.W.Frag) (C : Addr) : Bool := match K.lookup C with
  | some ⟨.type "type", _, .cls cd, sl⟩ => (match cd.mro, sl.toList with
    | .ref C' :: bm, [_, _, _, _, some (.builtin n), _] => C' == C && (n == "ValueError.__new__" && (cd.hasDict && (!cd.hasDel && PySem.HandSPX.refsVE bm)))
    | _, _ => false)
  | _ => false
theorem ba {a b : Bool} (h : (a && b) = true) : a = true ∧ b = true := Bool.and_eq_true_iff.mp h
theorem oexB_ok {K : PySem.W.Frag} {C : Addr} (h : oexB K C = true) : ∃ nm q N bs bm sn sub ab col dd k0 k1 k2 k3 k5, K.lookup C = some (excClassObj nm q C N bs bm true sn sub ab col dd k0 k1 k2 k3 k5 "ValueError.__new__") ∧ PySem.HandSPX.refsVE bm = true := by
  unfold oexB at h
  split at h
  · rename_i dd cd sl ho
    split at h
    · rename_i C' bm k0 k1 k2 k3 n k5 hm hs
      obtain ⟨h1, h⟩ := ba h
      obtain ⟨h2, h⟩ := ba h
      obtain ⟨h3, h⟩ := ba h
      obtain ⟨h4, h5⟩ := ba h
      have e1 := beq_iff_eq.mp h1
      have e2 := beq_iff_eq.mp h2
      obtain ⟨nm, bs, mro, ns, qn, hd, sn, sub, ab, col, del⟩ := cd
      dsimp only at hm h3 h4
      have e4 : del = false := by
        cases del
        · rfl
        · cases h4
      subst e1 e2 hm h3 e4
      have hsl : sl = #[k0, k1, k2, k3, some (.builtin "ValueError.__new__"), k5] := by
        obtain ⟨l⟩ := sl
        simp only at hs
        rw [hs]
      subst hsl
      exact ⟨nm, qn, ns, bs, bm, sn, sub, ab, col, dd, k0, k1, k2, k3, k5, ho, h5⟩
    · cases h
  · cases h
/-- an own exception class -/
structure EC (K : PySem.W.Frag) (C : Addr) : Prop where
  o : OexC K C
  xf : XfC K C
  ex : ExcC K C
def ecB (K : PySem.W.Frag) (C : Addr) : Bool := oexB K C && (decide (PySem.W.findIn K (.ref C) "__setattr__" = some (some (.builtin "object.__setattr__"))) && (decide (PySem.W.subIn K (.ref C) (.type "BaseException") = some true) && (decide (PySem.W.typeIn K (.ref C) = some (.type "type")) && (PySem.W.keepIn K (.ref C) &&
  (xfB K C && (decide (PySem.W.findIn K (.ref C) "__class__" = some (some (.builtin "object.__class__"))) && (decide (PySem.W.specialIn K (.builtin "object.__class__") "__get__" = some (some (.builtin "getset_descriptor.__get__"))) && (decide (PySem.W.takesIn K (.builtin "object.__class__") = some true) &&
  decide (PySem.W.mroIn K C (.type "object") = some true)))))))))
theorem ecB_ok {K : PySem.W.Frag} {C : Addr} (h : ecB K C = true) : EC K C := by
  obtain ⟨h1, h⟩ := ba h
  obtain ⟨h2, h⟩ := ba h
  obtain ⟨h3, h⟩ := ba h
  obtain ⟨h4, h⟩ := ba h
  obtain ⟨h5, h⟩ := ba h
  obtain ⟨h6, h⟩ := ba h
  obtain ⟨h7, h⟩ := ba h
  obtain ⟨h8, h⟩ := ba h
  obtain ⟨h9, h10⟩ := ba h
  have x := xfB_ok h6
  exact ⟨⟨oexB_ok h1, of_decide_eq_true h2, of_decide_eq_true h3, of_decide_eq_true h4, h5⟩, x, ⟨x.ga, x.gg, x.exC, x.hdC, of_decide_eq_true h7, of_decide_eq_true h8, of_decide_eq_true h9, of_decide_eq_true h10⟩⟩

/-- the sixteen classes with fields, and the fields of an exception made with x -/
def cn : List Str := ["NoNumber", "NoContent", "NoGrid", "NoItem", "NoPage", "ManyLanes", "NoPath", "NoRange", "TooMany", "NoWish", "OtherBoxes", "NoArea", "NoSizes", "NoCrossings", "NoOrder", "NoText"]
def CS : List (Str × (V → List (Str × V))) := [("NoNumber", fun x => [("part", x)]), ("NoContent", fun x => [("index", .int 7), ("part", x)]), ("NoGrid", fun x => [("index", .int 7), ("part", x)]), ("NoItem", fun x => [("part", x)]), ("NoPage", fun x => [("index", .int 7), ("part", x)]), ("ManyLanes", fun x => [("axis", x)]), ("NoPath", fun x => [("path", x)]), ("NoRange", fun x => [("part", x)]), ("TooMany", fun x => [("most", x)]), ("NoWish", fun x => [("wish", x)]), ("OtherBoxes", fun x => [("other", .int 7), ("one", x)]), ("NoArea", fun x => [("index", x)]), ("NoSizes", fun x => [("index", x)]), ("NoCrossings", fun x => [("index", x)]), ("NoOrder", fun x => [("index", x)]), ("NoText", fun x => [("line", x)])]
abbrev ga := He.ga
abbrev ma := He.ma
abbrev iAd (K : PySem.W.Frag) (x : Str) : Addr := ma K (ga K x) "__init__"
section
variable {P : Program} {w : World} {K : PySem.W.Frag} {mg : Str → Option Value} {base : Heap}

theorem scI_NoNumber : FnScope ["self", "part"] ["self", "part"] (defScope (sI 2)) := ⟨rfl, rfl, rfl, by decide +kernel, rfl, by decide +kernel, by decide +kernel⟩
theorem okI_NoNumber {fI C : Addr} {fd : FuncData} (F : FnI K "NoNumber.__init__" (sI 2) fI fd) (T : OexC K C) (n0 : PySem.W.findIn K (.ref C) "part" = some none) : FnOk P w K mg base CX0 1 fI fd ["self", "part"] (spI1 C "part") := by
  refine F.ok scI_NoNumber (fun vs H Q E h => ?_) (fun cdv A outer s H vs Q E hr h => ?_)
  · obtain ⟨a, y, rfl, _⟩ := h
    rfl
  · obtain ⟨a, y, rfl, ha, k⟩ := h
    refine ⟨_, PSs.nox (pss_one (ps_ost (pv 0) (pv 1))), ?_⟩
    exact ⟨_, rfl, _, rfl, a, C, rfl, T, n0, .inl ⟨ha, fun d hd ne => k d hd ne⟩⟩
theorem biI_NoNumber {fI : Addr} {fd : FuncData} (F : FnI K "NoNumber.__init__" (sI 2) fI fd) : Binds K fd ["self", "part"] [] := F.bindsN fun _ _ _ _ _ _ us hl => match us, hl with | [_, _], _ => rfl
theorem kbI_NoNumber {fI : Addr} {fd : FuncData} (F : FnI K "NoNumber.__init__" (sI 2) fI fd) : KBn K fd ["self", "part"] 1 ["part"] g1 g1 := kbn1 F fun _ _ _ _ _ _ _ _ => rfl
theorem scI_NoContent : FnScope ["self", "part", "index"] ["self", "part", "index"] (defScope (sI 3)) := ⟨rfl, rfl, rfl, by decide +kernel, rfl, by decide +kernel, by decide +kernel⟩
theorem okI_NoContent {fI C : Addr} {fd : FuncData} (F : FnI K "NoContent.__init__" (sI 3) fI fd) (T : OexC K C) (n0 : PySem.W.findIn K (.ref C) "part" = some none) (n1 : PySem.W.findIn K (.ref C) "index" = some none) : FnOk P w K mg base CX0 1 fI fd ["self", "part", "index"] (spI2 C "part" "index") := by
  refine F.ok scI_NoContent (fun vs H Q E h => ?_) (fun cdv A outer s H vs Q E hr h => ?_)
  · obtain ⟨a, y, z, rfl, _⟩ := h
    rfl
  · obtain ⟨a, y, z, rfl, ha, k⟩ := h
    refine ⟨_, PSs.nox (pss_cons (ps_ost (pv 0) (pv 1)) (pss_one (ps_ost (pv 0) (pv 2)))), ?_⟩
    exact ⟨_, rfl, _, rfl, a, C, rfl, T, n0, .inl ⟨ha, fun d hd ne => ⟨_, rfl, _, rfl, a, C, rfl, T, n1, .inr ⟨d, _, upd_same, by rw [upd_ne ne, upd_same], (by show 1 ≤ 900; decide), k d hd ne⟩⟩⟩⟩
theorem biI_NoContent {fI : Addr} {fd : FuncData} (F : FnI K "NoContent.__init__" (sI 3) fI fd) : Binds K fd ["self", "part", "index"] [] := F.bindsN fun _ _ _ _ _ _ us hl => match us, hl with | [_, _, _], _ => rfl
theorem kbI_NoContent {fI : Addr} {fd : FuncData} (F : FnI K "NoContent.__init__" (sI 3) fI fd) : KBn K fd ["self", "part", "index"] 1 ["index", "part"] g2 g2 := kbn2 F fun _ _ _ _ _ _ _ _ _ => rfl
theorem scI_NoGrid : FnScope ["self", "part", "index"] ["self", "part", "index"] (defScope (sI 4)) := ⟨rfl, rfl, rfl, by decide +kernel, rfl, by decide +kernel, by decide +kernel⟩
theorem okI_NoGrid {fI C : Addr} {fd : FuncData} (F : FnI K "NoGrid.__init__" (sI 4) fI fd) (T : OexC K C) (n0 : PySem.W.findIn K (.ref C) "part" = some none) (n1 : PySem.W.findIn K (.ref C) "index" = some none) : FnOk P w K mg base CX0 1 fI fd ["self", "part", "index"] (spI2 C "part" "index") := by
  refine F.ok scI_NoGrid (fun vs H Q E h => ?_) (fun cdv A outer s H vs Q E hr h => ?_)
  · obtain ⟨a, y, z, rfl, _⟩ := h
    rfl
  · obtain ⟨a, y, z, rfl, ha, k⟩ := h
    refine ⟨_, PSs.nox (pss_cons (ps_ost (pv 0) (pv 1)) (pss_one (ps_ost (pv 0) (pv 2)))), ?_⟩
    exact ⟨_, rfl, _, rfl, a, C, rfl, T, n0, .inl ⟨ha, fun d hd ne => ⟨_, rfl, _, rfl, a, C, rfl, T, n1, .inr ⟨d, _, upd_same, by rw [upd_ne ne, upd_same], (by show 1 ≤ 900; decide), k d hd ne⟩⟩⟩⟩
theorem biI_NoGrid {fI : Addr} {fd : FuncData} (F : FnI K "NoGrid.__init__" (sI 4) fI fd) : Binds K fd ["self", "part", "index"] [] := F.bindsN fun _ _ _ _ _ _ us hl => match us, hl with | [_, _, _], _ => rfl
theorem kbI_NoGrid {fI : Addr} {fd : FuncData} (F : FnI K "NoGrid.__init__" (sI 4) fI fd) : KBn K fd ["self", "part", "index"] 1 ["index", "part"] g2 g2 := kbn2 F fun _ _ _ _ _ _ _ _ _ => rfl
theorem scI_NoItem : FnScope ["self", "part"] ["self", "part"] (defScope (sI 5)) := ⟨rfl, rfl, rfl, by decide +kernel, rfl, by decide +kernel, by decide +kernel⟩
theorem okI_NoItem {fI C : Addr} {fd : FuncData} (F : FnI K "NoItem.__init__" (sI 5) fI fd) (T : OexC K C) (n0 : PySem.W.findIn K (.ref C) "part" = some none) : FnOk P w K mg base CX0 1 fI fd ["self", "part"] (spI1 C "part") := by
  refine F.ok scI_NoItem (fun vs H Q E h => ?_) (fun cdv A outer s H vs Q E hr h => ?_)
  · obtain ⟨a, y, rfl, _⟩ := h
    rfl
  · obtain ⟨a, y, rfl, ha, k⟩ := h
    refine ⟨_, PSs.nox (pss_one (ps_ost (pv 0) (pv 1))), ?_⟩
    exact ⟨_, rfl, _, rfl, a, C, rfl, T, n0, .inl ⟨ha, fun d hd ne => k d hd ne⟩⟩
theorem biI_NoItem {fI : Addr} {fd : FuncData} (F : FnI K "NoItem.__init__" (sI 5) fI fd) : Binds K fd ["self", "part"] [] := F.bindsN fun _ _ _ _ _ _ us hl => match us, hl with | [_, _], _ => rfl
theorem kbI_NoItem {fI : Addr} {fd : FuncData} (F : FnI K "NoItem.__init__" (sI 5) fI fd) : KBn K fd ["self", "part"] 1 ["part"] g1 g1 := kbn1 F fun _ _ _ _ _ _ _ _ => rfl
theorem scI_NoPage : FnScope ["self", "part", "index"] ["self", "part", "index"] (defScope (sI 6)) := ⟨rfl, rfl, rfl, by decide +kernel, rfl, by decide +kernel, by decide +kernel⟩
theorem okI_NoPage {fI C : Addr} {fd : FuncData} (F : FnI K "NoPage.__init__" (sI 6) fI fd) (T : OexC K C) (n0 : PySem.W.findIn K (.ref C) "part" = some none) (n1 : PySem.W.findIn K (.ref C) "index" = some none) : FnOk P w K mg base CX0 1 fI fd ["self", "part", "index"] (spI2 C "part" "index") := by
  refine F.ok scI_NoPage (fun vs H Q E h => ?_) (fun cdv A outer s H vs Q E hr h => ?_)
  · obtain ⟨a, y, z, rfl, _⟩ := h
    rfl
  · obtain ⟨a, y, z, rfl, ha, k⟩ := h
    refine ⟨_, PSs.nox (pss_cons (ps_ost (pv 0) (pv 1)) (pss_one (ps_ost (pv 0) (pv 2)))), ?_⟩
    exact ⟨_, rfl, _, rfl, a, C, rfl, T, n0, .inl ⟨ha, fun d hd ne => ⟨_, rfl, _, rfl, a, C, rfl, T, n1, .inr ⟨d, _, upd_same, by rw [upd_ne ne, upd_same], (by show 1 ≤ 900; decide), k d hd ne⟩⟩⟩⟩
theorem biI_NoPage {fI : Addr} {fd : FuncData} (F : FnI K "NoPage.__init__" (sI 6) fI fd) : Binds K fd ["self", "part", "index"] [] := F.bindsN fun _ _ _ _ _ _ us hl => match us, hl with | [_, _, _], _ => rfl
theorem kbI_NoPage {fI : Addr} {fd : FuncData} (F : FnI K "NoPage.__init__" (sI 6) fI fd) : KBn K fd ["self", "part", "index"] 1 ["index", "part"] g2 g2 := kbn2 F fun _ _ _ _ _ _ _ _ _ => rfl
theorem scI_ManyLanes : FnScope ["self", "axis"] ["self", "axis"] (defScope (sI 7)) := ⟨rfl, rfl, rfl, by decide +kernel, rfl, by decide +kernel, by decide +kernel⟩
theorem okI_ManyLanes {fI C : Addr} {fd : FuncData} (F : FnI K "ManyLanes.__init__" (sI 7) fI fd) (T : OexC K C) (n0 : PySem.W.findIn K (.ref C) "axis" = some none) : FnOk P w K mg base CX0 1 fI fd ["self", "axis"] (spI1 C "axis") := by
  refine F.ok scI_ManyLanes (fun vs H Q E h => ?_) (fun cdv A outer s H vs Q E hr h => ?_)
  · obtain ⟨a, y, rfl, _⟩ := h
    rfl
  · obtain ⟨a, y, rfl, ha, k⟩ := h
    refine ⟨_, PSs.nox (pss_one (ps_ost (pv 0) (pv 1))), ?_⟩
    exact ⟨_, rfl, _, rfl, a, C, rfl, T, n0, .inl ⟨ha, fun d hd ne => k d hd ne⟩⟩
theorem biI_ManyLanes {fI : Addr} {fd : FuncData} (F : FnI K "ManyLanes.__init__" (sI 7) fI fd) : Binds K fd ["self", "axis"] [] := F.bindsN fun _ _ _ _ _ _ us hl => match us, hl with | [_, _], _ => rfl
theorem kbI_ManyLanes {fI : Addr} {fd : FuncData} (F : FnI K "ManyLanes.__init__" (sI 7) fI fd) : KBn K fd ["self", "axis"] 1 ["axis"] g1 g1 := kbn1 F fun _ _ _ _ _ _ _ _ => rfl
theorem scI_NoPath : FnScope ["self", "path"] ["self", "path"] (defScope (sI 8)) := ⟨rfl, rfl, rfl, by decide +kernel, rfl, by decide +kernel, by decide +kernel⟩
theorem okI_NoPath {fI C : Addr} {fd : FuncData} (F : FnI K "NoPath.__init__" (sI 8) fI fd) (T : OexC K C) (n0 : PySem.W.findIn K (.ref C) "path" = some none) : FnOk P w K mg base CX0 1 fI fd ["self", "path"] (spI1 C "path") := by
  refine F.ok scI_NoPath (fun vs H Q E h => ?_) (fun cdv A outer s H vs Q E hr h => ?_)
  · obtain ⟨a, y, rfl, _⟩ := h
    rfl
  · obtain ⟨a, y, rfl, ha, k⟩ := h
    refine ⟨_, PSs.nox (pss_one (ps_ost (pv 0) (pv 1))), ?_⟩
    exact ⟨_, rfl, _, rfl, a, C, rfl, T, n0, .inl ⟨ha, fun d hd ne => k d hd ne⟩⟩
theorem biI_NoPath {fI : Addr} {fd : FuncData} (F : FnI K "NoPath.__init__" (sI 8) fI fd) : Binds K fd ["self", "path"] [] := F.bindsN fun _ _ _ _ _ _ us hl => match us, hl with | [_, _], _ => rfl
theorem kbI_NoPath {fI : Addr} {fd : FuncData} (F : FnI K "NoPath.__init__" (sI 8) fI fd) : KBn K fd ["self", "path"] 1 ["path"] g1 g1 := kbn1 F fun _ _ _ _ _ _ _ _ => rfl
theorem scI_NoRange : FnScope ["self", "part"] ["self", "part"] (defScope (sI 9)) := ⟨rfl, rfl, rfl, by decide +kernel, rfl, by decide +kernel, by decide +kernel⟩
theorem okI_NoRange {fI C : Addr} {fd : FuncData} (F : FnI K "NoRange.__init__" (sI 9) fI fd) (T : OexC K C) (n0 : PySem.W.findIn K (.ref C) "part" = some none) : FnOk P w K mg base CX0 1 fI fd ["self", "part"] (spI1 C "part") := by
  refine F.ok scI_NoRange (fun vs H Q E h => ?_) (fun cdv A outer s H vs Q E hr h => ?_)
  · obtain ⟨a, y, rfl, _⟩ := h
    rfl
  · obtain ⟨a, y, rfl, ha, k⟩ := h
    refine ⟨_, PSs.nox (pss_one (ps_ost (pv 0) (pv 1))), ?_⟩
    exact ⟨_, rfl, _, rfl, a, C, rfl, T, n0, .inl ⟨ha, fun d hd ne => k d hd ne⟩⟩
theorem biI_NoRange {fI : Addr} {fd : FuncData} (F : FnI K "NoRange.__init__" (sI 9) fI fd) : Binds K fd ["self", "part"] [] := F.bindsN fun _ _ _ _ _ _ us hl => match us, hl with | [_, _], _ => rfl
theorem kbI_NoRange {fI : Addr} {fd : FuncData} (F : FnI K "NoRange.__init__" (sI 9) fI fd) : KBn K fd ["self", "part"] 1 ["part"] g1 g1 := kbn1 F fun _ _ _ _ _ _ _ _ => rfl
theorem scI_TooMany : FnScope ["self", "most"] ["self", "most"] (defScope (sI 10)) := ⟨rfl, rfl, rfl, by decide +kernel, rfl, by decide +kernel, by decide +kernel⟩
theorem okI_TooMany {fI C : Addr} {fd : FuncData} (F : FnI K "TooMany.__init__" (sI 10) fI fd) (T : OexC K C) (n0 : PySem.W.findIn K (.ref C) "most" = some none) : FnOk P w K mg base CX0 1 fI fd ["self", "most"] (spI1 C "most") := by
  refine F.ok scI_TooMany (fun vs H Q E h => ?_) (fun cdv A outer s H vs Q E hr h => ?_)
  · obtain ⟨a, y, rfl, _⟩ := h
    rfl
  · obtain ⟨a, y, rfl, ha, k⟩ := h
    refine ⟨_, PSs.nox (pss_one (ps_ost (pv 0) (pv 1))), ?_⟩
    exact ⟨_, rfl, _, rfl, a, C, rfl, T, n0, .inl ⟨ha, fun d hd ne => k d hd ne⟩⟩
theorem biI_TooMany {fI : Addr} {fd : FuncData} (F : FnI K "TooMany.__init__" (sI 10) fI fd) : Binds K fd ["self", "most"] [] := F.bindsN fun _ _ _ _ _ _ us hl => match us, hl with | [_, _], _ => rfl
theorem kbI_TooMany {fI : Addr} {fd : FuncData} (F : FnI K "TooMany.__init__" (sI 10) fI fd) : KBn K fd ["self", "most"] 1 ["most"] g1 g1 := kbn1 F fun _ _ _ _ _ _ _ _ => rfl
theorem scI_NoWish : FnScope ["self", "wish"] ["self", "wish"] (defScope (sI 11)) := ⟨rfl, rfl, rfl, by decide +kernel, rfl, by decide +kernel, by decide +kernel⟩
theorem okI_NoWish {fI C : Addr} {fd : FuncData} (F : FnI K "NoWish.__init__" (sI 11) fI fd) (T : OexC K C) (n0 : PySem.W.findIn K (.ref C) "wish" = some none) : FnOk P w K mg base CX0 1 fI fd ["self", "wish"] (spI1 C "wish") := by
  refine F.ok scI_NoWish (fun vs H Q E h => ?_) (fun cdv A outer s H vs Q E hr h => ?_)
  · obtain ⟨a, y, rfl, _⟩ := h
    rfl
  · obtain ⟨a, y, rfl, ha, k⟩ := h
    refine ⟨_, PSs.nox (pss_one (ps_ost (pv 0) (pv 1))), ?_⟩
    exact ⟨_, rfl, _, rfl, a, C, rfl, T, n0, .inl ⟨ha, fun d hd ne => k d hd ne⟩⟩
theorem biI_NoWish {fI : Addr} {fd : FuncData} (F : FnI K "NoWish.__init__" (sI 11) fI fd) : Binds K fd ["self", "wish"] [] := F.bindsN fun _ _ _ _ _ _ us hl => match us, hl with | [_, _], _ => rfl
theorem kbI_NoWish {fI : Addr} {fd : FuncData} (F : FnI K "NoWish.__init__" (sI 11) fI fd) : KBn K fd ["self", "wish"] 1 ["wish"] g1 g1 := kbn1 F fun _ _ _ _ _ _ _ _ => rfl
theorem scI_OtherBoxes : FnScope ["self", "one", "other"] ["self", "one", "other"] (defScope (sI 12)) := ⟨rfl, rfl, rfl, by decide +kernel, rfl, by decide +kernel, by decide +kernel⟩
theorem okI_OtherBoxes {fI C : Addr} {fd : FuncData} (F : FnI K "OtherBoxes.__init__" (sI 12) fI fd) (T : OexC K C) (n0 : PySem.W.findIn K (.ref C) "one" = some none) (n1 : PySem.W.findIn K (.ref C) "other" = some none) : FnOk P w K mg base CX0 1 fI fd ["self", "one", "other"] (spI2 C "one" "other") := by
  refine F.ok scI_OtherBoxes (fun vs H Q E h => ?_) (fun cdv A outer s H vs Q E hr h => ?_)
  · obtain ⟨a, y, z, rfl, _⟩ := h
    rfl
  · obtain ⟨a, y, z, rfl, ha, k⟩ := h
    refine ⟨_, PSs.nox (pss_cons (ps_ost (pv 0) (pv 1)) (pss_one (ps_ost (pv 0) (pv 2)))), ?_⟩
    exact ⟨_, rfl, _, rfl, a, C, rfl, T, n0, .inl ⟨ha, fun d hd ne => ⟨_, rfl, _, rfl, a, C, rfl, T, n1, .inr ⟨d, _, upd_same, by rw [upd_ne ne, upd_same], (by show 1 ≤ 900; decide), k d hd ne⟩⟩⟩⟩
theorem biI_OtherBoxes {fI : Addr} {fd : FuncData} (F : FnI K "OtherBoxes.__init__" (sI 12) fI fd) : Binds K fd ["self", "one", "other"] [] := F.bindsN fun _ _ _ _ _ _ us hl => match us, hl with | [_, _, _], _ => rfl
theorem kbI_OtherBoxes {fI : Addr} {fd : FuncData} (F : FnI K "OtherBoxes.__init__" (sI 12) fI fd) : KBn K fd ["self", "one", "other"] 1 ["other", "one"] g2 g2 := kbn2 F fun _ _ _ _ _ _ _ _ _ => rfl
theorem scI_NoArea : FnScope ["self", "index"] ["self", "index"] (defScope (sI 14)) := ⟨rfl, rfl, rfl, by decide +kernel, rfl, by decide +kernel, by decide +kernel⟩
theorem okI_NoArea {fI C : Addr} {fd : FuncData} (F : FnI K "NoArea.__init__" (sI 14) fI fd) (T : OexC K C) (n0 : PySem.W.findIn K (.ref C) "index" = some none) : FnOk P w K mg base CX0 1 fI fd ["self", "index"] (spI1 C "index") := by
  refine F.ok scI_NoArea (fun vs H Q E h => ?_) (fun cdv A outer s H vs Q E hr h => ?_)
  · obtain ⟨a, y, rfl, _⟩ := h
    rfl
  · obtain ⟨a, y, rfl, ha, k⟩ := h
    refine ⟨_, PSs.nox (pss_one (ps_ost (pv 0) (pv 1))), ?_⟩
    exact ⟨_, rfl, _, rfl, a, C, rfl, T, n0, .inl ⟨ha, fun d hd ne => k d hd ne⟩⟩
theorem biI_NoArea {fI : Addr} {fd : FuncData} (F : FnI K "NoArea.__init__" (sI 14) fI fd) : Binds K fd ["self", "index"] [] := F.bindsN fun _ _ _ _ _ _ us hl => match us, hl with | [_, _], _ => rfl
theorem kbI_NoArea {fI : Addr} {fd : FuncData} (F : FnI K "NoArea.__init__" (sI 14) fI fd) : KBn K fd ["self", "index"] 1 ["index"] g1 g1 := kbn1 F fun _ _ _ _ _ _ _ _ => rfl
theorem scI_NoSizes : FnScope ["self", "index"] ["self", "index"] (defScope (sI 15)) := ⟨rfl, rfl, rfl, by decide +kernel, rfl, by decide +kernel, by decide +kernel⟩
theorem okI_NoSizes {fI C : Addr} {fd : FuncData} (F : FnI K "NoSizes.__init__" (sI 15) fI fd) (T : OexC K C) (n0 : PySem.W.findIn K (.ref C) "index" = some none) : FnOk P w K mg base CX0 1 fI fd ["self", "index"] (spI1 C "index") := by
  refine F.ok scI_NoSizes (fun vs H Q E h => ?_) (fun cdv A outer s H vs Q E hr h => ?_)
  · obtain ⟨a, y, rfl, _⟩ := h
    rfl
  · obtain ⟨a, y, rfl, ha, k⟩ := h
    refine ⟨_, PSs.nox (pss_one (ps_ost (pv 0) (pv 1))), ?_⟩
    exact ⟨_, rfl, _, rfl, a, C, rfl, T, n0, .inl ⟨ha, fun d hd ne => k d hd ne⟩⟩
theorem biI_NoSizes {fI : Addr} {fd : FuncData} (F : FnI K "NoSizes.__init__" (sI 15) fI fd) : Binds K fd ["self", "index"] [] := F.bindsN fun _ _ _ _ _ _ us hl => match us, hl with | [_, _], _ => rfl
theorem kbI_NoSizes {fI : Addr} {fd : FuncData} (F : FnI K "NoSizes.__init__" (sI 15) fI fd) : KBn K fd ["self", "index"] 1 ["index"] g1 g1 := kbn1 F fun _ _ _ _ _ _ _ _ => rfl
theorem scI_NoCrossings : FnScope ["self", "index"] ["self", "index"] (defScope (sI 16)) := ⟨rfl, rfl, rfl, by decide +kernel, rfl, by decide +kernel, by decide +kernel⟩
theorem okI_NoCrossings {fI C : Addr} {fd : FuncData} (F : FnI K "NoCrossings.__init__" (sI 16) fI fd) (T : OexC K C) (n0 : PySem.W.findIn K (.ref C) "index" = some none) : FnOk P w K mg base CX0 1 fI fd ["self", "index"] (spI1 C "index") := by
  refine F.ok scI_NoCrossings (fun vs H Q E h => ?_) (fun cdv A outer s H vs Q E hr h => ?_)
  · obtain ⟨a, y, rfl, _⟩ := h
    rfl
  · obtain ⟨a, y, rfl, ha, k⟩ := h
    refine ⟨_, PSs.nox (pss_one (ps_ost (pv 0) (pv 1))), ?_⟩
    exact ⟨_, rfl, _, rfl, a, C, rfl, T, n0, .inl ⟨ha, fun d hd ne => k d hd ne⟩⟩
theorem biI_NoCrossings {fI : Addr} {fd : FuncData} (F : FnI K "NoCrossings.__init__" (sI 16) fI fd) : Binds K fd ["self", "index"] [] := F.bindsN fun _ _ _ _ _ _ us hl => match us, hl with | [_, _], _ => rfl
theorem kbI_NoCrossings {fI : Addr} {fd : FuncData} (F : FnI K "NoCrossings.__init__" (sI 16) fI fd) : KBn K fd ["self", "index"] 1 ["index"] g1 g1 := kbn1 F fun _ _ _ _ _ _ _ _ => rfl
theorem scI_NoOrder : FnScope ["self", "index"] ["self", "index"] (defScope (sI 17)) := ⟨rfl, rfl, rfl, by decide +kernel, rfl, by decide +kernel, by decide +kernel⟩
theorem okI_NoOrder {fI C : Addr} {fd : FuncData} (F : FnI K "NoOrder.__init__" (sI 17) fI fd) (T : OexC K C) (n0 : PySem.W.findIn K (.ref C) "index" = some none) : FnOk P w K mg base CX0 1 fI fd ["self", "index"] (spI1 C "index") := by
  refine F.ok scI_NoOrder (fun vs H Q E h => ?_) (fun cdv A outer s H vs Q E hr h => ?_)
  · obtain ⟨a, y, rfl, _⟩ := h
    rfl
  · obtain ⟨a, y, rfl, ha, k⟩ := h
    refine ⟨_, PSs.nox (pss_one (ps_ost (pv 0) (pv 1))), ?_⟩
    exact ⟨_, rfl, _, rfl, a, C, rfl, T, n0, .inl ⟨ha, fun d hd ne => k d hd ne⟩⟩
theorem biI_NoOrder {fI : Addr} {fd : FuncData} (F : FnI K "NoOrder.__init__" (sI 17) fI fd) : Binds K fd ["self", "index"] [] := F.bindsN fun _ _ _ _ _ _ us hl => match us, hl with | [_, _], _ => rfl
theorem kbI_NoOrder {fI : Addr} {fd : FuncData} (F : FnI K "NoOrder.__init__" (sI 17) fI fd) : KBn K fd ["self", "index"] 1 ["index"] g1 g1 := kbn1 F fun _ _ _ _ _ _ _ _ => rfl
theorem scI_NoText : FnScope ["self", "line"] ["self", "line"] (defScope (sI 18)) := ⟨rfl, rfl, rfl, by decide +kernel, rfl, by decide +kernel, by decide +kernel⟩
theorem okI_NoText {fI C : Addr} {fd : FuncData} (F : FnI K "NoText.__init__" (sI 18) fI fd) (T : OexC K C) (n0 : PySem.W.findIn K (.ref C) "line" = some none) : FnOk P w K mg base CX0 1 fI fd ["self", "line"] (spI1 C "line") := by
  refine F.ok scI_NoText (fun vs H Q E h => ?_) (fun cdv A outer s H vs Q E hr h => ?_)
  · obtain ⟨a, y, rfl, _⟩ := h
    rfl
  · obtain ⟨a, y, rfl, ha, k⟩ := h
    refine ⟨_, PSs.nox (pss_one (ps_ost (pv 0) (pv 1))), ?_⟩
    exact ⟨_, rfl, _, rfl, a, C, rfl, T, n0, .inl ⟨ha, fun d hd ne => k d hd ne⟩⟩
theorem biI_NoText {fI : Addr} {fd : FuncData} (F : FnI K "NoText.__init__" (sI 18) fI fd) : Binds K fd ["self", "line"] [] := F.bindsN fun _ _ _ _ _ _ us hl => match us, hl with | [_, _], _ => rfl
theorem kbI_NoText {fI : Addr} {fd : FuncData} (F : FnI K "NoText.__init__" (sI 18) fI fd) : KBn K fd ["self", "line"] 1 ["line"] g1 g1 := kbn1 F fun _ _ _ _ _ _ _ _ => rfl
end
/-- a class that stores one field, two fields -/
structure E1 (P : Program) (w : World) (K : PySem.W.Frag) (mg : Str → Option Value) (base : Heap) (x f : Str) : Prop where
  gC : mg x = some (.ref (ga K x))
  c : EC K (ga K x)
  iC : PySem.W.findIn K (.ref (ga K x)) "__init__" = some (some (.ref (iAd K x)))
  tI : PySem.W.typeIn K (.ref (iAd K x)) = some (.type "function")
  n0 : PySem.W.findIn K (.ref (ga K x)) f = some none
  F : ∃ fd, FnOk P w K mg base CX0 1 (iAd K x) fd ["self", f] (spI1 (ga K x) f) ∧ Binds K fd ["self", f] [] ∧ KBn K fd ["self", f] 1 [f] g1 g1
structure E2 (P : Program) (w : World) (K : PySem.W.Frag) (mg : Str → Option Value) (base : Heap) (x f g : Str) : Prop where
  gC : mg x = some (.ref (ga K x))
  c : EC K (ga K x)
  iC : PySem.W.findIn K (.ref (ga K x)) "__init__" = some (some (.ref (iAd K x)))
  tI : PySem.W.typeIn K (.ref (iAd K x)) = some (.type "function")
  n0 : PySem.W.findIn K (.ref (ga K x)) f = some none
  n1 : PySem.W.findIn K (.ref (ga K x)) g = some none
  F : ∃ fd, FnOk P w K mg base CX0 1 (iAd K x) fd ["self", f, g] (spI2 (ga K x) f g) ∧ Binds K fd ["self", f, g] [] ∧ KBn K fd ["self", f, g] 1 [g, f] g2 g2
section
variable {X : Cx} {x f g : Str} {p pos : Pos} {e e2 : Expr} {te te2 : TE} {kws : List Keyword} {tk : TA}
theorem E1.place (T : E1 X.prog X.w X.K X.mg X.base x f) (hr : Room 2 X.A) (hg : Gl X x) (he : PE X e te) (hdb : (x == ("__debug__" : Str)) = false := by decide) (hs : starEach [e] X.env = (false, eval e X.env) :: starEach [] X.env := by rfl) :
    PE X (.Call (.Name x p) [e] [] pos) (tMkE (R1 (ga X.K x) f) (tCons te tNil)) := by
  obtain ⟨fd, F, b, _⟩ := T.F
  exact pe_mkE T.c.o T.iC T.tI F hr b pass0 hg T.gC mkR1 (pa_cons he pa_nil hs) hdb hs
theorem E2.place (T : E2 X.prog X.w X.K X.mg X.base x f g) (hr : Room 2 X.A) (hg : Gl X x) (he : PE X e te) (he2 : PE X e2 te2) (hdb : (x == ("__debug__" : Str)) = false := by decide) (hs : starEach [e, e2] X.env = (false, eval e X.env) :: starEach [e2] X.env := by rfl) (hs2 : starEach [e2] X.env = (false, eval e2 X.env) :: starEach [] X.env := by rfl)
    (hpl : (backTo pos (starEach [e2] X.env)).any (·.1) = false := by rfl) :
    PE X (.Call (.Name x p) [e, e2] [] pos) (tMkE (R2p (ga X.K x) f g) (tCons te (tCons te2 tNil))) := by
  obtain ⟨fd, F, b, _⟩ := T.F
  exact pe_mkE T.c.o T.iC T.tI F hr b pass0 hg T.gC mkR2 (pa_cons he (pa_cons he2 pa_nil hs2) hs) hdb hs hpl
theorem E1.name (T : E1 X.prog X.w X.K X.mg X.base x f) (hr : Room 2 X.A) (hg : Gl X x) (hk : PK X kws tk) (hdb : (x == ("__debug__" : Str)) = false := by decide)
    (hall : (backToKw pos (keywordEach kws X.env)).all (·.1.isSome) = true := by rfl) (hks : (backToKw pos (keywordEach kws X.env)).filterMap (·.1) = [f] := by rfl)
    (hpl : ((backTo pos (starEach [] X.env)).any (·.1) || (backToKw pos (keywordEach kws X.env)).any (·.1.isNone)) = false := by rfl) :
    PE X (.Call (.Name x p) [] kws pos) (tMkE (R1 (ga X.K x) f) tk) := by
  obtain ⟨fd, F, _, b⟩ := T.F
  exact pe_mkEK T.c.o T.iC T.tI F hr b pass0 hg T.gC mkK1 hk (.inl ⟨f, rfl⟩) hall hks hdb hpl
theorem E2.name (T : E2 X.prog X.w X.K X.mg X.base x f g) (hr : Room 2 X.A) (hg : Gl X x) (hk : PK X kws tk) (hdb : (x == ("__debug__" : Str)) = false := by decide)
    (hall : (backToKw pos (keywordEach kws X.env)).all (·.1.isSome) = true := by rfl) (hks : (backToKw pos (keywordEach kws X.env)).filterMap (·.1) = [g, f] := by rfl)
    (hpl : ((backTo pos (starEach [] X.env)).any (·.1) || (backToKw pos (keywordEach kws X.env)).any (·.1.isNone)) = false := by rfl) :
    PE X (.Call (.Name x p) [] kws pos) (tMkE (R2k (ga X.K x) f g) tk) := by
  obtain ⟨fd, F, _, b⟩ := T.F
  exact pe_mkEK T.c.o T.iC T.tI F hr b pass0 hg T.gC mkK2 hk (.inr ⟨g, f, rfl⟩) hall hks hdb hpl
end
/-- sixteen exceptions made with x, in a list at p -/
def Exs (K : PySem.W.Frag) (H : Hp) (p : Addr) (x : V) : Prop := ∃ as : List Addr, as.length = 16 ∧ H p = some (.lst (as.map V.ref)) ∧ ∀ (i : Nat) (c : Str × (V → List (Str × V))), CS[i]? = some c → ∃ a, as[i]? = some a ∧ ExAt H a (ga K c.1) (c.2 x)
theorem Exs.same {K : PySem.W.Frag} {H H' : Hp} {p : Addr} {x : V} (h : Exs K H p x) (s : Same H H') : Exs K H' p x := by
  obtain ⟨as, l, hp, h⟩ := h
  refine ⟨as, l, s _ _ hp, fun i c e => ?_⟩
  obtain ⟨a, ea, ex⟩ := h i c e
  exact ⟨a, ea, ex.same s⟩
def spMk (K : PySem.W.Frag) : Sp := fun vs H Q _ => ∃ x, vs = [x] ∧ ∀ H' p, Same H H' → Exs K H' p x → Q (.ref p) H'

structure TxtE (P : Program) (w : World) (K : PySem.W.Frag) (mg : Str → Option Value) (base : Heap) : Prop where
  eNoNumber : E1 P w K mg base "NoNumber" "part"
  eNoContent : E2 P w K mg base "NoContent" "part" "index"
  eNoGrid : E2 P w K mg base "NoGrid" "part" "index"
  eNoItem : E1 P w K mg base "NoItem" "part"
  eNoPage : E2 P w K mg base "NoPage" "part" "index"
  eManyLanes : E1 P w K mg base "ManyLanes" "axis"
  eNoPath : E1 P w K mg base "NoPath" "path"
  eNoRange : E1 P w K mg base "NoRange" "part"
  eTooMany : E1 P w K mg base "TooMany" "most"
  eNoWish : E1 P w K mg base "NoWish" "wish"
  eOtherBoxes : E2 P w K mg base "OtherBoxes" "one" "other"
  eNoArea : E1 P w K mg base "NoArea" "index"
  eNoSizes : E1 P w K mg base "NoSizes" "index"
  eNoCrossings : E1 P w K mg base "NoCrossings" "index"
  eNoOrder : E1 P w K mg base "NoOrder" "index"
  eNoText : E1 P w K mg base "NoText" "line"
theorem scPlace : FnScope ["x", "some"] ["x"] (defScope sPlace) := ⟨rfl, rfl, rfl, by decide +kernel, rfl, by decide +kernel, by decide +kernel⟩
theorem okPlace {P : Program} {w : World} {K : PySem.W.Frag} {mg : Str → Option Value} {base : Heap} {f : Addr} {fd : FuncData} (F : FnP K "_law_by_place" sPlace f fd) (T : TxtE P w K mg base) : FnOk P w K mg base CX0 3 f fd ["x"] (spMk K) := by
  refine F.ok scPlace (fun vs H Q E h => ?_) (fun cdv A outer s H vs Q E hr h => ?_)
  · obtain ⟨x, rfl, _⟩ := h
    rfl
  · obtain ⟨x, rfl, k⟩ := h
    refine ⟨_, PSs.nox (pss_cons (ps_set (i := 1) scPlace.nd rfl (Or.inl rfl) (pe_lst (pa_cons (T.eNoNumber.place hr rfl (pv 0)) (pa_cons (T.eNoContent.place hr rfl (pv 0) pe_int) (pa_cons (T.eNoGrid.place hr rfl (pv 0) pe_int) (pa_cons (T.eNoItem.place hr rfl (pv 0)) pa_nil))))))
      (pss_cons (ps_set (i := 1) scPlace.nd rfl (Or.inl rfl) (pe_op op_catS (pv 1) (pe_lst (pa_cons (T.eNoPage.place hr rfl (pv 0) pe_int) (pa_cons (T.eManyLanes.place hr rfl (pv 0)) (pa_cons (T.eNoPath.place hr rfl (pv 0)) (pa_cons (T.eNoRange.place hr rfl (pv 0)) pa_nil)))))))
      (pss_cons (ps_set (i := 1) scPlace.nd rfl (Or.inl rfl) (pe_op op_catS (pv 1) (pe_lst (pa_cons (T.eTooMany.place hr rfl (pv 0)) (pa_cons (T.eNoWish.place hr rfl (pv 0)) (pa_cons (T.eOtherBoxes.place hr rfl (pv 0) pe_int) (pa_cons (T.eNoArea.place hr rfl (pv 0)) pa_nil)))))))
      (pss_cons (ps_set (i := 1) scPlace.nd rfl (Or.inl rfl) (pe_op op_catS (pv 1) (pe_lst (pa_cons (T.eNoSizes.place hr rfl (pv 0)) (pa_cons (T.eNoCrossings.place hr rfl (pv 0)) (pa_cons (T.eNoOrder.place hr rfl (pv 0)) (pa_cons (T.eNoText.place hr rfl (pv 0)) pa_nil)))))))
      (pss_one (ps_ret (pv 1))))))), ?_⟩
    refine ⟨_, rfl, x, rfl, fun a0 H0 n0 s0 e0 => ?_⟩
    refine ⟨_, rfl, x, .int 7, rfl, fun a1 H1 n1 s1 e1 => ?_⟩
    refine ⟨_, rfl, x, .int 7, rfl, fun a2 H2 n2 s2 e2 => ?_⟩
    refine ⟨_, rfl, x, rfl, fun a3 H3 n3 s3 e3 => ?_⟩
    refine ⟨(by show 4 ≤ sizeLine; decide), fun d0 nd0 => ?_⟩
    have sd0 := same_upd (o := .lst [.ref a0, .ref a1, .ref a2, .ref a3]) nd0
    have hl0 : upd H3 d0 (.lst [.ref a0, .ref a1, .ref a2, .ref a3]) d0 = some (.lst [.ref a0, .ref a1, .ref a2, .ref a3]) := upd_same
    refine ⟨_, rfl, ?_⟩
    refine ⟨_, rfl, x, .int 7, rfl, fun a4 H4 n4 s4 e4 => ?_⟩
    refine ⟨_, rfl, x, rfl, fun a5 H5 n5 s5 e5 => ?_⟩
    refine ⟨_, rfl, x, rfl, fun a6 H6 n6 s6 e6 => ?_⟩
    refine ⟨_, rfl, x, rfl, fun a7 H7 n7 s7 e7 => ?_⟩
    refine ⟨(by show 4 ≤ sizeLine; decide), fun d1 nd1 => ?_⟩
    have sd1 := same_upd (o := .lst [.ref a4, .ref a5, .ref a6, .ref a7]) nd1
    have hm1 := ((((s4.trans s5).trans s6).trans s7).trans sd1) _ _ hl0
    refine ⟨d0, d1, _, _, rfl, rfl, SqL.of hm1, SqL.of upd_same, (by show 8 ≤ sizeLine; decide), fun p1 np1 => ?_⟩
    have sp1 := same_upd (o := .lst [.ref a0, .ref a1, .ref a2, .ref a3, .ref a4, .ref a5, .ref a6, .ref a7]) np1
    have hl1 := upd_same (H := upd H7 d1 (.lst [.ref a4, .ref a5, .ref a6, .ref a7])) (a := p1) (o := .lst [.ref a0, .ref a1, .ref a2, .ref a3, .ref a4, .ref a5, .ref a6, .ref a7])
    refine ⟨_, rfl, ?_⟩
    refine ⟨_, rfl, x, rfl, fun a8 H8 n8 s8 e8 => ?_⟩
    refine ⟨_, rfl, x, rfl, fun a9 H9 n9 s9 e9 => ?_⟩
    refine ⟨_, rfl, x, .int 7, rfl, fun a10 H10 n10 s10 e10 => ?_⟩
    refine ⟨_, rfl, x, rfl, fun a11 H11 n11 s11 e11 => ?_⟩
    refine ⟨(by show 4 ≤ sizeLine; decide), fun d2 nd2 => ?_⟩
    have sd2 := same_upd (o := .lst [.ref a8, .ref a9, .ref a10, .ref a11]) nd2
    have hm2 := ((((s8.trans s9).trans s10).trans s11).trans sd2) _ _ hl1
    refine ⟨p1, d2, _, _, rfl, rfl, SqL.of hm2, SqL.of upd_same, (by show 12 ≤ sizeLine; decide), fun p2 np2 => ?_⟩
    have sp2 := same_upd (o := .lst [.ref a0, .ref a1, .ref a2, .ref a3, .ref a4, .ref a5, .ref a6, .ref a7, .ref a8, .ref a9, .ref a10, .ref a11]) np2
    have hl2 := upd_same (H := upd H11 d2 (.lst [.ref a8, .ref a9, .ref a10, .ref a11])) (a := p2) (o := .lst [.ref a0, .ref a1, .ref a2, .ref a3, .ref a4, .ref a5, .ref a6, .ref a7, .ref a8, .ref a9, .ref a10, .ref a11])
    refine ⟨_, rfl, ?_⟩
    refine ⟨_, rfl, x, rfl, fun a12 H12 n12 s12 e12 => ?_⟩
    refine ⟨_, rfl, x, rfl, fun a13 H13 n13 s13 e13 => ?_⟩
    refine ⟨_, rfl, x, rfl, fun a14 H14 n14 s14 e14 => ?_⟩
    refine ⟨_, rfl, x, rfl, fun a15 H15 n15 s15 e15 => ?_⟩
    refine ⟨(by show 4 ≤ sizeLine; decide), fun d3 nd3 => ?_⟩
    have sd3 := same_upd (o := .lst [.ref a12, .ref a13, .ref a14, .ref a15]) nd3
    have hm3 := ((((s12.trans s13).trans s14).trans s15).trans sd3) _ _ hl2
    refine ⟨p2, d3, _, _, rfl, rfl, SqL.of hm3, SqL.of upd_same, (by show 16 ≤ sizeLine; decide), fun p3 np3 => ?_⟩
    have sp3 := same_upd (o := .lst [.ref a0, .ref a1, .ref a2, .ref a3, .ref a4, .ref a5, .ref a6, .ref a7, .ref a8, .ref a9, .ref a10, .ref a11, .ref a12, .ref a13, .ref a14, .ref a15]) np3
    have hl3 := upd_same (H := upd H15 d3 (.lst [.ref a12, .ref a13, .ref a14, .ref a15])) (a := p3) (o := .lst [.ref a0, .ref a1, .ref a2, .ref a3, .ref a4, .ref a5, .ref a6, .ref a7, .ref a8, .ref a9, .ref a10, .ref a11, .ref a12, .ref a13, .ref a14, .ref a15])
    refine ⟨_, rfl, ?_⟩
    have t22 := sp3
    have t21 := sd3.trans t22
    have t20 := s15.trans t21
    have t19 := s14.trans t20
    have t18 := s13.trans t19
    have t17 := s12.trans t18
    have t16 := sp2.trans t17
    have t15 := sd2.trans t16
    have t14 := s11.trans t15
    have t13 := s10.trans t14
    have t12 := s9.trans t13
    have t11 := s8.trans t12
    have t10 := sp1.trans t11
    have t9 := sd1.trans t10
    have t8 := s7.trans t9
    have t7 := s6.trans t8
    have t6 := s5.trans t7
    have t5 := s4.trans t6
    have t4 := sd0.trans t5
    have t3 := s3.trans t4
    have t2 := s2.trans t3
    have t1 := s1.trans t2
    have t0 := s0.trans t1
    refine k _ _ t0 ⟨[a0, a1, a2, a3, a4, a5, a6, a7, a8, a9, a10, a11, a12, a13, a14, a15], rfl, upd_same, fun i c hc => ?_⟩
    match i, hc with
    | 0, hc => cases hc; exact ⟨a0, rfl, e0.same t1⟩
    | 1, hc => cases hc; exact ⟨a1, rfl, e1.same t2⟩
    | 2, hc => cases hc; exact ⟨a2, rfl, e2.same t3⟩
    | 3, hc => cases hc; exact ⟨a3, rfl, e3.same t4⟩
    | 4, hc => cases hc; exact ⟨a4, rfl, e4.same t6⟩
    | 5, hc => cases hc; exact ⟨a5, rfl, e5.same t7⟩
    | 6, hc => cases hc; exact ⟨a6, rfl, e6.same t8⟩
    | 7, hc => cases hc; exact ⟨a7, rfl, e7.same t9⟩
    | 8, hc => cases hc; exact ⟨a8, rfl, e8.same t12⟩
    | 9, hc => cases hc; exact ⟨a9, rfl, e9.same t13⟩
    | 10, hc => cases hc; exact ⟨a10, rfl, e10.same t14⟩
    | 11, hc => cases hc; exact ⟨a11, rfl, e11.same t15⟩
    | 12, hc => cases hc; exact ⟨a12, rfl, e12.same t18⟩
    | 13, hc => cases hc; exact ⟨a13, rfl, e13.same t19⟩
    | 14, hc => cases hc; exact ⟨a14, rfl, e14.same t20⟩
    | 15, hc => cases hc; exact ⟨a15, rfl, e15.same t21⟩
    | n + 16, hc => exact absurd hc (by intro z; cases z)
theorem scName : FnScope ["x", "some"] ["x"] (defScope sName) := ⟨rfl, rfl, rfl, by decide +kernel, rfl, by decide +kernel, by decide +kernel⟩
theorem okName {P : Program} {w : World} {K : PySem.W.Frag} {mg : Str → Option Value} {base : Heap} {f : Addr} {fd : FuncData} (F : FnP K "_law_by_name" sName f fd) (T : TxtE P w K mg base) : FnOk P w K mg base CX0 3 f fd ["x"] (spMk K) := by
  refine F.ok scName (fun vs H Q E h => ?_) (fun cdv A outer s H vs Q E hr h => ?_)
  · obtain ⟨x, rfl, _⟩ := h
    rfl
  · obtain ⟨x, rfl, k⟩ := h
    refine ⟨_, PSs.nox (pss_cons (ps_set (i := 1) scName.nd rfl (Or.inl rfl) (pe_lst (pa_cons (T.eNoNumber.name hr rfl (pk_cons (pv 0) pk_nil)) (pa_cons (T.eNoContent.name hr rfl (pk_cons pe_int (pk_cons (pv 0) pk_nil))) (pa_cons (T.eNoGrid.name hr rfl (pk_cons pe_int (pk_cons (pv 0) pk_nil))) pa_nil)))))
      (pss_cons (ps_set (i := 1) scName.nd rfl (Or.inl rfl) (pe_op op_catS (pv 1) (pe_lst (pa_cons (T.eNoItem.name hr rfl (pk_cons (pv 0) pk_nil)) (pa_cons (T.eNoPage.name hr rfl (pk_cons pe_int (pk_cons (pv 0) pk_nil))) (pa_cons (T.eManyLanes.name hr rfl (pk_cons (pv 0) pk_nil)) pa_nil))))))
      (pss_cons (ps_set (i := 1) scName.nd rfl (Or.inl rfl) (pe_op op_catS (pv 1) (pe_lst (pa_cons (T.eNoPath.name hr rfl (pk_cons (pv 0) pk_nil)) (pa_cons (T.eNoRange.name hr rfl (pk_cons (pv 0) pk_nil)) (pa_cons (T.eTooMany.name hr rfl (pk_cons (pv 0) pk_nil)) pa_nil))))))
      (pss_cons (ps_set (i := 1) scName.nd rfl (Or.inl rfl) (pe_op op_catS (pv 1) (pe_lst (pa_cons (T.eNoWish.name hr rfl (pk_cons (pv 0) pk_nil)) (pa_cons (T.eOtherBoxes.name hr rfl (pk_cons pe_int (pk_cons (pv 0) pk_nil))) (pa_cons (T.eNoArea.name hr rfl (pk_cons (pv 0) pk_nil)) pa_nil))))))
      (pss_cons (ps_set (i := 1) scName.nd rfl (Or.inl rfl) (pe_op op_catS (pv 1) (pe_lst (pa_cons (T.eNoSizes.name hr rfl (pk_cons (pv 0) pk_nil)) (pa_cons (T.eNoCrossings.name hr rfl (pk_cons (pv 0) pk_nil)) (pa_cons (T.eNoOrder.name hr rfl (pk_cons (pv 0) pk_nil)) pa_nil))))))
      (pss_cons (ps_set (i := 1) scName.nd rfl (Or.inl rfl) (pe_op op_catS (pv 1) (pe_lst (pa_cons (T.eNoText.name hr rfl (pk_cons (pv 0) pk_nil)) pa_nil))))
      (pss_one (ps_ret (pv 1))))))))), ?_⟩
    refine ⟨_, rfl, x, rfl, fun a0 H0 n0 s0 e0 => ?_⟩
    refine ⟨_, rfl, x, .int 7, rfl, fun a1 H1 n1 s1 e1 => ?_⟩
    refine ⟨_, rfl, x, .int 7, rfl, fun a2 H2 n2 s2 e2 => ?_⟩
    refine ⟨(by show 3 ≤ sizeLine; decide), fun d0 nd0 => ?_⟩
    have sd0 := same_upd (o := .lst [.ref a0, .ref a1, .ref a2]) nd0
    have hl0 : upd H2 d0 (.lst [.ref a0, .ref a1, .ref a2]) d0 = some (.lst [.ref a0, .ref a1, .ref a2]) := upd_same
    refine ⟨_, rfl, ?_⟩
    refine ⟨_, rfl, x, rfl, fun a3 H3 n3 s3 e3 => ?_⟩
    refine ⟨_, rfl, x, .int 7, rfl, fun a4 H4 n4 s4 e4 => ?_⟩
    refine ⟨_, rfl, x, rfl, fun a5 H5 n5 s5 e5 => ?_⟩
    refine ⟨(by show 3 ≤ sizeLine; decide), fun d1 nd1 => ?_⟩
    have sd1 := same_upd (o := .lst [.ref a3, .ref a4, .ref a5]) nd1
    have hm1 := (((s3.trans s4).trans s5).trans sd1) _ _ hl0
    refine ⟨d0, d1, _, _, rfl, rfl, SqL.of hm1, SqL.of upd_same, (by show 6 ≤ sizeLine; decide), fun p1 np1 => ?_⟩
    have sp1 := same_upd (o := .lst [.ref a0, .ref a1, .ref a2, .ref a3, .ref a4, .ref a5]) np1
    have hl1 := upd_same (H := upd H5 d1 (.lst [.ref a3, .ref a4, .ref a5])) (a := p1) (o := .lst [.ref a0, .ref a1, .ref a2, .ref a3, .ref a4, .ref a5])
    refine ⟨_, rfl, ?_⟩
    refine ⟨_, rfl, x, rfl, fun a6 H6 n6 s6 e6 => ?_⟩
    refine ⟨_, rfl, x, rfl, fun a7 H7 n7 s7 e7 => ?_⟩
    refine ⟨_, rfl, x, rfl, fun a8 H8 n8 s8 e8 => ?_⟩
    refine ⟨(by show 3 ≤ sizeLine; decide), fun d2 nd2 => ?_⟩
    have sd2 := same_upd (o := .lst [.ref a6, .ref a7, .ref a8]) nd2
    have hm2 := (((s6.trans s7).trans s8).trans sd2) _ _ hl1
    refine ⟨p1, d2, _, _, rfl, rfl, SqL.of hm2, SqL.of upd_same, (by show 9 ≤ sizeLine; decide), fun p2 np2 => ?_⟩
    have sp2 := same_upd (o := .lst [.ref a0, .ref a1, .ref a2, .ref a3, .ref a4, .ref a5, .ref a6, .ref a7, .ref a8]) np2
    have hl2 := upd_same (H := upd H8 d2 (.lst [.ref a6, .ref a7, .ref a8])) (a := p2) (o := .lst [.ref a0, .ref a1, .ref a2, .ref a3, .ref a4, .ref a5, .ref a6, .ref a7, .ref a8])
    refine ⟨_, rfl, ?_⟩
    refine ⟨_, rfl, x, rfl, fun a9 H9 n9 s9 e9 => ?_⟩
    refine ⟨_, rfl, x, .int 7, rfl, fun a10 H10 n10 s10 e10 => ?_⟩
    refine ⟨_, rfl, x, rfl, fun a11 H11 n11 s11 e11 => ?_⟩
    refine ⟨(by show 3 ≤ sizeLine; decide), fun d3 nd3 => ?_⟩
    have sd3 := same_upd (o := .lst [.ref a9, .ref a10, .ref a11]) nd3
    have hm3 := (((s9.trans s10).trans s11).trans sd3) _ _ hl2
    refine ⟨p2, d3, _, _, rfl, rfl, SqL.of hm3, SqL.of upd_same, (by show 12 ≤ sizeLine; decide), fun p3 np3 => ?_⟩
    have sp3 := same_upd (o := .lst [.ref a0, .ref a1, .ref a2, .ref a3, .ref a4, .ref a5, .ref a6, .ref a7, .ref a8, .ref a9, .ref a10, .ref a11]) np3
    have hl3 := upd_same (H := upd H11 d3 (.lst [.ref a9, .ref a10, .ref a11])) (a := p3) (o := .lst [.ref a0, .ref a1, .ref a2, .ref a3, .ref a4, .ref a5, .ref a6, .ref a7, .ref a8, .ref a9, .ref a10, .ref a11])
    refine ⟨_, rfl, ?_⟩
    refine ⟨_, rfl, x, rfl, fun a12 H12 n12 s12 e12 => ?_⟩
    refine ⟨_, rfl, x, rfl, fun a13 H13 n13 s13 e13 => ?_⟩
    refine ⟨_, rfl, x, rfl, fun a14 H14 n14 s14 e14 => ?_⟩
    refine ⟨(by show 3 ≤ sizeLine; decide), fun d4 nd4 => ?_⟩
    have sd4 := same_upd (o := .lst [.ref a12, .ref a13, .ref a14]) nd4
    have hm4 := (((s12.trans s13).trans s14).trans sd4) _ _ hl3
    refine ⟨p3, d4, _, _, rfl, rfl, SqL.of hm4, SqL.of upd_same, (by show 15 ≤ sizeLine; decide), fun p4 np4 => ?_⟩
    have sp4 := same_upd (o := .lst [.ref a0, .ref a1, .ref a2, .ref a3, .ref a4, .ref a5, .ref a6, .ref a7, .ref a8, .ref a9, .ref a10, .ref a11, .ref a12, .ref a13, .ref a14]) np4
    have hl4 := upd_same (H := upd H14 d4 (.lst [.ref a12, .ref a13, .ref a14])) (a := p4) (o := .lst [.ref a0, .ref a1, .ref a2, .ref a3, .ref a4, .ref a5, .ref a6, .ref a7, .ref a8, .ref a9, .ref a10, .ref a11, .ref a12, .ref a13, .ref a14])
    refine ⟨_, rfl, ?_⟩
    refine ⟨_, rfl, x, rfl, fun a15 H15 n15 s15 e15 => ?_⟩
    refine ⟨(by show 1 ≤ sizeLine; decide), fun d5 nd5 => ?_⟩
    have sd5 := same_upd (o := .lst [.ref a15]) nd5
    have hm5 := (s15.trans sd5) _ _ hl4
    refine ⟨p4, d5, _, _, rfl, rfl, SqL.of hm5, SqL.of upd_same, (by show 16 ≤ sizeLine; decide), fun p5 np5 => ?_⟩
    have sp5 := same_upd (o := .lst [.ref a0, .ref a1, .ref a2, .ref a3, .ref a4, .ref a5, .ref a6, .ref a7, .ref a8, .ref a9, .ref a10, .ref a11, .ref a12, .ref a13, .ref a14, .ref a15]) np5
    have hl5 := upd_same (H := upd H15 d5 (.lst [.ref a15])) (a := p5) (o := .lst [.ref a0, .ref a1, .ref a2, .ref a3, .ref a4, .ref a5, .ref a6, .ref a7, .ref a8, .ref a9, .ref a10, .ref a11, .ref a12, .ref a13, .ref a14, .ref a15])
    refine ⟨_, rfl, ?_⟩
    have t26 := sp5
    have t25 := sd5.trans t26
    have t24 := s15.trans t25
    have t23 := sp4.trans t24
    have t22 := sd4.trans t23
    have t21 := s14.trans t22
    have t20 := s13.trans t21
    have t19 := s12.trans t20
    have t18 := sp3.trans t19
    have t17 := sd3.trans t18
    have t16 := s11.trans t17
    have t15 := s10.trans t16
    have t14 := s9.trans t15
    have t13 := sp2.trans t14
    have t12 := sd2.trans t13
    have t11 := s8.trans t12
    have t10 := s7.trans t11
    have t9 := s6.trans t10
    have t8 := sp1.trans t9
    have t7 := sd1.trans t8
    have t6 := s5.trans t7
    have t5 := s4.trans t6
    have t4 := s3.trans t5
    have t3 := sd0.trans t4
    have t2 := s2.trans t3
    have t1 := s1.trans t2
    have t0 := s0.trans t1
    refine k _ _ t0 ⟨[a0, a1, a2, a3, a4, a5, a6, a7, a8, a9, a10, a11, a12, a13, a14, a15], rfl, upd_same, fun i c hc => ?_⟩
    match i, hc with
    | 0, hc => cases hc; exact ⟨a0, rfl, e0.same t1⟩
    | 1, hc => cases hc; exact ⟨a1, rfl, e1.same t2⟩
    | 2, hc => cases hc; exact ⟨a2, rfl, e2.same t3⟩
    | 3, hc => cases hc; exact ⟨a3, rfl, e3.same t5⟩
    | 4, hc => cases hc; exact ⟨a4, rfl, e4.same t6⟩
    | 5, hc => cases hc; exact ⟨a5, rfl, e5.same t7⟩
    | 6, hc => cases hc; exact ⟨a6, rfl, e6.same t10⟩
    | 7, hc => cases hc; exact ⟨a7, rfl, e7.same t11⟩
    | 8, hc => cases hc; exact ⟨a8, rfl, e8.same t12⟩
    | 9, hc => cases hc; exact ⟨a9, rfl, e9.same t15⟩
    | 10, hc => cases hc; exact ⟨a10, rfl, e10.same t16⟩
    | 11, hc => cases hc; exact ⟨a11, rfl, e11.same t17⟩
    | 12, hc => cases hc; exact ⟨a12, rfl, e12.same t20⟩
    | 13, hc => cases hc; exact ⟨a13, rfl, e13.same t21⟩
    | 14, hc => cases hc; exact ⟨a14, rfl, e14.same t22⟩
    | 15, hc => cases hc; exact ⟨a15, rfl, e15.same t25⟩
    | n + 16, hc => exact absurd hc (by intro z; cases z)
end K4

set_option Elab.async false
set_option linter.all false
set_option maxRecDepth 100000
set_option maxHeartbeats 4000000
namespace K4
open PySem PySem.Spec PyProof.Rows L2
section
variable {P : Program} {w : World} {K : PySem.W.Frag} {mg : Str → Option Value} {base : Heap}
/-! ### the draws -/
theorem scDraw : FnScope ["well", "many", "found", "figure"] ["well", "many"] (defScope sDraw) := ⟨rfl, rfl, rfl, by decide +kernel, rfl, by decide +kernel, by decide +kernel⟩
theorem draw_bound {w1 w2 : Int} (h1 : 0 ≤ w1) (h2 : w1 < 4294967296) (h3 : 0 ≤ w2) (h4 : w2 < 1000001) : -(2 ^ 64) < w1 + 104729 * w2 + 1 ∧ w1 + 104729 * w2 + 1 < 2 ^ 64 := by omega
theorem ok_draw {f : Addr} {fd : FuncData} (F : FnP K "_law_draw" sDraw f fd) (hi : mg "int" = none) : FnOk P w K mg base CX0 1 f fd ["well", "many"] spDraw := by
  refine F.ok scDraw (fun vs H Q E h => ?_) (fun cdv A outer s H vs Q E hr h => ?_)
  · obtain ⟨a, m, n, rfl, _⟩ := h
    rfl
  · obtain ⟨a, m, n, rfl, ⟨w0, w1, w2, hw, h0, h1, h1', h2, h2'⟩, hn, hm, hm', k⟩ := h
    refine ⟨_, PSs.nox (pss_cons (ps_if (pt_cmpR op_gt (pe_ix ix_list (pv 0) pe_int (fun _ _ => rfl)) pe_int (nomark _))
        (pss_cons (ps_set (i := 2) scDraw.nd rfl (Or.inl rfl) (pe_op op_modN (pe_callTy call_int1 (by rfl) hi (by decide +kernel) (pa_cons (pe_ix ix_list (pv 0) pe_int (fun _ _ => rfl)) pa_nil)) (pv 1)))
        (pss_cons (ps_asg (pe_op op_fdivN (pe_ix ix_list (pv 0) pe_int (fun _ _ => rfl)) (pv 1)) (pg_sub (pv 0) pe_int set_list))
        (pss_one (ps_ret (pv 2))))) pss_nil)
      (pss_cons (ps_asg (pe_op op_add (pe_ix ix_list (pv 0) pe_int (fun _ _ => rfl)) pe_int) (pg_sub (pv 0) pe_int set_list))
      (pss_cons (ps_set (i := 3) scDraw.nd rfl (Or.inl rfl) (pe_op op_modN (pe_callTy call_int1 (by rfl) hi (by decide +kernel) (pa_cons (pe_op op_mul (pe_op op_add (pe_op op_add (pe_ix ix_list (pv 0) pe_int (fun _ _ => rfl)) (pe_op op_mul pe_int (pe_ix ix_list (pv 0) pe_int (fun _ _ => rfl)))) pe_int) pe_int) pa_nil)) pe_int))
      (pss_cons (ps_set (i := 3) scDraw.nd rfl (Or.inl rfl) (pe_op op_modN (pe_callTy call_int1 (by rfl) hi (by decide +kernel) (pa_cons (pe_op op_mul (pv 3) (pe_op op_add (pe_op op_fdivN (pv 3) pe_int) pe_int)) pa_nil)) pe_int))
      (pss_one (ps_ret (pe_op op_modN (pe_callTy call_int1 (by rfl) hi (by decide +kernel) (pa_cons (pe_op op_modN (pe_callTy call_int1 (by rfl) hi (by decide +kernel) (pa_cons (pe_op op_mul (pv 3) (pe_op op_add (pe_op op_fdivN (pv 3) pe_int) pe_int)) pa_nil)) pe_int) pa_nil)) (pv 1)))))))), ?_⟩
    -- well[0] > 0
    refine ⟨_, rfl, a, _, _, _, rfl, rfl, SqL.of hw, at0, _, _, rfl, rfl, _, rfl, ?_⟩
    refine ite2 (fun c => ?_) (fun c => ?_)
    · refine ⟨_, rfl, a, _, _, _, rfl, rfl, SqL.of hw, at0, .inl ⟨_, rfl, _, rfl, _, _, rfl, rfl, (by show m ≠ 0; omega), ?_⟩⟩
      refine ⟨_, rfl, a, _, _, _, rfl, rfl, SqL.of hw, at0, _, rfl, _, _, rfl, rfl, divN hm hm', ?_⟩
      refine ⟨_, rfl, a, _, _, 0, rfl, rfl, hw, rfl, ?_⟩
      refine ⟨_, rfl, ?_⟩
      obtain ⟨r0, r1⟩ := fmod_in (x := w0) hm
      exact k _ _ r0 r1 But.upd ⟨w0.fdiv m, w1, w2, upd_same, fdiv_in h0 hm, h1, h1', h2, by omega⟩
    · refine ⟨_, rfl, a, _, _, _, rfl, rfl, SqL.of hw, at2, _, _, rfl, rfl, ?_⟩
      refine ⟨_, rfl, a, _, _, 2, rfl, rfl, hw, rfl, ?_⟩
      have hw' : upd H a (.lst [.int w0, .int w1, .int (w2 + 1)]) a = some (.lst [.int w0, .int w1, .int (w2 + 1)]) := upd_same
      -- figure, the first
      refine ⟨_, rfl, a, _, _, _, rfl, rfl, SqL.of hw', at1, _, rfl, a, _, _, _, rfl, rfl, SqL.of hw', at2, _, _, rfl, rfl, .inl ⟨by decide, by decide⟩, _, _, rfl, rfl, _, _, rfl, rfl, _, _, rfl, rfl, .inr ⟨by decide, by decide⟩, .inl ⟨_, rfl, _, _, rfl, rfl, (by show (2147483647 : Int) ≠ 0; decide), ?_⟩⟩
      obtain ⟨a0, a1⟩ := fmod_in (x := (w1 + 104729 * (w2 + 1) + 1) * 48271) (m := 2147483647) (by decide)
      refine ⟨_, rfl, _, rfl, _, _, rfl, rfl, ⟨by decide, by decide⟩, _, _, rfl, rfl, _, _, rfl, rfl, .inl ⟨by omega, by omega⟩, .inl ⟨_, rfl, _, _, rfl, rfl, (by show (2147483647 : Int) ≠ 0; decide), ?_⟩⟩
      obtain ⟨b0, b1⟩ := fmod_in (x := ((w1 + 104729 * (w2 + 1) + 1) * 48271).fmod 2147483647 * ((((w1 + 104729 * (w2 + 1) + 1) * 48271).fmod 2147483647).fdiv 1009 + 69621)) (m := 2147483647) (by decide)
      refine ⟨_, rfl, _, rfl, _, _, rfl, rfl, ⟨by decide, by decide⟩, _, _, rfl, rfl, _, _, rfl, rfl, .inl ⟨by omega, by omega⟩, .inl ⟨_, rfl, _, _, rfl, rfl, (by show (2147483399 : Int) ≠ 0; decide), .inl ⟨_, rfl, _, rfl, _, _, rfl, rfl, (by show m ≠ 0; omega), ?_⟩⟩⟩
      obtain ⟨r0, r1⟩ := fmod_in (x := (((((w1 + 104729 * (w2 + 1) + 1) * 48271).fmod 2147483647 * ((((w1 + 104729 * (w2 + 1) + 1) * 48271).fmod 2147483647).fdiv 1009 + 69621)).fmod 2147483647 * (((((w1 + 104729 * (w2 + 1) + 1) * 48271).fmod 2147483647 * ((((w1 + 104729 * (w2 + 1) + 1) * 48271).fmod 2147483647).fdiv 1009 + 69621)).fmod 2147483647).fdiv 2003 + 40692)).fmod 2147483399)) hm
      exact k _ _ r0 r1 But.upd ⟨w0, w1, w2 + 1, upd_same, h0, h1, h1', by omega, by omega⟩
theorem scOne : FnScope ["well", "some"] ["well", "some"] (defScope sOne) := ⟨rfl, rfl, rfl, by decide +kernel, rfl, by decide +kernel, by decide +kernel⟩
theorem ok_one {f fD : Addr} {fd fdD : FuncData} (F : FnP K "_law_one" sOne f fd) (FD : FnP K "_law_draw" sDraw fD fdD) (hi : mg "int" = none) (hl : mg "len" = none) (gD : mg "_law_draw" = some (.ref fD)) : FnOk P w K mg base CX0 2 f fd ["well", "some"] (spOne K) := by
  have GD : FnOk P w K mg base CX0 1 fD fdD ["well", "many"] spDraw := ok_draw FD hi
  have bD : Binds K fdD ["well", "many"] [] := FD.bindsN fun _ _ _ _ _ _ us hl => match us, hl with | [_, _], _ => rfl
  refine F.ok scOne (fun vs H Q E h => ?_) (fun cdv A outer s H vs Q E hr h => ?_)
  · obtain ⟨a, b, n, xs, rfl, _⟩ := h
    rfl
  · obtain ⟨a, b, n, xs, rfl, hw, hn, hab, hb, hl0, hl1, k⟩ := h
    refine ⟨_, PSs.nox (pss_one (ps_ret (pe_ix ix_list (pv 1) (pe_call GD hr rfl gD FD.kp bD .nil pass0 (pa_cons (pv 0) (pa_cons (pe_callB call_len_seq (by rfl) hl PySem.boot_len (pa_cons (pv 1) pa_nil)) pa_nil))) (fun _ _ => rfl)))), ?_⟩
    refine ⟨_, rfl, _, rfl, _, rfl, b, xs, rfl, .inl (SqL.of hb), a, _, n, rfl, hw, hn, by omega, by omega, fun r H' r0 r1 hbt hw' => ?_⟩
    have hb' : H' b = some (.lst xs) := (hbt b (Ne.symm hab)).trans hb
    obtain ⟨j, rfl⟩ := Int.eq_ofNat_of_zero_le r0
    have hj : j < xs.length := by omega
    refine ⟨b, xs, _, xs[j], rfl, rfl, SqL.of hb', atI_nat (List.getElem?_eq_getElem hj), ?_⟩
    exact k _ _ (List.getElem_mem hj) hbt hw'

/-! ### which classes an exception belongs to -/
def kitRow (K : PySem.W.Frag) (D : Addr) (bf : Nat → Bool) : Prop := ∀ i c, cn[i]? = some c → PySem.W.kitOne K (.ref D) (.ref (ga K c)) = some (bf i)
def row (bf : Nat → Bool) : List V := (List.range 16).map fun i => V.bl (bf i)
def spTaken (K : PySem.W.Frag) : Sp := fun vs H Q _ => ∃ (a D : Addr) (d : Option Addr) (bf : Nat → Bool), vs = [.ref a] ∧ H a = some (exo a D d) ∧ (∀ dx, d = some dx → ∃ fs, H dx = some (exd dx fs)) ∧ ExcC K D ∧ kitRow K D bf ∧ ∀ H' p, Same H H' → H' p = some (.lst (row bf)) → Q (.ref p) H'

structure TxtC (K : PySem.W.Frag) (mg : Str → Option Value) : Prop where
  isi : mg "isinstance" = none
  gNoNumber : mg "NoNumber" = some (.ref (ga K "NoNumber"))
  gNoContent : mg "NoContent" = some (.ref (ga K "NoContent"))
  gNoGrid : mg "NoGrid" = some (.ref (ga K "NoGrid"))
  gNoItem : mg "NoItem" = some (.ref (ga K "NoItem"))
  gNoPage : mg "NoPage" = some (.ref (ga K "NoPage"))
  gManyLanes : mg "ManyLanes" = some (.ref (ga K "ManyLanes"))
  gNoPath : mg "NoPath" = some (.ref (ga K "NoPath"))
  gNoRange : mg "NoRange" = some (.ref (ga K "NoRange"))
  gTooMany : mg "TooMany" = some (.ref (ga K "TooMany"))
  gNoWish : mg "NoWish" = some (.ref (ga K "NoWish"))
  gOtherBoxes : mg "OtherBoxes" = some (.ref (ga K "OtherBoxes"))
  gNoArea : mg "NoArea" = some (.ref (ga K "NoArea"))
  gNoSizes : mg "NoSizes" = some (.ref (ga K "NoSizes"))
  gNoCrossings : mg "NoCrossings" = some (.ref (ga K "NoCrossings"))
  gNoOrder : mg "NoOrder" = some (.ref (ga K "NoOrder"))
  gNoText : mg "NoText" = some (.ref (ga K "NoText"))
theorem scTaken : FnScope ["e", "found"] ["e"] (defScope sTaken) := ⟨rfl, rfl, rfl, by decide +kernel, rfl, by decide +kernel, by decide +kernel⟩
theorem ok_taken {f : Addr} {fd : FuncData} (F : FnP K "_law_taken" sTaken f fd) (T : TxtC K mg) : FnOk P w K mg base CX0 1 f fd ["e"] (spTaken K) := by
  refine F.ok scTaken (fun vs H Q E h => ?_) (fun cdv A outer s H vs Q E hr h => ?_)
  · obtain ⟨a, D, d, bf, rfl, _⟩ := h
    rfl
  · obtain ⟨a, D, d, bf, rfl, ha, hd, hx, hk, k⟩ := h
    refine ⟨_, PSs.nox (pss_cons (ps_set (i := 1) scTaken.nd rfl (Or.inl rfl) (pe_lst (pa_cons (pe_callB call_isV (by rfl) T.isi (by decide +kernel) (pa_cons (pv 0) (pa_cons (pe_glob (by rfl) T.gNoNumber (v := .ref (ga K "NoNumber")) rfl) pa_nil))) (pa_cons (pe_callB call_isV (by rfl) T.isi (by decide +kernel) (pa_cons (pv 0) (pa_cons (pe_glob (by rfl) T.gNoContent (v := .ref (ga K "NoContent")) rfl) pa_nil))) (pa_cons (pe_callB call_isV (by rfl) T.isi (by decide +kernel) (pa_cons (pv 0) (pa_cons (pe_glob (by rfl) T.gNoGrid (v := .ref (ga K "NoGrid")) rfl) pa_nil))) pa_nil)))))
      (pss_cons (ps_set (i := 1) scTaken.nd rfl (Or.inl rfl) (pe_op op_catS (pv 1) (pe_lst (pa_cons (pe_callB call_isV (by rfl) T.isi (by decide +kernel) (pa_cons (pv 0) (pa_cons (pe_glob (by rfl) T.gNoItem (v := .ref (ga K "NoItem")) rfl) pa_nil))) (pa_cons (pe_callB call_isV (by rfl) T.isi (by decide +kernel) (pa_cons (pv 0) (pa_cons (pe_glob (by rfl) T.gNoPage (v := .ref (ga K "NoPage")) rfl) pa_nil))) (pa_cons (pe_callB call_isV (by rfl) T.isi (by decide +kernel) (pa_cons (pv 0) (pa_cons (pe_glob (by rfl) T.gManyLanes (v := .ref (ga K "ManyLanes")) rfl) pa_nil))) pa_nil))))))
      (pss_cons (ps_set (i := 1) scTaken.nd rfl (Or.inl rfl) (pe_op op_catS (pv 1) (pe_lst (pa_cons (pe_callB call_isV (by rfl) T.isi (by decide +kernel) (pa_cons (pv 0) (pa_cons (pe_glob (by rfl) T.gNoPath (v := .ref (ga K "NoPath")) rfl) pa_nil))) (pa_cons (pe_callB call_isV (by rfl) T.isi (by decide +kernel) (pa_cons (pv 0) (pa_cons (pe_glob (by rfl) T.gNoRange (v := .ref (ga K "NoRange")) rfl) pa_nil))) (pa_cons (pe_callB call_isV (by rfl) T.isi (by decide +kernel) (pa_cons (pv 0) (pa_cons (pe_glob (by rfl) T.gTooMany (v := .ref (ga K "TooMany")) rfl) pa_nil))) pa_nil))))))
      (pss_cons (ps_set (i := 1) scTaken.nd rfl (Or.inl rfl) (pe_op op_catS (pv 1) (pe_lst (pa_cons (pe_callB call_isV (by rfl) T.isi (by decide +kernel) (pa_cons (pv 0) (pa_cons (pe_glob (by rfl) T.gNoWish (v := .ref (ga K "NoWish")) rfl) pa_nil))) (pa_cons (pe_callB call_isV (by rfl) T.isi (by decide +kernel) (pa_cons (pv 0) (pa_cons (pe_glob (by rfl) T.gOtherBoxes (v := .ref (ga K "OtherBoxes")) rfl) pa_nil))) (pa_cons (pe_callB call_isV (by rfl) T.isi (by decide +kernel) (pa_cons (pv 0) (pa_cons (pe_glob (by rfl) T.gNoArea (v := .ref (ga K "NoArea")) rfl) pa_nil))) pa_nil))))))
      (pss_cons (ps_set (i := 1) scTaken.nd rfl (Or.inl rfl) (pe_op op_catS (pv 1) (pe_lst (pa_cons (pe_callB call_isV (by rfl) T.isi (by decide +kernel) (pa_cons (pv 0) (pa_cons (pe_glob (by rfl) T.gNoSizes (v := .ref (ga K "NoSizes")) rfl) pa_nil))) (pa_cons (pe_callB call_isV (by rfl) T.isi (by decide +kernel) (pa_cons (pv 0) (pa_cons (pe_glob (by rfl) T.gNoCrossings (v := .ref (ga K "NoCrossings")) rfl) pa_nil))) (pa_cons (pe_callB call_isV (by rfl) T.isi (by decide +kernel) (pa_cons (pv 0) (pa_cons (pe_glob (by rfl) T.gNoOrder (v := .ref (ga K "NoOrder")) rfl) pa_nil))) pa_nil))))))
      (pss_cons (ps_set (i := 1) scTaken.nd rfl (Or.inl rfl) (pe_op op_catS (pv 1) (pe_lst (pa_cons (pe_callB call_isV (by rfl) T.isi (by decide +kernel) (pa_cons (pv 0) (pa_cons (pe_glob (by rfl) T.gNoText (v := .ref (ga K "NoText")) rfl) pa_nil))) pa_nil))))
      (pss_one (ps_ret (pv 1))))))))), ?_⟩
    have u0 : Same H H := Same.refl H
    refine ⟨_, rfl, a, D, d, _, _, bf 0, rfl, u0 _ _ ha, fun dx e => (hd dx e).imp fun fs e2 => u0 _ _ e2, hx, .own _, hk 0 _ rfl, ?_⟩
    refine ⟨_, rfl, a, D, d, _, _, bf 1, rfl, u0 _ _ ha, fun dx e => (hd dx e).imp fun fs e2 => u0 _ _ e2, hx, .own _, hk 1 _ rfl, ?_⟩
    refine ⟨_, rfl, a, D, d, _, _, bf 2, rfl, u0 _ _ ha, fun dx e => (hd dx e).imp fun fs e2 => u0 _ _ e2, hx, .own _, hk 2 _ rfl, ?_⟩
    refine ⟨(by show 3 ≤ sizeLine; decide), fun d0 nd0 => ?_⟩
    have v0 := u0.trans (same_upd (o := .lst [.bl (bf 0), .bl (bf 1), .bl (bf 2)]) nd0)
    have hl0 := upd_same (H := H) (a := d0) (o := .lst [.bl (bf 0), .bl (bf 1), .bl (bf 2)])
    refine ⟨_, rfl, ?_⟩
    refine ⟨_, rfl, a, D, d, _, _, bf 3, rfl, v0 _ _ ha, fun dx e => (hd dx e).imp fun fs e2 => v0 _ _ e2, hx, .own _, hk 3 _ rfl, ?_⟩
    refine ⟨_, rfl, a, D, d, _, _, bf 4, rfl, v0 _ _ ha, fun dx e => (hd dx e).imp fun fs e2 => v0 _ _ e2, hx, .own _, hk 4 _ rfl, ?_⟩
    refine ⟨_, rfl, a, D, d, _, _, bf 5, rfl, v0 _ _ ha, fun dx e => (hd dx e).imp fun fs e2 => v0 _ _ e2, hx, .own _, hk 5 _ rfl, ?_⟩
    refine ⟨(by show 3 ≤ sizeLine; decide), fun d1 nd1 => ?_⟩
    have v1 := v0.trans (same_upd (o := .lst [.bl (bf 3), .bl (bf 4), .bl (bf 5)]) nd1)
    have hm1 := same_upd (o := .lst [.bl (bf 3), .bl (bf 4), .bl (bf 5)]) nd1 _ _ hl0
    refine ⟨d0, d1, _, _, rfl, rfl, SqL.of hm1, SqL.of upd_same, (by show 6 ≤ sizeLine; decide), fun p1 np1 => ?_⟩
    have u1 := v1.trans (same_upd (o := .lst [.bl (bf 0), .bl (bf 1), .bl (bf 2), .bl (bf 3), .bl (bf 4), .bl (bf 5)]) np1)
    have hl1 := upd_same (H := (upd (upd H d0 (.lst [.bl (bf 0), .bl (bf 1), .bl (bf 2)])) d1 (.lst [.bl (bf 3), .bl (bf 4), .bl (bf 5)]))) (a := p1) (o := .lst [.bl (bf 0), .bl (bf 1), .bl (bf 2), .bl (bf 3), .bl (bf 4), .bl (bf 5)])
    refine ⟨_, rfl, ?_⟩
    refine ⟨_, rfl, a, D, d, _, _, bf 6, rfl, u1 _ _ ha, fun dx e => (hd dx e).imp fun fs e2 => u1 _ _ e2, hx, .own _, hk 6 _ rfl, ?_⟩
    refine ⟨_, rfl, a, D, d, _, _, bf 7, rfl, u1 _ _ ha, fun dx e => (hd dx e).imp fun fs e2 => u1 _ _ e2, hx, .own _, hk 7 _ rfl, ?_⟩
    refine ⟨_, rfl, a, D, d, _, _, bf 8, rfl, u1 _ _ ha, fun dx e => (hd dx e).imp fun fs e2 => u1 _ _ e2, hx, .own _, hk 8 _ rfl, ?_⟩
    refine ⟨(by show 3 ≤ sizeLine; decide), fun d2 nd2 => ?_⟩
    have v2 := u1.trans (same_upd (o := .lst [.bl (bf 6), .bl (bf 7), .bl (bf 8)]) nd2)
    have hm2 := same_upd (o := .lst [.bl (bf 6), .bl (bf 7), .bl (bf 8)]) nd2 _ _ hl1
    refine ⟨p1, d2, _, _, rfl, rfl, SqL.of hm2, SqL.of upd_same, (by show 9 ≤ sizeLine; decide), fun p2 np2 => ?_⟩
    have u2 := v2.trans (same_upd (o := .lst [.bl (bf 0), .bl (bf 1), .bl (bf 2), .bl (bf 3), .bl (bf 4), .bl (bf 5), .bl (bf 6), .bl (bf 7), .bl (bf 8)]) np2)
    have hl2 := upd_same (H := (upd (upd (upd (upd H d0 (.lst [.bl (bf 0), .bl (bf 1), .bl (bf 2)])) d1 (.lst [.bl (bf 3), .bl (bf 4), .bl (bf 5)])) p1 (.lst [.bl (bf 0), .bl (bf 1), .bl (bf 2), .bl (bf 3), .bl (bf 4), .bl (bf 5)])) d2 (.lst [.bl (bf 6), .bl (bf 7), .bl (bf 8)]))) (a := p2) (o := .lst [.bl (bf 0), .bl (bf 1), .bl (bf 2), .bl (bf 3), .bl (bf 4), .bl (bf 5), .bl (bf 6), .bl (bf 7), .bl (bf 8)])
    refine ⟨_, rfl, ?_⟩
    refine ⟨_, rfl, a, D, d, _, _, bf 9, rfl, u2 _ _ ha, fun dx e => (hd dx e).imp fun fs e2 => u2 _ _ e2, hx, .own _, hk 9 _ rfl, ?_⟩
    refine ⟨_, rfl, a, D, d, _, _, bf 10, rfl, u2 _ _ ha, fun dx e => (hd dx e).imp fun fs e2 => u2 _ _ e2, hx, .own _, hk 10 _ rfl, ?_⟩
    refine ⟨_, rfl, a, D, d, _, _, bf 11, rfl, u2 _ _ ha, fun dx e => (hd dx e).imp fun fs e2 => u2 _ _ e2, hx, .own _, hk 11 _ rfl, ?_⟩
    refine ⟨(by show 3 ≤ sizeLine; decide), fun d3 nd3 => ?_⟩
    have v3 := u2.trans (same_upd (o := .lst [.bl (bf 9), .bl (bf 10), .bl (bf 11)]) nd3)
    have hm3 := same_upd (o := .lst [.bl (bf 9), .bl (bf 10), .bl (bf 11)]) nd3 _ _ hl2
    refine ⟨p2, d3, _, _, rfl, rfl, SqL.of hm3, SqL.of upd_same, (by show 12 ≤ sizeLine; decide), fun p3 np3 => ?_⟩
    have u3 := v3.trans (same_upd (o := .lst [.bl (bf 0), .bl (bf 1), .bl (bf 2), .bl (bf 3), .bl (bf 4), .bl (bf 5), .bl (bf 6), .bl (bf 7), .bl (bf 8), .bl (bf 9), .bl (bf 10), .bl (bf 11)]) np3)
    have hl3 := upd_same (H := (upd (upd (upd (upd (upd (upd H d0 (.lst [.bl (bf 0), .bl (bf 1), .bl (bf 2)])) d1 (.lst [.bl (bf 3), .bl (bf 4), .bl (bf 5)])) p1 (.lst [.bl (bf 0), .bl (bf 1), .bl (bf 2), .bl (bf 3), .bl (bf 4), .bl (bf 5)])) d2 (.lst [.bl (bf 6), .bl (bf 7), .bl (bf 8)])) p2 (.lst [.bl (bf 0), .bl (bf 1), .bl (bf 2), .bl (bf 3), .bl (bf 4), .bl (bf 5), .bl (bf 6), .bl (bf 7), .bl (bf 8)])) d3 (.lst [.bl (bf 9), .bl (bf 10), .bl (bf 11)]))) (a := p3) (o := .lst [.bl (bf 0), .bl (bf 1), .bl (bf 2), .bl (bf 3), .bl (bf 4), .bl (bf 5), .bl (bf 6), .bl (bf 7), .bl (bf 8), .bl (bf 9), .bl (bf 10), .bl (bf 11)])
    refine ⟨_, rfl, ?_⟩
    refine ⟨_, rfl, a, D, d, _, _, bf 12, rfl, u3 _ _ ha, fun dx e => (hd dx e).imp fun fs e2 => u3 _ _ e2, hx, .own _, hk 12 _ rfl, ?_⟩
    refine ⟨_, rfl, a, D, d, _, _, bf 13, rfl, u3 _ _ ha, fun dx e => (hd dx e).imp fun fs e2 => u3 _ _ e2, hx, .own _, hk 13 _ rfl, ?_⟩
    refine ⟨_, rfl, a, D, d, _, _, bf 14, rfl, u3 _ _ ha, fun dx e => (hd dx e).imp fun fs e2 => u3 _ _ e2, hx, .own _, hk 14 _ rfl, ?_⟩
    refine ⟨(by show 3 ≤ sizeLine; decide), fun d4 nd4 => ?_⟩
    have v4 := u3.trans (same_upd (o := .lst [.bl (bf 12), .bl (bf 13), .bl (bf 14)]) nd4)
    have hm4 := same_upd (o := .lst [.bl (bf 12), .bl (bf 13), .bl (bf 14)]) nd4 _ _ hl3
    refine ⟨p3, d4, _, _, rfl, rfl, SqL.of hm4, SqL.of upd_same, (by show 15 ≤ sizeLine; decide), fun p4 np4 => ?_⟩
    have u4 := v4.trans (same_upd (o := .lst [.bl (bf 0), .bl (bf 1), .bl (bf 2), .bl (bf 3), .bl (bf 4), .bl (bf 5), .bl (bf 6), .bl (bf 7), .bl (bf 8), .bl (bf 9), .bl (bf 10), .bl (bf 11), .bl (bf 12), .bl (bf 13), .bl (bf 14)]) np4)
    have hl4 := upd_same (H := (upd (upd (upd (upd (upd (upd (upd (upd H d0 (.lst [.bl (bf 0), .bl (bf 1), .bl (bf 2)])) d1 (.lst [.bl (bf 3), .bl (bf 4), .bl (bf 5)])) p1 (.lst [.bl (bf 0), .bl (bf 1), .bl (bf 2), .bl (bf 3), .bl (bf 4), .bl (bf 5)])) d2 (.lst [.bl (bf 6), .bl (bf 7), .bl (bf 8)])) p2 (.lst [.bl (bf 0), .bl (bf 1), .bl (bf 2), .bl (bf 3), .bl (bf 4), .bl (bf 5), .bl (bf 6), .bl (bf 7), .bl (bf 8)])) d3 (.lst [.bl (bf 9), .bl (bf 10), .bl (bf 11)])) p3 (.lst [.bl (bf 0), .bl (bf 1), .bl (bf 2), .bl (bf 3), .bl (bf 4), .bl (bf 5), .bl (bf 6), .bl (bf 7), .bl (bf 8), .bl (bf 9), .bl (bf 10), .bl (bf 11)])) d4 (.lst [.bl (bf 12), .bl (bf 13), .bl (bf 14)]))) (a := p4) (o := .lst [.bl (bf 0), .bl (bf 1), .bl (bf 2), .bl (bf 3), .bl (bf 4), .bl (bf 5), .bl (bf 6), .bl (bf 7), .bl (bf 8), .bl (bf 9), .bl (bf 10), .bl (bf 11), .bl (bf 12), .bl (bf 13), .bl (bf 14)])
    refine ⟨_, rfl, ?_⟩
    refine ⟨_, rfl, a, D, d, _, _, bf 15, rfl, u4 _ _ ha, fun dx e => (hd dx e).imp fun fs e2 => u4 _ _ e2, hx, .own _, hk 15 _ rfl, ?_⟩
    refine ⟨(by show 1 ≤ sizeLine; decide), fun d5 nd5 => ?_⟩
    have v5 := u4.trans (same_upd (o := .lst [.bl (bf 15)]) nd5)
    have hm5 := same_upd (o := .lst [.bl (bf 15)]) nd5 _ _ hl4
    refine ⟨p4, d5, _, _, rfl, rfl, SqL.of hm5, SqL.of upd_same, (by show 16 ≤ sizeLine; decide), fun p5 np5 => ?_⟩
    have u5 := v5.trans (same_upd (o := .lst [.bl (bf 0), .bl (bf 1), .bl (bf 2), .bl (bf 3), .bl (bf 4), .bl (bf 5), .bl (bf 6), .bl (bf 7), .bl (bf 8), .bl (bf 9), .bl (bf 10), .bl (bf 11), .bl (bf 12), .bl (bf 13), .bl (bf 14), .bl (bf 15)]) np5)
    have hl5 := upd_same (H := (upd (upd (upd (upd (upd (upd (upd (upd (upd (upd H d0 (.lst [.bl (bf 0), .bl (bf 1), .bl (bf 2)])) d1 (.lst [.bl (bf 3), .bl (bf 4), .bl (bf 5)])) p1 (.lst [.bl (bf 0), .bl (bf 1), .bl (bf 2), .bl (bf 3), .bl (bf 4), .bl (bf 5)])) d2 (.lst [.bl (bf 6), .bl (bf 7), .bl (bf 8)])) p2 (.lst [.bl (bf 0), .bl (bf 1), .bl (bf 2), .bl (bf 3), .bl (bf 4), .bl (bf 5), .bl (bf 6), .bl (bf 7), .bl (bf 8)])) d3 (.lst [.bl (bf 9), .bl (bf 10), .bl (bf 11)])) p3 (.lst [.bl (bf 0), .bl (bf 1), .bl (bf 2), .bl (bf 3), .bl (bf 4), .bl (bf 5), .bl (bf 6), .bl (bf 7), .bl (bf 8), .bl (bf 9), .bl (bf 10), .bl (bf 11)])) d4 (.lst [.bl (bf 12), .bl (bf 13), .bl (bf 14)])) p4 (.lst [.bl (bf 0), .bl (bf 1), .bl (bf 2), .bl (bf 3), .bl (bf 4), .bl (bf 5), .bl (bf 6), .bl (bf 7), .bl (bf 8), .bl (bf 9), .bl (bf 10), .bl (bf 11), .bl (bf 12), .bl (bf 13), .bl (bf 14)])) d5 (.lst [.bl (bf 15)]))) (a := p5) (o := .lst [.bl (bf 0), .bl (bf 1), .bl (bf 2), .bl (bf 3), .bl (bf 4), .bl (bf 5), .bl (bf 6), .bl (bf 7), .bl (bf 8), .bl (bf 9), .bl (bf 10), .bl (bf 11), .bl (bf 12), .bl (bf 13), .bl (bf 14), .bl (bf 15)])
    refine ⟨_, rfl, ?_⟩
    exact k _ _ u5 hl5
/-! ### the fields -/
def dueV (x : V) : List V := [x, x, .int 7, x, .int 7, x, x, .int 7, x, x, x, x, x, x, .int 7, x, x, x, x, x]
def spFields (K : PySem.W.Frag) : Sp := fun vs H Q _ => ∃ (p : Addr) (x : V), vs = [.ref p] ∧ Exs K H p x ∧ ∀ H' q, Same H H' → H' q = some (.lst (dueV x)) → Q (.ref q) H'
theorem lk1 {f : Str} {y : V} : [(f, y)].lookup f = some y := by
  rw [lookup_put, if_pos rfl]
theorem lk2 {f g : Str} {y z : V} : [(g, z), (f, y)].lookup g = some z := by
  rw [lookup_put, if_pos rfl]
theorem lk3 {f g : Str} {y z : V} (h : f ≠ g) : [(g, z), (f, y)].lookup f = some y := by
  rw [lookup_put, if_neg h, lookup_put, if_pos rfl]
theorem at_ref {as : List Addr} {i : Nat} {a : Addr} (h : as[i]? = some a) : atI (as.map V.ref) (i : Int) = some (.ref a) := atI_nat (by rw [List.getElem?_map, h] <;> rfl)
structure TxtF (K : PySem.W.Frag) : Prop where
  xNoNumber : XfC K (ga K "NoNumber")
  nNoNumber_part : PySem.W.findIn K (.ref (ga K "NoNumber")) "part" = some none
  xNoContent : XfC K (ga K "NoContent")
  nNoContent_part : PySem.W.findIn K (.ref (ga K "NoContent")) "part" = some none
  nNoContent_index : PySem.W.findIn K (.ref (ga K "NoContent")) "index" = some none
  xNoGrid : XfC K (ga K "NoGrid")
  nNoGrid_part : PySem.W.findIn K (.ref (ga K "NoGrid")) "part" = some none
  nNoGrid_index : PySem.W.findIn K (.ref (ga K "NoGrid")) "index" = some none
  xNoItem : XfC K (ga K "NoItem")
  nNoItem_part : PySem.W.findIn K (.ref (ga K "NoItem")) "part" = some none
  xNoPage : XfC K (ga K "NoPage")
  nNoPage_part : PySem.W.findIn K (.ref (ga K "NoPage")) "part" = some none
  nNoPage_index : PySem.W.findIn K (.ref (ga K "NoPage")) "index" = some none
  xManyLanes : XfC K (ga K "ManyLanes")
  nManyLanes_axis : PySem.W.findIn K (.ref (ga K "ManyLanes")) "axis" = some none
  xNoPath : XfC K (ga K "NoPath")
  nNoPath_path : PySem.W.findIn K (.ref (ga K "NoPath")) "path" = some none
  xNoRange : XfC K (ga K "NoRange")
  nNoRange_part : PySem.W.findIn K (.ref (ga K "NoRange")) "part" = some none
  xTooMany : XfC K (ga K "TooMany")
  nTooMany_most : PySem.W.findIn K (.ref (ga K "TooMany")) "most" = some none
  xNoWish : XfC K (ga K "NoWish")
  nNoWish_wish : PySem.W.findIn K (.ref (ga K "NoWish")) "wish" = some none
  xOtherBoxes : XfC K (ga K "OtherBoxes")
  nOtherBoxes_one : PySem.W.findIn K (.ref (ga K "OtherBoxes")) "one" = some none
  nOtherBoxes_other : PySem.W.findIn K (.ref (ga K "OtherBoxes")) "other" = some none
  xNoArea : XfC K (ga K "NoArea")
  nNoArea_index : PySem.W.findIn K (.ref (ga K "NoArea")) "index" = some none
  xNoSizes : XfC K (ga K "NoSizes")
  nNoSizes_index : PySem.W.findIn K (.ref (ga K "NoSizes")) "index" = some none
  xNoCrossings : XfC K (ga K "NoCrossings")
  nNoCrossings_index : PySem.W.findIn K (.ref (ga K "NoCrossings")) "index" = some none
  xNoOrder : XfC K (ga K "NoOrder")
  nNoOrder_index : PySem.W.findIn K (.ref (ga K "NoOrder")) "index" = some none
  xNoText : XfC K (ga K "NoText")
  nNoText_line : PySem.W.findIn K (.ref (ga K "NoText")) "line" = some none
theorem scFields : FnScope ["some", "found"] ["some"] (defScope sFields) := ⟨rfl, rfl, rfl, by decide +kernel, rfl, by decide +kernel, by decide +kernel⟩
theorem ok_fields {f : Addr} {fd : FuncData} (F : FnP K "_law_fields" sFields f fd) (T : TxtF K) : FnOk P w K mg base CX0 1 f fd ["some"] (spFields K) := by
  refine F.ok scFields (fun vs H Q E h => ?_) (fun cdv A outer s H vs Q E hr h => ?_)
  · obtain ⟨p, x, rfl, _⟩ := h
    rfl
  · obtain ⟨p, x, rfl, ⟨as, hl, hp, hx⟩, k⟩ := h
    obtain ⟨a0, g0, e0⟩ := hx 0 _ rfl
    obtain ⟨a1, g1, e1⟩ := hx 1 _ rfl
    obtain ⟨a2, g2, e2⟩ := hx 2 _ rfl
    obtain ⟨a3, g3, e3⟩ := hx 3 _ rfl
    obtain ⟨a4, g4, e4⟩ := hx 4 _ rfl
    obtain ⟨a5, g5, e5⟩ := hx 5 _ rfl
    obtain ⟨a6, g6, e6⟩ := hx 6 _ rfl
    obtain ⟨a7, g7, e7⟩ := hx 7 _ rfl
    obtain ⟨a8, g8, e8⟩ := hx 8 _ rfl
    obtain ⟨a9, g9, e9⟩ := hx 9 _ rfl
    obtain ⟨a10, g10, e10⟩ := hx 10 _ rfl
    obtain ⟨a11, g11, e11⟩ := hx 11 _ rfl
    obtain ⟨a12, g12, e12⟩ := hx 12 _ rfl
    obtain ⟨a13, g13, e13⟩ := hx 13 _ rfl
    obtain ⟨a14, g14, e14⟩ := hx 14 _ rfl
    obtain ⟨a15, g15, e15⟩ := hx 15 _ rfl
    refine ⟨_, PSs.nox (pss_cons (ps_set (i := 1) scFields.nd rfl (Or.inl rfl) (pe_lst (pa_cons (pe_fldE (pe_ix ix_list (pv 0) pe_int (fun _ _ => rfl))) (pa_cons (pe_fldE (pe_ix ix_list (pv 0) pe_int (fun _ _ => rfl))) (pa_cons (pe_fldE (pe_ix ix_list (pv 0) pe_int (fun _ _ => rfl))) (pa_cons (pe_fldE (pe_ix ix_list (pv 0) pe_int (fun _ _ => rfl))) pa_nil))))))
      (pss_cons (ps_set (i := 1) scFields.nd rfl (Or.inl rfl) (pe_op op_catS (pv 1) (pe_lst (pa_cons (pe_fldE (pe_ix ix_list (pv 0) pe_int (fun _ _ => rfl))) (pa_cons (pe_fldE (pe_ix ix_list (pv 0) pe_int (fun _ _ => rfl))) (pa_cons (pe_fldE (pe_ix ix_list (pv 0) pe_int (fun _ _ => rfl))) (pa_cons (pe_fldE (pe_ix ix_list (pv 0) pe_int (fun _ _ => rfl))) pa_nil)))))))
      (pss_cons (ps_set (i := 1) scFields.nd rfl (Or.inl rfl) (pe_op op_catS (pv 1) (pe_lst (pa_cons (pe_fldE (pe_ix ix_list (pv 0) pe_int (fun _ _ => rfl))) (pa_cons (pe_fldE (pe_ix ix_list (pv 0) pe_int (fun _ _ => rfl))) (pa_cons (pe_fldE (pe_ix ix_list (pv 0) pe_int (fun _ _ => rfl))) (pa_cons (pe_fldE (pe_ix ix_list (pv 0) pe_int (fun _ _ => rfl))) pa_nil)))))))
      (pss_cons (ps_set (i := 1) scFields.nd rfl (Or.inl rfl) (pe_op op_catS (pv 1) (pe_lst (pa_cons (pe_fldE (pe_ix ix_list (pv 0) pe_int (fun _ _ => rfl))) (pa_cons (pe_fldE (pe_ix ix_list (pv 0) pe_int (fun _ _ => rfl))) (pa_cons (pe_fldE (pe_ix ix_list (pv 0) pe_int (fun _ _ => rfl))) (pa_cons (pe_fldE (pe_ix ix_list (pv 0) pe_int (fun _ _ => rfl))) pa_nil)))))))
      (pss_cons (ps_set (i := 1) scFields.nd rfl (Or.inl rfl) (pe_op op_catS (pv 1) (pe_lst (pa_cons (pe_fldE (pe_ix ix_list (pv 0) pe_int (fun _ _ => rfl))) (pa_cons (pe_fldE (pe_ix ix_list (pv 0) pe_int (fun _ _ => rfl))) (pa_cons (pe_fldE (pe_ix ix_list (pv 0) pe_int (fun _ _ => rfl))) (pa_cons (pe_fldE (pe_ix ix_list (pv 0) pe_int (fun _ _ => rfl))) pa_nil)))))))
      (pss_one (ps_ret (pv 1)))))))), ?_⟩
    have u0 : Same H H := Same.refl H
    refine ⟨_, rfl, p, _, _, _, rfl, rfl, SqL.of (u0 _ _ hp), at_ref (i := 0) g0, a0, _, _, _, rfl, e0.same u0, T.xNoNumber, T.nNoNumber_part, lk1, ?_⟩
    refine ⟨_, rfl, p, _, _, _, rfl, rfl, SqL.of (u0 _ _ hp), at_ref (i := 1) g1, a1, _, _, _, rfl, e1.same u0, T.xNoContent, T.nNoContent_part, (lk3 (by decide +kernel)), ?_⟩
    refine ⟨_, rfl, p, _, _, _, rfl, rfl, SqL.of (u0 _ _ hp), at_ref (i := 1) g1, a1, _, _, _, rfl, e1.same u0, T.xNoContent, T.nNoContent_index, lk2, ?_⟩
    refine ⟨_, rfl, p, _, _, _, rfl, rfl, SqL.of (u0 _ _ hp), at_ref (i := 2) g2, a2, _, _, _, rfl, e2.same u0, T.xNoGrid, T.nNoGrid_part, (lk3 (by decide +kernel)), ?_⟩
    refine ⟨(by show 4 ≤ sizeLine; decide), fun d0 nd0 => ?_⟩
    have v0 := u0.trans (same_upd (o := .lst [x, x, .int 7, x]) nd0)
    have hl0 := upd_same (H := H) (a := d0) (o := .lst [x, x, .int 7, x])
    refine ⟨_, rfl, ?_⟩
    refine ⟨_, rfl, p, _, _, _, rfl, rfl, SqL.of (v0 _ _ hp), at_ref (i := 2) g2, a2, _, _, _, rfl, e2.same v0, T.xNoGrid, T.nNoGrid_index, lk2, ?_⟩
    refine ⟨_, rfl, p, _, _, _, rfl, rfl, SqL.of (v0 _ _ hp), at_ref (i := 3) g3, a3, _, _, _, rfl, e3.same v0, T.xNoItem, T.nNoItem_part, lk1, ?_⟩
    refine ⟨_, rfl, p, _, _, _, rfl, rfl, SqL.of (v0 _ _ hp), at_ref (i := 4) g4, a4, _, _, _, rfl, e4.same v0, T.xNoPage, T.nNoPage_part, (lk3 (by decide +kernel)), ?_⟩
    refine ⟨_, rfl, p, _, _, _, rfl, rfl, SqL.of (v0 _ _ hp), at_ref (i := 4) g4, a4, _, _, _, rfl, e4.same v0, T.xNoPage, T.nNoPage_index, lk2, ?_⟩
    refine ⟨(by show 4 ≤ sizeLine; decide), fun d1 nd1 => ?_⟩
    have v1 := v0.trans (same_upd (o := .lst [.int 7, x, x, .int 7]) nd1)
    have hm1 := same_upd (o := .lst [.int 7, x, x, .int 7]) nd1 _ _ hl0
    refine ⟨d0, d1, _, _, rfl, rfl, SqL.of hm1, SqL.of upd_same, (by show 8 ≤ sizeLine; decide), fun p1 np1 => ?_⟩
    have u1 := v1.trans (same_upd (o := .lst [x, x, .int 7, x, .int 7, x, x, .int 7]) np1)
    have hl1 := upd_same (H := (upd (upd H d0 (.lst [x, x, .int 7, x])) d1 (.lst [.int 7, x, x, .int 7]))) (a := p1) (o := .lst [x, x, .int 7, x, .int 7, x, x, .int 7])
    refine ⟨_, rfl, ?_⟩
    refine ⟨_, rfl, p, _, _, _, rfl, rfl, SqL.of (u1 _ _ hp), at_ref (i := 5) g5, a5, _, _, _, rfl, e5.same u1, T.xManyLanes, T.nManyLanes_axis, lk1, ?_⟩
    refine ⟨_, rfl, p, _, _, _, rfl, rfl, SqL.of (u1 _ _ hp), at_ref (i := 6) g6, a6, _, _, _, rfl, e6.same u1, T.xNoPath, T.nNoPath_path, lk1, ?_⟩
    refine ⟨_, rfl, p, _, _, _, rfl, rfl, SqL.of (u1 _ _ hp), at_ref (i := 7) g7, a7, _, _, _, rfl, e7.same u1, T.xNoRange, T.nNoRange_part, lk1, ?_⟩
    refine ⟨_, rfl, p, _, _, _, rfl, rfl, SqL.of (u1 _ _ hp), at_ref (i := 8) g8, a8, _, _, _, rfl, e8.same u1, T.xTooMany, T.nTooMany_most, lk1, ?_⟩
    refine ⟨(by show 4 ≤ sizeLine; decide), fun d2 nd2 => ?_⟩
    have v2 := u1.trans (same_upd (o := .lst [x, x, x, x]) nd2)
    have hm2 := same_upd (o := .lst [x, x, x, x]) nd2 _ _ hl1
    refine ⟨p1, d2, _, _, rfl, rfl, SqL.of hm2, SqL.of upd_same, (by show 12 ≤ sizeLine; decide), fun p2 np2 => ?_⟩
    have u2 := v2.trans (same_upd (o := .lst [x, x, .int 7, x, .int 7, x, x, .int 7, x, x, x, x]) np2)
    have hl2 := upd_same (H := (upd (upd (upd (upd H d0 (.lst [x, x, .int 7, x])) d1 (.lst [.int 7, x, x, .int 7])) p1 (.lst [x, x, .int 7, x, .int 7, x, x, .int 7])) d2 (.lst [x, x, x, x]))) (a := p2) (o := .lst [x, x, .int 7, x, .int 7, x, x, .int 7, x, x, x, x])
    refine ⟨_, rfl, ?_⟩
    refine ⟨_, rfl, p, _, _, _, rfl, rfl, SqL.of (u2 _ _ hp), at_ref (i := 9) g9, a9, _, _, _, rfl, e9.same u2, T.xNoWish, T.nNoWish_wish, lk1, ?_⟩
    refine ⟨_, rfl, p, _, _, _, rfl, rfl, SqL.of (u2 _ _ hp), at_ref (i := 10) g10, a10, _, _, _, rfl, e10.same u2, T.xOtherBoxes, T.nOtherBoxes_one, (lk3 (by decide +kernel)), ?_⟩
    refine ⟨_, rfl, p, _, _, _, rfl, rfl, SqL.of (u2 _ _ hp), at_ref (i := 10) g10, a10, _, _, _, rfl, e10.same u2, T.xOtherBoxes, T.nOtherBoxes_other, lk2, ?_⟩
    refine ⟨_, rfl, p, _, _, _, rfl, rfl, SqL.of (u2 _ _ hp), at_ref (i := 11) g11, a11, _, _, _, rfl, e11.same u2, T.xNoArea, T.nNoArea_index, lk1, ?_⟩
    refine ⟨(by show 4 ≤ sizeLine; decide), fun d3 nd3 => ?_⟩
    have v3 := u2.trans (same_upd (o := .lst [x, x, .int 7, x]) nd3)
    have hm3 := same_upd (o := .lst [x, x, .int 7, x]) nd3 _ _ hl2
    refine ⟨p2, d3, _, _, rfl, rfl, SqL.of hm3, SqL.of upd_same, (by show 16 ≤ sizeLine; decide), fun p3 np3 => ?_⟩
    have u3 := v3.trans (same_upd (o := .lst [x, x, .int 7, x, .int 7, x, x, .int 7, x, x, x, x, x, x, .int 7, x]) np3)
    have hl3 := upd_same (H := (upd (upd (upd (upd (upd (upd H d0 (.lst [x, x, .int 7, x])) d1 (.lst [.int 7, x, x, .int 7])) p1 (.lst [x, x, .int 7, x, .int 7, x, x, .int 7])) d2 (.lst [x, x, x, x])) p2 (.lst [x, x, .int 7, x, .int 7, x, x, .int 7, x, x, x, x])) d3 (.lst [x, x, .int 7, x]))) (a := p3) (o := .lst [x, x, .int 7, x, .int 7, x, x, .int 7, x, x, x, x, x, x, .int 7, x])
    refine ⟨_, rfl, ?_⟩
    refine ⟨_, rfl, p, _, _, _, rfl, rfl, SqL.of (u3 _ _ hp), at_ref (i := 12) g12, a12, _, _, _, rfl, e12.same u3, T.xNoSizes, T.nNoSizes_index, lk1, ?_⟩
    refine ⟨_, rfl, p, _, _, _, rfl, rfl, SqL.of (u3 _ _ hp), at_ref (i := 13) g13, a13, _, _, _, rfl, e13.same u3, T.xNoCrossings, T.nNoCrossings_index, lk1, ?_⟩
    refine ⟨_, rfl, p, _, _, _, rfl, rfl, SqL.of (u3 _ _ hp), at_ref (i := 14) g14, a14, _, _, _, rfl, e14.same u3, T.xNoOrder, T.nNoOrder_index, lk1, ?_⟩
    refine ⟨_, rfl, p, _, _, _, rfl, rfl, SqL.of (u3 _ _ hp), at_ref (i := 15) g15, a15, _, _, _, rfl, e15.same u3, T.xNoText, T.nNoText_line, lk1, ?_⟩
    refine ⟨(by show 4 ≤ sizeLine; decide), fun d4 nd4 => ?_⟩
    have v4 := u3.trans (same_upd (o := .lst [x, x, x, x]) nd4)
    have hm4 := same_upd (o := .lst [x, x, x, x]) nd4 _ _ hl3
    refine ⟨p3, d4, _, _, rfl, rfl, SqL.of hm4, SqL.of upd_same, (by show 20 ≤ sizeLine; decide), fun p4 np4 => ?_⟩
    have u4 := v4.trans (same_upd (o := .lst [x, x, .int 7, x, .int 7, x, x, .int 7, x, x, x, x, x, x, .int 7, x, x, x, x, x]) np4)
    have hl4 := upd_same (H := (upd (upd (upd (upd (upd (upd (upd (upd H d0 (.lst [x, x, .int 7, x])) d1 (.lst [.int 7, x, x, .int 7])) p1 (.lst [x, x, .int 7, x, .int 7, x, x, .int 7])) d2 (.lst [x, x, x, x])) p2 (.lst [x, x, .int 7, x, .int 7, x, x, .int 7, x, x, x, x])) d3 (.lst [x, x, .int 7, x])) p3 (.lst [x, x, .int 7, x, .int 7, x, x, .int 7, x, x, x, x, x, x, .int 7, x])) d4 (.lst [x, x, x, x]))) (a := p4) (o := .lst [x, x, .int 7, x, .int 7, x, x, .int 7, x, x, x, x, x, x, .int 7, x, x, x, x, x])
    refine ⟨_, rfl, ?_⟩
    exact k _ _ u4 hl4
end
end K4

set_option Elab.async false
set_option linter.all false
set_option maxRecDepth 100000
set_option maxHeartbeats 4000000
namespace K4
open PySem PySem.Spec PyProof.Rows L2
/-! ### data -/
def Dk (d : PyData) : Prop := (∃ i, d = .int i) ∨ d = .none ∨ d = .str "v" ∨ d = .tuple [.int 0, .int 1]
def XDat (H : Hp) (x : V) : Prop := (∃ i, x = .int i) ∨ x = .non ∨ x = .str "v" ∨ ∃ t, x = .ref t ∧ H t = some (.tup [.int 0, .int 1])
theorem XDat.same {H H' : Hp} {x : V} (h : XDat H x) (s : Same H H') : XDat H' x := by
  rcases h with ⟨i, rfl⟩ | rfl | rfl | ⟨t, rfl, e⟩
  · exact .inl ⟨i, rfl⟩
  · exact .inr (.inl rfl)
  · exact .inr (.inr (.inl rfl))
  · exact .inr (.inr (.inr ⟨t, rfl, s _ _ e⟩))
theorem XDat.dat {K : PySem.W.Frag} {H : Hp} {x : V} (h : XDat H x) : ∃ d, Dk d ∧ ∀ H', Same H H' → Dp K H' x d := by
  rcases h with ⟨i, rfl⟩ | rfl | rfl | ⟨t, rfl, e⟩
  · exact ⟨.int i, .inl ⟨i, rfl⟩, fun _ _ => .int i⟩
  · exact ⟨.none, .inr (.inl rfl), fun _ _ => .non⟩
  · exact ⟨.str "v", .inr (.inr (.inl rfl)), fun _ _ => .str _⟩
  · exact ⟨.tuple [.int 0, .int 1], .inr (.inr (.inr rfl)), fun _ s => .tup (SqT.of (s _ _ e)) (.cons (.int 0) (.cons (.int 1) .nil))⟩
def dueD (d : PyData) : PyData := .list [d, d, .int 7, d, .int 7, d, d, .int 7, d, d, d, d, d, d, .int 7, d, d, d, d, d]
theorem dueD_ok {d : PyData} (h : Dk d) : SeqAt.shaped (dueD d) = true ∧ PyData.eqv (dueD d) (dueD d) = true := by
  have s : SeqAt.shaped (dueD d) = true := by
    rcases h with ⟨i, rfl⟩ | rfl | rfl | rfl
    · rfl
    · rfl
    · decide +kernel
    · rfl
  exact ⟨s, PySem.SeqAt.eqv_refl _ (SeqAt.canLay_of_shaped s)⟩
theorem due_dp {K : PySem.W.Frag} {H : Hp} {x : V} {d : PyData} {q : Addr} (hx : Dp K H x d) (hq : H q = some (.lst (dueV x))) : Dp K H (.ref q) (dueD d) :=
  .lst (SqL.of hq) (.cons hx (.cons hx (.cons (.int 7) (.cons hx (.cons (.int 7) (.cons hx (.cons hx (.cons (.int 7) (.cons hx (.cons hx (.cons hx (.cons hx (.cons hx (.cons hx (.cons (.int 7) (.cons hx (.cons hx (.cons hx (.cons hx (.cons hx .nil))))))))))))))))))))
def rowD (bf : Nat → Bool) : PyData := .list ((List.range 16).map fun i => .bool (bf i))
theorem row_dp {K : PySem.W.Frag} {H : Hp} {bf : Nat → Bool} {q : Addr} (hq : H q = some (.lst (row bf))) : Dp K H (.ref q) (rowD bf) := by
  refine .lst (SqL.of hq) ?_
  have key : ∀ l : List Nat, DpAll K H (l.map fun i => V.bl (bf i)) (l.map fun i => PyData.bool (bf i)) := by
    intro l
    induction l with
    | nil => exact .nil
    | cons i l ih => exact .cons (.bl _) ih
  exact key _
theorem rowD_ok {bf : Nat → Bool} : SeqAt.shaped (rowD bf) = true ∧ PyData.eqv (rowD bf) (rowD bf) = true := by
  have s : SeqAt.shaped (rowD bf) = true := rfl
  exact ⟨s, PySem.SeqAt.eqv_refl _ (SeqAt.canLay_of_shaped s)⟩
theorem Well.of_eq {H H' : Hp} {a : Addr} {n : Int} (h : Well H a n) (e : H' a = H a) : Well H' a n := by
  obtain ⟨w0, w1, w2, hw, r⟩ := h
  exact ⟨w0, w1, w2, e.trans hw, r⟩
/-- all that was tracked but at a is as it was -/
def SX (a : Addr) (H H' : Hp) : Prop := ∀ b o, b ≠ a → H b = some o → H' b = some o
/-! ### the law's facts -/
structure TxtR (P : Program) (w : World) (K : PySem.W.Frag) (mg : Str → Option Value) (base : Heap) : Prop where
  e : TxtE P w K mg base
  c : TxtC K mg
  f : TxtF K
  x16 : ∀ (i : Nat) (c : Str × (V → List (Str × V))), CS[i]? = some c → ExcC K (ga K c.1) ∧ kitRow K (ga K c.1) (fun k => decide (k = i)) ∧ PySem.W.kitOne K (.ref (ga K c.1)) (.ref (ga K "LaneError")) = some true ∧ PySem.W.kitOne K (.ref (ga K c.1)) (.type "ValueError") = some true
  x0 : ∀ c : Str, c = "NoAxis" ∨ c = "NoStates" → ExcC K (ga K c) ∧ kitRow K (ga K c) (fun _ => false) ∧ PySem.W.kitOne K (.ref (ga K c)) (.ref (ga K "LaneError")) = some true
  xv : PySem.W.kitOne K (.type "ValueError") (.ref (ga K "LaneError")) = some false
  gLE : mg "LaneError" = some (.ref (ga K "LaneError"))
  gA : mg "NoAxis" = some (.ref (ga K "NoAxis"))
  gS : mg "NoStates" = some (.ref (ga K "NoStates"))
  mA : PySem.W.excIn K (ga K "NoAxis") PySem.HandSPX.veTail "ValueError.__new__" = true
  mS : PySem.W.excIn K (ga K "NoStates") PySem.HandSPX.veTail "ValueError.__new__" = true
  kA : PySem.W.keepIn K (.ref (ga K "NoAxis")) = true
  kS : PySem.W.keepIn K (.ref (ga K "NoStates")) = true
  ve : mg "ValueError" = none
  int : mg "int" = none
  len : mg "len" = none
  range : mg "range" = none
  enum : mg "enumerate" = none
def spRight : Sp := fun vs H Q _ => ∃ a, vs = [.ref a] ∧ Well H a 0 ∧ ∀ H', SX a H H' → Q (.bl true) H'
section
variable {P : Program} {w : World} {K : PySem.W.Frag} {mg : Str → Option Value} {base : Heap}
theorem scRight : FnScope ["well", "x", "due", "some", "spot", "e", "k"] ["well"] (defScope sRight) := ⟨rfl, rfl, rfl, by decide +kernel, rfl, by decide +kernel, by decide +kernel⟩
theorem dec_at {i j : Nat} : decide (V.int (0 + (i : Int)) = V.int (j : Int)) = decide (i = j) := by
  by_cases h : i = j
  · subst h
    rw [decide_eq_true rfl, decide_eq_true (by rw [Int.zero_add])]
  · rw [decide_eq_false h, decide_eq_false]
    intro z
    have z2 : (0 + (i : Int)) = (j : Int) := V.int.inj z
    omega
theorem ok_right {f fD fO fT fP fN fF : Addr} {fd dD dO dT dP dN dF : FuncData} (F : FnP K "_law_right" sRight f fd) (FD : FnP K "_law_draw" sDraw fD dD) (FO : FnP K "_law_one" sOne fO dO) (FT : FnP K "_law_taken" sTaken fT dT) (FP : FnP K "_law_by_place" sPlace fP dP)
    (FN : FnP K "_law_by_name" sName fN dN) (FF : FnP K "_law_fields" sFields fF dF) (gD : mg "_law_draw" = some (.ref fD)) (gO : mg "_law_one" = some (.ref fO)) (gT : mg "_law_taken" = some (.ref fT)) (gP : mg "_law_by_place" = some (.ref fP)) (gN : mg "_law_by_name" = some (.ref fN)) (gF : mg "_law_fields" = some (.ref fF))
    (T : TxtR P w K mg base) : FnOk P w K mg base CX0 4 f fd ["well"] spRight := by
  have GD : FnOk P w K mg base CX0 1 fD dD ["well", "many"] spDraw := ok_draw FD T.int
  have bD : Binds K dD ["well", "many"] [] := FD.bindsN fun _ _ _ _ _ _ us hl => match us, hl with | [_, _], _ => rfl
  have GO : FnOk P w K mg base CX0 2 fO dO ["well", "some"] (spOne K) := ok_one FO FD T.int T.len gD
  have bO : Binds K dO ["well", "some"] [] := FO.bindsN fun _ _ _ _ _ _ us hl => match us, hl with | [_, _], _ => rfl
  have GT : FnOk P w K mg base CX0 1 fT dT ["e"] (spTaken K) := ok_taken FT T.c
  have bT : Binds K dT ["e"] [] := FT.bindsN fun _ _ _ _ _ _ us hl => match us, hl with | [_], _ => rfl
  have GP : FnOk P w K mg base CX0 3 fP dP ["x"] (spMk K) := okPlace FP T.e
  have bP : Binds K dP ["x"] [] := FP.bindsN fun _ _ _ _ _ _ us hl => match us, hl with | [_], _ => rfl
  have GN : FnOk P w K mg base CX0 3 fN dN ["x"] (spMk K) := okName FN T.e
  have bN : Binds K dN ["x"] [] := FN.bindsN fun _ _ _ _ _ _ us hl => match us, hl with | [_], _ => rfl
  have GF : FnOk P w K mg base CX0 1 fF dF ["some"] (spFields K) := ok_fields FF T.f
  have bF : Binds K dF ["some"] [] := FF.bindsN fun _ _ _ _ _ _ us hl => match us, hl with | [_], _ => rfl
  refine F.ok scRight (fun vs H Q E h => ?_) (fun cdv A outer s H vs Q E hr h => ?_)
  · obtain ⟨a, rfl, _⟩ := h
    rfl
  · obtain ⟨a, rfl, hw, k⟩ := h
    have hr1 : Room 1 _ := hr.mono (by decide)
    have hr2 : Room 2 _ := hr.mono (by decide)
    refine ⟨_, PSs.nox (pss_cons (ps_set (i := 1) scRight.nd rfl (Or.inl rfl) (pe_call GO hr2 rfl gO FO.kp bO .nil pass0 (pa_cons (pv 0) (pa_cons (pe_lst (pa_cons (pe_call GD hr1 rfl gD FD.kp bD .nil pass0 (pa_cons (pv 0) (pa_cons pe_int pa_nil))) (pa_cons (pe_un un_neg pe_int) (pa_cons pe_non (pa_cons pe_str (pa_cons (pe_tup (pa_cons pe_int (pa_cons pe_int pa_nil))) pa_nil)))))) pa_nil))))
      (pss_cons (ps_set (i := 2) scRight.nd rfl (Or.inl rfl) (pe_lst (pa_cons (pv 1) (pa_cons (pv 1) (pa_cons pe_int (pa_cons (pv 1) (pa_cons pe_int (pa_cons (pv 1) (pa_cons (pv 1) (pa_cons pe_int (pa_cons (pv 1) (pa_cons (pv 1) (pa_cons (pv 1) (pa_cons (pv 1) (pa_cons (pv 1) (pa_cons (pv 1) (pa_cons pe_int (pa_cons (pv 1) (pa_cons (pv 1) (pa_cons (pv 1) (pa_cons (pv 1) (pa_cons (pv 1) pa_nil))))))))))))))))))))))
      (pss_cons (ps_for PassesOwn.never rfl (pi_list (pe_lst (pa_cons (pe_call GP hr rfl gP FP.kp bP .nil pass0 (pa_cons (pv 1) pa_nil)) (pa_cons (pe_call GN hr rfl gN FN.kp bN .nil pass0 (pa_cons (pv 1) pa_nil)) pa_nil)))) (pg_name (i := 3) scRight.nd rfl (Or.inl rfl))
        (pss_cons (ps_if (pt_cmpR (op_neD hr.units) (pe_call GF hr1 rfl gF FF.kp bF .nil pass0 (pa_cons (pv 3) pa_nil)) (pv 2) (nomark _)) (pss_one (ps_ret pe_bl)) pss_nil)
        (pss_one (ps_for PassesOwn.never rfl (pi_enum (by rfl) T.enum (pa_cons (pv 3) pa_nil)) (pg_tup rfl (pgs_cons (pg_name (i := 4) scRight.nd rfl (Or.inr rfl)) (pgs_cons (pg_name (i := 5) scRight.nd rfl (Or.inl rfl)) pgs_nil)))
          (pss_cons (ps_if (pt_cmpR (op_neD hr.units) (pe_call GT hr1 rfl gT FT.kp bT .nil pass0 (pa_cons (pv 5) pa_nil))
              (pe_lc (own := [("k", 6)]) (g := gName 6) (tt := tYes) rfl scRight.nd (pi_range1 (by rfl) T.range (pa_cons (pe_callB call_len_seq (by rfl) T.len PySem.boot_len (pa_cons (pv 3) pa_nil)) pa_nil)) (blkOk_by (own := [("k", 6)]) (N := ["well", "x", "due", "some", "spot", "e", "k"]) (sc := defScope sRight) (by decide +kernel))
                (fun _ _ _ _ _ => pg_name (i := 6) scRight.nd rfl (Or.inl rfl)) (fun _ _ _ _ _ => pts_nil) (fun _ _ _ _ _ => pe_cmpR op_eq (pv 6) (pv 4) (nomark _))) (nomark _)) (pss_one (ps_ret pe_bl)) pss_nil)
          (pss_one (ps_if (PW.pt (pw_or (pt_not (pt_val (pe_callB call_isV (by rfl) T.c.isi (by decide +kernel) (pa_cons (pv 5) (pa_cons (pe_glob (by rfl) T.gLE (v := .ref (ga K "LaneError")) rfl) pa_nil)))))
            (pw_or1 (pt_not (pt_val (pe_callB call_isV (by rfl) T.c.isi (by decide +kernel) (pa_cons (pv 5) (pa_cons (pe_bltn (v := .ty "ValueError") (by rfl) T.ve boot_ValueError rfl) pa_nil)))))))) (pss_one (ps_ret pe_bl)) pss_nil)))))))
      (pss_cons (ps_for PassesOwn.never rfl (pi_list (pe_lst (pa_cons (pe_mkE0 PySem.F.excBase_ValueError T.mA T.kA (by rfl) T.gA) (pa_cons (pe_mkE0 PySem.F.excBase_ValueError T.mS T.kS (by rfl) T.gS) pa_nil)))) (pg_name (i := 5) scRight.nd rfl (Or.inl rfl))
        (pss_one (ps_if (PW.pt (pw_or (pt_cmpR op_in_seq pe_bl (pe_call GT hr1 rfl gT FT.kp bT .nil pass0 (pa_cons (pv 5) pa_nil)) (by rfl))
            (pw_or1 (pt_not (pt_val (pe_callB call_isV (by rfl) T.c.isi (by decide +kernel) (pa_cons (pv 5) (pa_cons (pe_glob (by rfl) T.gLE (v := .ref (ga K "LaneError")) rfl) pa_nil)))))))) (pss_one (ps_ret pe_bl)) pss_nil)))
      (pss_one (ps_ret (pe_not (pe_callB call_isB (by rfl) T.c.isi (by decide +kernel) (pa_cons (pe_exbV exb_ValueError (by rfl) T.ve boot_ValueError (pa_cons pe_str pa_nil)) (pa_cons (pe_glob (by rfl) T.gLE (v := .ref (ga K "LaneError")) rfl) pa_nil)))))))))), ?_⟩
    -- x
    refine ⟨_, rfl, _, rfl, a, 1000, 0, rfl, hw, by decide, by decide, by decide, fun r H1 r0 r1 b1 w1 => ?_⟩
    refine ⟨1, rfl, (by show 2 ≤ sizeLine; decide), fun t nt => ⟨(by show 5 ≤ sizeLine; decide), fun l nl => ?_⟩⟩
    have at1 : H1 a ≠ none := by
      obtain ⟨w0, w1', w2, hw1, _⟩ := w1
      rw [hw1]
      exact fun z => nomatch z
    have nat : a ≠ t := fun z => at1 (by rw [z]; exact nt)
    have nlt : l ≠ t := fun z => by
      rw [z, upd_same] at nl
      cases nl
    have nal : a ≠ l := fun z => by
      rw [← z, upd_ne nat] at nl
      exact at1 nl
    have nl1 : H1 l = none := by
      rw [upd_ne nlt] at nl
      exact nl
    refine ⟨a, l, 0 + 1, _, rfl, Well.of_eq w1 (by rw [upd_ne nal, upd_ne nat]), by decide, nal, upd_same, by show 0 < 5; decide, by show 5 < 1000000; decide, fun x H2 hx b2 w2 => ?_⟩
    have x2 : SX a H H2 := fun b o hb e => by
      rw [b2 b hb]
      have e1 : H1 b = some o := (b1 b hb).trans e
      rw [upd_ne (ne_of_none e1 nl1), upd_ne (ne_of_none e1 nt)]
      exact e1
    have ht2 : H2 t = some (.tup [.int 0, .int 1]) := by
      rw [b2 t (Ne.symm nat), upd_ne (Ne.symm nlt), upd_same]
    have xd : XDat H2 x := by
      simp only [List.mem_cons, List.not_mem_nil, or_false] at hx
      rcases hx with rfl | rfl | rfl | rfl | rfl
      · exact .inl ⟨_, rfl⟩
      · exact .inl ⟨_, rfl⟩
      · exact .inr (.inl rfl)
      · exact .inr (.inr (.inl rfl))
      · exact .inr (.inr (.inr ⟨_, rfl, ht2⟩))
    -- due
    refine ⟨_, rfl, _, rfl, _, rfl, _, rfl, _, rfl, _, rfl, _, rfl, _, rfl, _, rfl, _, rfl, _, rfl, _, rfl, _, rfl, _, rfl, _, rfl, _, rfl, (by show 20 ≤ sizeLine; decide), fun q nq => ?_⟩
    have s3 := same_upd (o := .lst (dueV x)) nq
    have hq3 : upd H2 q (.lst (dueV x)) q = some (.lst (dueV x)) := upd_same
    have e3 : ∀ b, upd H2 q (.lst (dueV x)) b = upd H2 q (.lst [x, x, .int 7, x, .int 7, x, x, .int 7, x, x, x, x, x, x, .int 7, x, x, x, x, x]) b := fun _ => rfl
    obtain ⟨dd, hdk, hdp⟩ := (xd.same s3).dat (K := K)
    obtain ⟨dsh, deq⟩ := dueD_ok hdk
    -- the two lists
    refine ⟨_, rfl, x, rfl, fun H4 p4 s4 x4 => ⟨_, rfl, x, rfl, fun H5 p5 s5 x5 => ⟨(by show 2 ≤ sizeLine; decide), fun z nz => ?_⟩⟩⟩
    have s6 := same_upd (o := .lst [.ref p4, .ref p5]) nz
    have x46 := (x4.same s5).same s6
    have x56 := x5.same s6
    have s36 := (s4.trans s5).trans s6
    have hz6 : upd H5 z (.lst [.ref p4, .ref p5]) z = some (.lst [.ref p4, .ref p5]) := upd_same
    refine ⟨z, rfl, ⟨_, SqL.of upd_same⟩, for_list (K := K) (a := z) (xs := [.ref p4, .ref p5]) (fun i σ H' => Same (upd H5 z (.lst [.ref p4, .ref p5])) H' ∧ ∃ v3 v4 v5 v6, σ = [some (.ref a), some x, some (.ref q), v3, v4, v5, v6])
      ⟨Same.refl _, _, _, _, _, rfl⟩ (fun i σ H' _ h => SqL.of (h.1 _ _ hz6)) ?_ ?_⟩
    · rintro i y σ H6 hi ⟨s6', v3, v4, v5, v6, rfl⟩
      obtain ⟨p, rfl, hp⟩ : ∃ p, y = .ref p ∧ Exs K H6 p x := by
        match i, hi with
        | 0, hi => cases hi; exact ⟨_, rfl, x46.same s6'⟩
        | 1, hi => cases hi; exact ⟨_, rfl, x56.same s6'⟩
        | n + 2, hi => cases hi
      have hq6 := s6' _ _ (s36 _ _ hq3)
      refine ⟨_, rfl, p, x, rfl, hp, fun H7 f7 s7 hf7 => ⟨_, rfl, dueD dd, dueD dd, due_dp (hdp _ ((s36.trans s6').trans s7)) hf7, due_dp (hdp _ ((s36.trans s6').trans s7)) (s7 _ _ hq6), dsh, dsh, _, rfl, ?_⟩⟩
      rw [deq]
      refine iteF ?_
      obtain ⟨as, las, hpa, hex⟩ := hp.same s7
      refine ⟨_, rfl, p, _, rfl, SqL.of hpa, for_enum (K := K) (a := p) (xs := as.map V.ref) (fun i σ H' => Same H7 H' ∧ ∃ v4 v5 v6, σ = [some (.ref a), some x, some (.ref q), some (.ref p), v4, v5, v6])
        ⟨Same.refl _, _, _, _, rfl⟩ (fun i σ H' _ h => SqL.of (h.1 _ _ hpa)) ?_ ?_⟩
      · rintro j y T1 σ H8 hj ⟨s8, v4, v5, v6, rfl⟩ nT
        rw [List.getElem?_map] at hj
        have hj16 : j < 16 := by
          cases e : as[j]? with
          | none => rw [e] at hj; cases hj
          | some b => exact las ▸ (List.getElem?_eq_some_iff.mp e).1
        obtain ⟨c, hc⟩ : ∃ c, CS[j]? = some c := ⟨CS[j]'hj16, List.getElem?_eq_getElem hj16⟩
        obtain ⟨b, hb, d, hb1, hb2⟩ := hex j c hc
        rw [hb] at hj
        cases hj
        obtain ⟨cx, crow, cLE, cVE⟩ := T.x16 j c hc
        have s9 := same_upd (o := .tup [.int (j : Nat), .ref b]) nT
        have u9 := s8.trans s9
        refine ⟨T1, _, rfl, SqT.of upd_same, rfl, _, _, rfl, _, _, rfl, rfl, ?_⟩
        -- _law_taken(e) != [..]
        refine ⟨_, rfl, b, _, some d, fun k => decide (k = j), rfl, u9 _ _ hb1, fun dx e => ⟨_, by cases e; exact u9 _ _ hb2⟩, cx, crow, fun H10 r10 s10 hr10 => ?_⟩
        have u10 := u9.trans s10
        refine ⟨_, rfl, p, _, rfl, .inl (SqL.of (u10 _ _ hpa)), 16, by rw [List.length_map, las]; rfl, by decide, by decide, fun D nD => ?_⟩
        refine lc_range (lo := 0) (n := 16) (fun i H' => Same H10 H' ∧ H' D = some (.lst ((List.range i).map fun k => V.bl (decide (k = j))))) ⟨same_upd nD, upd_same⟩ ?_ ?_
        · rintro i H11 hi ⟨s11, hD⟩
          refine ⟨rfl, ?_⟩
          refine iteT (B := Same H10 H11 ∧ H11 D = some (HO.lst ((List.range (i + 1)).map fun k => V.bl (decide (k = j))))) ?_
          refine ⟨_, rfl, _, rfl, rfl, _, hD, ?_, ?_, ?_⟩
          · rw [List.length_map, List.length_range]
            exact Nat.lt_trans hi (by decide)
          · intro b o e
            rw [upd_ne (ne_of_none e nD)]
            exact s11 b o e
          · rw [upd_same, List.range_succ, List.map_append, dec_at]
            rfl
        · rintro H11 ⟨s11, hD⟩
          have u11 := u10.trans s11
          refine ⟨_, _, row_dp (s11 _ _ hr10), row_dp (bf := fun k => decide (k = j)) hD, rowD_ok.1, rowD_ok.1, _, rfl, ?_⟩
          rw [rowD_ok.2]
          refine iteF ?_
          -- isinstance
          refine ⟨_, rfl, b, _, some d, _, _, true, rfl, u11 _ _ hb1, fun dx e => ⟨_, by cases e; exact u11 _ _ hb2⟩, cx, .own _, cLE, true, rfl, iteF ?_⟩
          refine ⟨_, rfl, b, _, some d, _, _, true, rfl, u11 _ _ hb1, fun dx e => ⟨_, by cases e; exact u11 _ _ hb2⟩, cx, .ty "ValueError", cVE, true, rfl, iteF ?_⟩
          exact ⟨u11, _, _, _, rfl⟩
      · rintro σ H8 ⟨s8, v4, v5, v6, rfl⟩
        exact ⟨(s6'.trans s7).trans s8, _, _, _, _, rfl⟩
    · rintro σ H6 ⟨s6', v3, v4, v5, v6, rfl⟩
      -- the two without fields
      refine fun a1 n1 a2 n2 => ⟨(by show 2 ≤ sizeLine; decide), fun z2 nz2 => ?_⟩
      have t1 := same_upd (o := exo a1 (ga K "NoAxis") none) n1
      have t2 := same_upd (o := exo a2 (ga K "NoStates") none) n2
      have t3 := same_upd (o := .lst [.ref a1, .ref a2]) nz2
      have hz7 : upd (upd (upd H6 a1 (exo a1 (ga K "NoAxis") none)) a2 (exo a2 (ga K "NoStates") none)) z2 (.lst [.ref a1, .ref a2]) z2 = some (.lst [.ref a1, .ref a2]) := upd_same
      have h1 := t3 _ _ (t2 _ _ (upd_same (H := H6) (a := a1) (o := exo a1 (ga K "NoAxis") none)))
      have h2 := t3 _ _ (upd_same (H := upd H6 a1 (exo a1 (ga K "NoAxis") none)) (a := a2) (o := exo a2 (ga K "NoStates") none))
      refine ⟨z2, rfl, ⟨_, SqL.of upd_same⟩, for_list (K := K) (a := z2) (xs := [.ref a1, .ref a2]) (fun i σ H' => Same (upd (upd (upd H6 a1 (exo a1 (ga K "NoAxis") none)) a2 (exo a2 (ga K "NoStates") none)) z2 (.lst [.ref a1, .ref a2])) H' ∧ ∃ v3 v4 v5 v6, σ = [some (.ref a), some x, some (.ref q), v3, v4, v5, v6])
        ⟨Same.refl _, _, _, _, _, rfl⟩ (fun i σ H' _ h => SqL.of (h.1 _ _ hz7)) ?_ ?_⟩
      · rintro i y σ H7 hi ⟨s7, w3, w4, w5, w6, rfl⟩
        obtain ⟨b, c, rfl, hb, hc⟩ : ∃ b c, y = .ref b ∧ H7 b = some (exo b (ga K c) none) ∧ (c = "NoAxis" ∨ c = "NoStates") := by
          match i, hi with
          | 0, hi => cases hi; exact ⟨_, _, rfl, s7 _ _ h1, .inl rfl⟩
          | 1, hi => cases hi; exact ⟨_, _, rfl, s7 _ _ h2, .inr rfl⟩
          | n + 2, hi => cases hi
        obtain ⟨cx, crow, cLE⟩ := T.x0 c hc
        refine ⟨_, rfl, b, _, none, fun _ => false, rfl, hb, (fun dx e => nomatch e), cx, crow, fun H8 r8 s8 hr8 => ?_⟩
        refine ⟨r8, _, rfl, .inl (SqL.of hr8), rfl, rfl, _, rfl, ?_⟩
        refine iteF ?_
        refine ⟨_, rfl, b, _, none, _, _, true, rfl, s8 _ _ hb, (fun dx e => nomatch e), cx, .own _, cLE, true, rfl, iteF ?_⟩
        exact ⟨s7.trans s8, _, _, _, _, rfl⟩
      · rintro σ H7 ⟨s7, w3, w4, w5, w6, rfl⟩
        refine ⟨(by show 1 ≤ sizeLine; decide), fun b nb => ?_⟩
        refine ⟨b, _, _, false, rfl, upd_same, .own _, T.xv, _, rfl, k _ fun b' o hb' e => ?_⟩
        have z1 := s7 _ _ (t3 _ _ (t2 _ _ (t1 _ _ (s6' _ _ (s36 _ _ (s3 _ _ (x2 b' o hb' e)))))))
        rw [upd_ne (ne_of_none z1 nb)]
        exact z1
end
end K4

set_option Elab.async false
set_option linter.all false
set_option maxRecDepth 100000
set_option maxHeartbeats 4000000
namespace K4
open PySem PySem.Spec PyProof.Rows L2
/-! ### the law -/
def spLaw (K : PySem.W.Frag) : Sp := fun vs H Q _ => ∃ (a : Addr) (ns : List Int), vs = [.ref a] ∧ SqL K H a (ns.map V.int) ∧ ns.length ≤ 63 ∧ ∀ H', Q (.bl true) H'
theorem cut4 {ns : List Int} {i : Nat} {y : V} (h : (cutV (ns.map V.int ++ [.int 0]) none (some 4))[i]? = some y) : i < 4 ∧ ∃ z, y = .int z := by
  unfold cutV at h
  rw [HT.sIx_none, show HT.sIx (ns.map V.int ++ [V.int 0]).length (ns.map V.int ++ [V.int 0]).length (some 4) = min 4 (ns.map V.int ++ [V.int 0]).length from HT.sIx_nat _ _ 4] at h
  have hi := (List.getElem?_eq_some_iff.mp h).1
  rw [List.length_take] at hi
  refine ⟨by omega, ?_⟩
  have hm := List.mem_of_getElem? h
  have hm2 := List.mem_of_mem_drop (List.mem_of_mem_take hm)
  rcases List.mem_append.mp hm2 with q | q
  · obtain ⟨z, _, rfl⟩ := List.mem_map.mp q
    exact ⟨z, rfl⟩
  · rw [List.mem_singleton] at q
    exact ⟨0, q⟩
section
variable {P : Program} {w : World} {K : PySem.W.Frag} {mg : Str → Option Value} {base : Heap}
theorem scLaw : FnScope ["script", "k", "cell", "well"] ["script"] (defScope sLaw) := ⟨rfl, rfl, rfl, by decide +kernel, rfl, by decide +kernel, by decide +kernel⟩
theorem ok_law {f fR : Addr} {fd dR : FuncData} (F : FnP K "law" sLaw f fd) (FR : FnP K "_law_right" sRight fR dR) (GR : FnOk P w K mg base CX0 4 fR dR ["well"] spRight) (gR : mg "_law_right" = some (.ref fR)) (hi : mg "int" = none) (he : mg "enumerate" = none) : FnOk P w K mg base CX0 5 f fd ["script"] (spLaw K) := by
  have bR : Binds K dR ["well"] [] := FR.bindsN fun _ _ _ _ _ _ us hl => match us, hl with | [_], _ => rfl
  refine F.ok scLaw (fun vs H Q E h => ?_) (fun cdv A outer s H vs Q E hr h => ?_)
  · obtain ⟨a, ns, rfl, _⟩ := h
    rfl
  · obtain ⟨a, ns, rfl, hS, hlen, k⟩ := h
    refine ⟨_, PSs.nox (pss_cons (ps_for PassesOwn.never rfl (pi_enum (by rfl) he (pa_cons (pe_slice sl_list (pe_op op_catS (pv 0) (pe_lst (pa_cons pe_int pa_nil))) po_none (po_some pe_int)) pa_nil))
        (pg_tup rfl (pgs_cons (pg_name (i := 1) scLaw.nd rfl (Or.inl rfl)) (pgs_cons (pg_name (i := 2) scLaw.nd rfl (Or.inl rfl)) pgs_nil)))
        (pss_cons (ps_set (i := 3) scLaw.nd rfl (Or.inl rfl) (pe_lst (pa_cons (pe_op op_mul (pv 2) (pe_callTy call_int1 (by rfl) hi (by decide +kernel) (pa_cons (pe_cmpR op_ge (pv 2) (pe_op op_pow pe_int pe_int) (nomark _)) pa_nil)))
            (pa_cons (pe_op op_add (pe_op op_modN (pe_callTy call_int1 (by rfl) hi (by decide +kernel) (pa_cons (pv 2) pa_nil)) pe_int) (pe_op op_mul pe_int (pv 1))) (pa_cons pe_int pa_nil)))))
        (pss_one (ps_if (pt_not (pt_val (pe_call GR hr rfl gR FR.kp bR .nil pass0 (pa_cons (pv 3) pa_nil)))) (pss_one (ps_ret pe_bl)) pss_nil))))
      (pss_one (ps_ret pe_bl))), ?_⟩
    refine ⟨_, rfl, (by show 1 ≤ sizeLine; decide), fun z nz => ?_⟩
    have s1 := same_upd (o := .lst [.int 0]) nz
    refine ⟨a, z, _, _, rfl, rfl, s1.seq hS, SqL.of upd_same, ?_, fun p np => ?_⟩
    · rw [List.length_map]
      exact Nat.le_trans (Nat.add_le_add_right hlen 1) (by decide)
    refine ⟨4, rfl, p, _, rfl, SqL.of upd_same, fun q nq => ?_⟩
    refine ⟨q, _, rfl, SqL.of upd_same, for_enum (K := K) (a := q) (xs := cutV (ns.map V.int ++ [.int 0]) none (some 4)) (fun i σ H' => H' q = some (.lst (cutV (ns.map V.int ++ [.int 0]) none (some 4))) ∧ ∃ v1 v2 v3, σ = [some (.ref a), v1, v2, v3])
      ⟨upd_same, _, _, _, rfl⟩ (fun i σ H' _ h => SqL.of h.1) ?_ ?_⟩
    · rintro i y T σ H1 hy ⟨hq, v1, v2, v3, rfl⟩ nT
      obtain ⟨i4, c, rfl⟩ := cut4 hy
      refine ⟨T, _, rfl, SqT.of upd_same, rfl, _, _, rfl, _, _, rfl, rfl, ?_⟩
      -- well
      have hb : ∀ b : Bool, -(2 ^ 64) < (if b = true then (1 : Int) else 0) ∧ (if b = true then (1 : Int) else 0) < 2 ^ 64 := by decide
      refine ⟨_, rfl, _, rfl, _, _, rfl, rfl, ⟨by decide, by decide, by decide⟩, _, _, rfl, rfl, .inr ⟨_, rfl, _, _, rfl, rfl, .inr (hb _), ?_⟩⟩
      refine ⟨_, rfl, .inl ⟨_, rfl, _, _, rfl, rfl, (by show (2147483647 : Int) ≠ 0; decide), ?_⟩⟩
      refine ⟨_, rfl, _, _, rfl, rfl, .inl ⟨by decide, by decide⟩, _, _, rfl, rfl, ?_⟩
      refine ⟨(by show 3 ≤ sizeLine; decide), fun p3 np3 => ?_⟩
      have hq2 : upd H1 T (.tup [.int (i : Nat), .int c]) q = some (.lst (cutV (ns.map V.int ++ [.int 0]) none (some 4))) := same_upd nT _ _ hq
      obtain ⟨m0, m1⟩ := fmod_in (x := c) (m := 2147483647) (by decide)
      refine ⟨_, rfl, p3, rfl, ⟨_, _, _, upd_same, ?_, by omega, by omega, by omega, by omega⟩, fun H' sx => ⟨true, rfl, iteF ⟨?_, _, _, _, rfl⟩⟩⟩
      · by_cases hc : (10 : Int) ^ (18 : Int).toNat ≤ c
        · rw [decide_eq_true hc]
          have : (0 : Int) ≤ (10 : Int) ^ (18 : Int).toNat := by decide
          show 0 ≤ c * 1
          omega
        · rw [decide_eq_false hc]
          show 0 ≤ c * 0
          omega
      · refine sx _ _ (ne_of_none hq2 np3) ?_
        rw [upd_ne (ne_of_none hq2 np3)]
        exact hq2
    · rintro σ H1 ⟨hq, v1, v2, v3, rfl⟩
      exact k _
end
/-! ### what the top has written -/
def iniB (K : PySem.W.Frag) (x : Str) : Bool := decide (PySem.W.findIn K (.ref (ga K x)) "__init__" = some (some (.ref (iAd K x)))) && decide (PySem.W.typeIn K (.ref (iAd K x)) = some (.type "function"))
def noB (K : PySem.W.Frag) (q : Str × Str) : Bool := decide (PySem.W.findIn K (.ref (ga K q.1)) q.2 = some none)
def kitB (K : PySem.W.Frag) (x : Str) (bf : Nat → Bool) : Bool := (List.range 16).all fun i => decide (PySem.W.kitOne K (.ref (ga K x)) (.ref (ga K (cn.getD i ""))) = some (bf i))
theorem cn_at {i : Nat} {c : Str} (h : cn[i]? = some c) : i < 16 ∧ cn.getD i "" = c := by
  have hi := (List.getElem?_eq_some_iff.mp h).1
  exact ⟨hi, by rw [List.getD_eq_getElem?_getD, h] <;> rfl⟩
theorem kitB_ok {K : PySem.W.Frag} {x : Str} {bf : Nat → Bool} (h : kitB K x bf = true) : kitRow K (ga K x) bf := fun i c e => by
  obtain ⟨hi, ec⟩ := cn_at e
  have z := of_decide_eq_true (List.all_eq_true.mp h i (List.mem_range.mpr hi))
  rw [ec] at z
  exact z
theorem cs_cn {i : Nat} {c : Str × (V → List (Str × V))} (h : CS[i]? = some c) : cn[i]? = some c.1 := by
  have e : cn = CS.map (·.1) := rfl
  rw [e, List.getElem?_map, h] <;> rfl
def oneB (K : PySem.W.Frag) (i : Nat) : Bool := ecB K (ga K (cn.getD i "")) && (iniB K (cn.getD i "") && (kitB K (cn.getD i "") (fun k => decide (k = i)) && (decide (PySem.W.kitOne K (.ref (ga K (cn.getD i ""))) (.ref (ga K "LaneError")) = some true) && decide (PySem.W.kitOne K (.ref (ga K (cn.getD i ""))) (.type "ValueError") = some true))))
def barB (K : PySem.W.Frag) (x : Str) : Bool := ecB K (ga K x) && (kitB K x (fun _ => false) && decide (PySem.W.kitOne K (.ref (ga K x)) (.ref (ga K "LaneError")) = some true))
def NP : List (Str × Str) := [("NoNumber", "part"), ("NoContent", "part"), ("NoContent", "index"), ("NoGrid", "part"), ("NoGrid", "index"), ("NoItem", "part"), ("NoPage", "part"), ("NoPage", "index"), ("ManyLanes", "axis"), ("NoPath", "path"), ("NoRange", "part"), ("TooMany", "most"), ("NoWish", "wish"), ("OtherBoxes", "one"), ("OtherBoxes", "other"), ("NoArea", "index"), ("NoSizes", "index"), ("NoCrossings", "index"), ("NoOrder", "index"), ("NoText", "line")]
def exB (K : PySem.W.Frag) : Bool := ((List.range 16).all fun i => oneB K i) && (NP.all (noB K) && (barB K "NoAxis" && (barB K "NoStates" && decide (PySem.W.kitOne K (.type "ValueError") (.ref (ga K "LaneError")) = some false))))
abbrev AlP : Type := He.AlD × Bool
def obsPG (n : Nat) (fa : List He.Fa) (fn : List He.DefD) (ex : PySem.W.Frag → Bool) (g : Addr → Option Obj) : AlP := (He.obsD fa fn (He.frG g (He.asD g n)), ex (He.frG g (He.asD g n)))
def hookP (n : Nat) (fa : List He.Fa) (fn : List He.DefD) (ex : PySem.W.Frag → Bool) : PySem.W.Hook where
  α := AlP
  obs := fun s => obsPG n fa fn ex s.heap.get?
  val := fun _ => (He.valD fn, true)
  says := fun _ h => ∃ K : PySem.W.Frag, K.In h ∧ He.SaysD fa fn K ∧ ex K = true
  of := fun _ _ e => ⟨_, He.frG_in, congrArg (fun z : AlP => z.1) e, congrArg (fun z : AlP => z.2) e⟩
  keeps := fun _ _ _ ⟨K, hK, c⟩ k => ⟨K, PySem.W.Frag.In.keeps hK k, c⟩
theorem obsPG_eq {n : Nat} {fa : List He.Fa} {fn : List He.DefD} {ex : PySem.W.Frag → Bool} {g : Addr → Option Obj} {s : Shared} (h : ∀ a, g a = s.heap.get? a) : obsPG n fa fn ex g = (hookP n fa fn ex).obs s := by
  have e : g = s.heap.get? := funext h
  rw [e] <;> rfl

def dI_NoNumber : He.DefD := ⟨("NoNumber", some "__init__"), "__init__", "NoNumber.__init__", defArgs (sI 2), defBody (sI 2), defScope (sI 2), [], []⟩
def dI_NoContent : He.DefD := ⟨("NoContent", some "__init__"), "__init__", "NoContent.__init__", defArgs (sI 3), defBody (sI 3), defScope (sI 3), [], []⟩
def dI_NoGrid : He.DefD := ⟨("NoGrid", some "__init__"), "__init__", "NoGrid.__init__", defArgs (sI 4), defBody (sI 4), defScope (sI 4), [], []⟩
def dI_NoItem : He.DefD := ⟨("NoItem", some "__init__"), "__init__", "NoItem.__init__", defArgs (sI 5), defBody (sI 5), defScope (sI 5), [], []⟩
def dI_NoPage : He.DefD := ⟨("NoPage", some "__init__"), "__init__", "NoPage.__init__", defArgs (sI 6), defBody (sI 6), defScope (sI 6), [], []⟩
def dI_ManyLanes : He.DefD := ⟨("ManyLanes", some "__init__"), "__init__", "ManyLanes.__init__", defArgs (sI 7), defBody (sI 7), defScope (sI 7), [], []⟩
def dI_NoPath : He.DefD := ⟨("NoPath", some "__init__"), "__init__", "NoPath.__init__", defArgs (sI 8), defBody (sI 8), defScope (sI 8), [], []⟩
def dI_NoRange : He.DefD := ⟨("NoRange", some "__init__"), "__init__", "NoRange.__init__", defArgs (sI 9), defBody (sI 9), defScope (sI 9), [], []⟩
def dI_TooMany : He.DefD := ⟨("TooMany", some "__init__"), "__init__", "TooMany.__init__", defArgs (sI 10), defBody (sI 10), defScope (sI 10), [], []⟩
def dI_NoWish : He.DefD := ⟨("NoWish", some "__init__"), "__init__", "NoWish.__init__", defArgs (sI 11), defBody (sI 11), defScope (sI 11), [], []⟩
def dI_OtherBoxes : He.DefD := ⟨("OtherBoxes", some "__init__"), "__init__", "OtherBoxes.__init__", defArgs (sI 12), defBody (sI 12), defScope (sI 12), [], []⟩
def dI_NoArea : He.DefD := ⟨("NoArea", some "__init__"), "__init__", "NoArea.__init__", defArgs (sI 14), defBody (sI 14), defScope (sI 14), [], []⟩
def dI_NoSizes : He.DefD := ⟨("NoSizes", some "__init__"), "__init__", "NoSizes.__init__", defArgs (sI 15), defBody (sI 15), defScope (sI 15), [], []⟩
def dI_NoCrossings : He.DefD := ⟨("NoCrossings", some "__init__"), "__init__", "NoCrossings.__init__", defArgs (sI 16), defBody (sI 16), defScope (sI 16), [], []⟩
def dI_NoOrder : He.DefD := ⟨("NoOrder", some "__init__"), "__init__", "NoOrder.__init__", defArgs (sI 17), defBody (sI 17), defScope (sI 17), [], []⟩
def dI_NoText : He.DefD := ⟨("NoText", some "__init__"), "__init__", "NoText.__init__", defArgs (sI 18), defBody (sI 18), defScope (sI 18), [], []⟩
def dDraw : He.DefD := ⟨("_law_draw", none), "_law_draw", "_law_draw", defArgs sDraw, defBody sDraw, defScope sDraw, [], []⟩
def dOne : He.DefD := ⟨("_law_one", none), "_law_one", "_law_one", defArgs sOne, defBody sOne, defScope sOne, [], []⟩
def dTaken : He.DefD := ⟨("_law_taken", none), "_law_taken", "_law_taken", defArgs sTaken, defBody sTaken, defScope sTaken, [], []⟩
def dPlace : He.DefD := ⟨("_law_by_place", none), "_law_by_place", "_law_by_place", defArgs sPlace, defBody sPlace, defScope sPlace, [], []⟩
def dName : He.DefD := ⟨("_law_by_name", none), "_law_by_name", "_law_by_name", defArgs sName, defBody sName, defScope sName, [], []⟩
def dFields : He.DefD := ⟨("_law_fields", none), "_law_fields", "_law_fields", defArgs sFields, defBody sFields, defScope sFields, [], []⟩
def dRight : He.DefD := ⟨("_law_right", none), "_law_right", "_law_right", defArgs sRight, defBody sRight, defScope sRight, [], []⟩
def dLaw : He.DefD := ⟨("law", none), "law", "law", defArgs sLaw, defBody sLaw, defScope sLaw, [], []⟩
def fn : List He.DefD := [dI_NoNumber, dI_NoContent, dI_NoGrid, dI_NoItem, dI_NoPage, dI_ManyLanes, dI_NoPath, dI_NoRange, dI_TooMany, dI_NoWish, dI_OtherBoxes, dI_NoArea, dI_NoSizes, dI_NoCrossings, dI_NoOrder, dI_NoText, dDraw, dOne, dTaken, dPlace, dName, dFields, dRight, dLaw]
def fa : List He.Fa := [.glo "NoNumber", .glo "NoContent", .glo "NoGrid", .glo "NoItem", .glo "NoPage", .glo "ManyLanes", .glo "NoPath", .glo "NoRange", .glo "TooMany", .glo "NoWish", .glo "OtherBoxes", .glo "NoArea", .glo "NoSizes", .glo "NoCrossings", .glo "NoOrder", .glo "NoText", .glo "LaneError", .glo "NoAxis", .glo "NoStates", .glo "_law_draw", .glo "_law_one", .glo "_law_taken", .glo "_law_by_place", .glo "_law_by_name", .glo "_law_fields", .glo "_law_right", .glo "law", .free "int", .free "len", .free "range", .free "enumerate", .free "isinstance", .free "ValueError", .exc "NoAxis", .exc "NoStates"]
theorem no_ok {K : PySem.W.Frag} (h : NP.all (noB K) = true) (i : Nat) {q : Str × Str} (e : NP[i]? = some q := by rfl) : PySem.W.findIn K (.ref (ga K q.1)) q.2 = some none := of_decide_eq_true (List.all_eq_true.mp h q (List.mem_of_getElem? e))
theorem facts {P : Program} {w : World} {K : PySem.W.Frag} {h : Heap} {mg : Str → Option Value} {f : Addr} (X : K.In h) (G : h.Ns mainGlobals mg) (hfa : mg ("law" : Str) = some (.ref f)) (c : He.SaysD fa fn K) (x : exB K = true) :
    ∃ fd : FuncData, (∀ (s : Shared) (v : Value), BindsTo s fd ⟨[v], []⟩ [("script", v)]) ∧ ∀ base : Heap, K.In base → base.Ns mainGlobals mg → FnOk P w K mg base CX0 5 f fd ["script"] (spLaw K) := by
  obtain ⟨x1, x⟩ := ba x
  obtain ⟨xn, x⟩ := ba x
  obtain ⟨xa, x⟩ := ba x
  obtain ⟨xs, xv⟩ := ba x
  have one : ∀ i, i < 16 → EC K (ga K (cn.getD i "")) ∧ PySem.W.findIn K (.ref (ga K (cn.getD i ""))) "__init__" = some (some (.ref (iAd K (cn.getD i "")))) ∧ PySem.W.typeIn K (.ref (iAd K (cn.getD i ""))) = some (.type "function") ∧ kitRow K (ga K (cn.getD i "")) (fun k => decide (k = i)) ∧
      PySem.W.kitOne K (.ref (ga K (cn.getD i ""))) (.ref (ga K "LaneError")) = some true ∧ PySem.W.kitOne K (.ref (ga K (cn.getD i ""))) (.type "ValueError") = some true := fun i hi => by
    have z := List.all_eq_true.mp x1 i (List.mem_range.mpr hi)
    obtain ⟨z1, z⟩ := ba z
    obtain ⟨z2, z⟩ := ba z
    obtain ⟨z3, z⟩ := ba z
    obtain ⟨z4, z5⟩ := ba z
    obtain ⟨z6, z7⟩ := ba z2
    exact ⟨ecB_ok z1, of_decide_eq_true z6, of_decide_eq_true z7, kitB_ok z3, of_decide_eq_true z4, of_decide_eq_true z5⟩
  have bar : ∀ y : Str, barB K y = true → ExcC K (ga K y) ∧ kitRow K (ga K y) (fun _ => false) ∧ PySem.W.kitOne K (.ref (ga K y)) (.ref (ga K "LaneError")) = some true := fun y z => by
    obtain ⟨z1, z⟩ := ba z
    obtain ⟨z2, z3⟩ := ba z
    exact ⟨(ecB_ok z1).ex, kitB_ok z2, of_decide_eq_true z3⟩
  obtain ⟨fNoNumber, FNoNumber⟩ := c.def_ 0 (d := dI_NoNumber) rfl
  obtain ⟨fNoContent, FNoContent⟩ := c.def_ 1 (d := dI_NoContent) rfl
  obtain ⟨fNoGrid, FNoGrid⟩ := c.def_ 2 (d := dI_NoGrid) rfl
  obtain ⟨fNoItem, FNoItem⟩ := c.def_ 3 (d := dI_NoItem) rfl
  obtain ⟨fNoPage, FNoPage⟩ := c.def_ 4 (d := dI_NoPage) rfl
  obtain ⟨fManyLanes, FManyLanes⟩ := c.def_ 5 (d := dI_ManyLanes) rfl
  obtain ⟨fNoPath, FNoPath⟩ := c.def_ 6 (d := dI_NoPath) rfl
  obtain ⟨fNoRange, FNoRange⟩ := c.def_ 7 (d := dI_NoRange) rfl
  obtain ⟨fTooMany, FTooMany⟩ := c.def_ 8 (d := dI_TooMany) rfl
  obtain ⟨fNoWish, FNoWish⟩ := c.def_ 9 (d := dI_NoWish) rfl
  obtain ⟨fOtherBoxes, FOtherBoxes⟩ := c.def_ 10 (d := dI_OtherBoxes) rfl
  obtain ⟨fNoArea, FNoArea⟩ := c.def_ 11 (d := dI_NoArea) rfl
  obtain ⟨fNoSizes, FNoSizes⟩ := c.def_ 12 (d := dI_NoSizes) rfl
  obtain ⟨fNoCrossings, FNoCrossings⟩ := c.def_ 13 (d := dI_NoCrossings) rfl
  obtain ⟨fNoOrder, FNoOrder⟩ := c.def_ 14 (d := dI_NoOrder) rfl
  obtain ⟨fNoText, FNoText⟩ := c.def_ 15 (d := dI_NoText) rfl
  obtain ⟨fDraw, FDraw⟩ := c.def_ 16 (d := dDraw) rfl
  obtain ⟨fOne, FOne⟩ := c.def_ 17 (d := dOne) rfl
  obtain ⟨fTaken, FTaken⟩ := c.def_ 18 (d := dTaken) rfl
  obtain ⟨fPlace, FPlace⟩ := c.def_ 19 (d := dPlace) rfl
  obtain ⟨fName, FName⟩ := c.def_ 20 (d := dName) rfl
  obtain ⟨fFields, FFields⟩ := c.def_ 21 (d := dFields) rfl
  obtain ⟨fRight, FRight⟩ := c.def_ 22 (d := dRight) rfl
  obtain ⟨fLaw, FLaw⟩ := c.def_ 23 (d := dLaw) rfl
  have e := hfa.symm.trans (He.glo_ok X G (c.fact 26 (f := .glo "law") rfl))
  cases e
  have eA := He.exc_ok (c.fact 33 (f := .exc "NoAxis") rfl)
  have eS := He.exc_ok (c.fact 34 (f := .exc "NoStates") rfl)
  have b := FunD.bindsA (ps := ["script"]) FLaw fun _ _ _ _ _ _ us hl => match us, hl with | [_], _ => rfl
  refine ⟨fLaw, fun s v => b s [v] rfl, fun base _ _ => ?_⟩
  have TE : TxtE P w K mg base := {
    eNoNumber := ⟨(He.glo_ok X G (c.fact 0 (f := .glo "NoNumber") rfl)), (one 0 (by decide)).1, (one 0 (by decide)).2.1, (one 0 (by decide)).2.2.1, no_ok xn 0, fNoNumber, okI_NoNumber FNoNumber (one 0 (by decide)).1.o (no_ok xn 0), biI_NoNumber FNoNumber, kbI_NoNumber FNoNumber⟩
    eNoContent := ⟨(He.glo_ok X G (c.fact 1 (f := .glo "NoContent") rfl)), (one 1 (by decide)).1, (one 1 (by decide)).2.1, (one 1 (by decide)).2.2.1, no_ok xn 1, no_ok xn 2, fNoContent, okI_NoContent FNoContent (one 1 (by decide)).1.o (no_ok xn 1) (no_ok xn 2), biI_NoContent FNoContent, kbI_NoContent FNoContent⟩
    eNoGrid := ⟨(He.glo_ok X G (c.fact 2 (f := .glo "NoGrid") rfl)), (one 2 (by decide)).1, (one 2 (by decide)).2.1, (one 2 (by decide)).2.2.1, no_ok xn 3, no_ok xn 4, fNoGrid, okI_NoGrid FNoGrid (one 2 (by decide)).1.o (no_ok xn 3) (no_ok xn 4), biI_NoGrid FNoGrid, kbI_NoGrid FNoGrid⟩
    eNoItem := ⟨(He.glo_ok X G (c.fact 3 (f := .glo "NoItem") rfl)), (one 3 (by decide)).1, (one 3 (by decide)).2.1, (one 3 (by decide)).2.2.1, no_ok xn 5, fNoItem, okI_NoItem FNoItem (one 3 (by decide)).1.o (no_ok xn 5), biI_NoItem FNoItem, kbI_NoItem FNoItem⟩
    eNoPage := ⟨(He.glo_ok X G (c.fact 4 (f := .glo "NoPage") rfl)), (one 4 (by decide)).1, (one 4 (by decide)).2.1, (one 4 (by decide)).2.2.1, no_ok xn 6, no_ok xn 7, fNoPage, okI_NoPage FNoPage (one 4 (by decide)).1.o (no_ok xn 6) (no_ok xn 7), biI_NoPage FNoPage, kbI_NoPage FNoPage⟩
    eManyLanes := ⟨(He.glo_ok X G (c.fact 5 (f := .glo "ManyLanes") rfl)), (one 5 (by decide)).1, (one 5 (by decide)).2.1, (one 5 (by decide)).2.2.1, no_ok xn 8, fManyLanes, okI_ManyLanes FManyLanes (one 5 (by decide)).1.o (no_ok xn 8), biI_ManyLanes FManyLanes, kbI_ManyLanes FManyLanes⟩
    eNoPath := ⟨(He.glo_ok X G (c.fact 6 (f := .glo "NoPath") rfl)), (one 6 (by decide)).1, (one 6 (by decide)).2.1, (one 6 (by decide)).2.2.1, no_ok xn 9, fNoPath, okI_NoPath FNoPath (one 6 (by decide)).1.o (no_ok xn 9), biI_NoPath FNoPath, kbI_NoPath FNoPath⟩
    eNoRange := ⟨(He.glo_ok X G (c.fact 7 (f := .glo "NoRange") rfl)), (one 7 (by decide)).1, (one 7 (by decide)).2.1, (one 7 (by decide)).2.2.1, no_ok xn 10, fNoRange, okI_NoRange FNoRange (one 7 (by decide)).1.o (no_ok xn 10), biI_NoRange FNoRange, kbI_NoRange FNoRange⟩
    eTooMany := ⟨(He.glo_ok X G (c.fact 8 (f := .glo "TooMany") rfl)), (one 8 (by decide)).1, (one 8 (by decide)).2.1, (one 8 (by decide)).2.2.1, no_ok xn 11, fTooMany, okI_TooMany FTooMany (one 8 (by decide)).1.o (no_ok xn 11), biI_TooMany FTooMany, kbI_TooMany FTooMany⟩
    eNoWish := ⟨(He.glo_ok X G (c.fact 9 (f := .glo "NoWish") rfl)), (one 9 (by decide)).1, (one 9 (by decide)).2.1, (one 9 (by decide)).2.2.1, no_ok xn 12, fNoWish, okI_NoWish FNoWish (one 9 (by decide)).1.o (no_ok xn 12), biI_NoWish FNoWish, kbI_NoWish FNoWish⟩
    eOtherBoxes := ⟨(He.glo_ok X G (c.fact 10 (f := .glo "OtherBoxes") rfl)), (one 10 (by decide)).1, (one 10 (by decide)).2.1, (one 10 (by decide)).2.2.1, no_ok xn 13, no_ok xn 14, fOtherBoxes, okI_OtherBoxes FOtherBoxes (one 10 (by decide)).1.o (no_ok xn 13) (no_ok xn 14), biI_OtherBoxes FOtherBoxes, kbI_OtherBoxes FOtherBoxes⟩
    eNoArea := ⟨(He.glo_ok X G (c.fact 11 (f := .glo "NoArea") rfl)), (one 11 (by decide)).1, (one 11 (by decide)).2.1, (one 11 (by decide)).2.2.1, no_ok xn 15, fNoArea, okI_NoArea FNoArea (one 11 (by decide)).1.o (no_ok xn 15), biI_NoArea FNoArea, kbI_NoArea FNoArea⟩
    eNoSizes := ⟨(He.glo_ok X G (c.fact 12 (f := .glo "NoSizes") rfl)), (one 12 (by decide)).1, (one 12 (by decide)).2.1, (one 12 (by decide)).2.2.1, no_ok xn 16, fNoSizes, okI_NoSizes FNoSizes (one 12 (by decide)).1.o (no_ok xn 16), biI_NoSizes FNoSizes, kbI_NoSizes FNoSizes⟩
    eNoCrossings := ⟨(He.glo_ok X G (c.fact 13 (f := .glo "NoCrossings") rfl)), (one 13 (by decide)).1, (one 13 (by decide)).2.1, (one 13 (by decide)).2.2.1, no_ok xn 17, fNoCrossings, okI_NoCrossings FNoCrossings (one 13 (by decide)).1.o (no_ok xn 17), biI_NoCrossings FNoCrossings, kbI_NoCrossings FNoCrossings⟩
    eNoOrder := ⟨(He.glo_ok X G (c.fact 14 (f := .glo "NoOrder") rfl)), (one 14 (by decide)).1, (one 14 (by decide)).2.1, (one 14 (by decide)).2.2.1, no_ok xn 18, fNoOrder, okI_NoOrder FNoOrder (one 14 (by decide)).1.o (no_ok xn 18), biI_NoOrder FNoOrder, kbI_NoOrder FNoOrder⟩
    eNoText := ⟨(He.glo_ok X G (c.fact 15 (f := .glo "NoText") rfl)), (one 15 (by decide)).1, (one 15 (by decide)).2.1, (one 15 (by decide)).2.2.1, no_ok xn 19, fNoText, okI_NoText FNoText (one 15 (by decide)).1.o (no_ok xn 19), biI_NoText FNoText, kbI_NoText FNoText⟩ }
  have TC : TxtC K mg := {
    isi := (He.free_ok X G (c.fact 31 (f := .free "isinstance") rfl))
    gNoNumber := (He.glo_ok X G (c.fact 0 (f := .glo "NoNumber") rfl))
    gNoContent := (He.glo_ok X G (c.fact 1 (f := .glo "NoContent") rfl))
    gNoGrid := (He.glo_ok X G (c.fact 2 (f := .glo "NoGrid") rfl))
    gNoItem := (He.glo_ok X G (c.fact 3 (f := .glo "NoItem") rfl))
    gNoPage := (He.glo_ok X G (c.fact 4 (f := .glo "NoPage") rfl))
    gManyLanes := (He.glo_ok X G (c.fact 5 (f := .glo "ManyLanes") rfl))
    gNoPath := (He.glo_ok X G (c.fact 6 (f := .glo "NoPath") rfl))
    gNoRange := (He.glo_ok X G (c.fact 7 (f := .glo "NoRange") rfl))
    gTooMany := (He.glo_ok X G (c.fact 8 (f := .glo "TooMany") rfl))
    gNoWish := (He.glo_ok X G (c.fact 9 (f := .glo "NoWish") rfl))
    gOtherBoxes := (He.glo_ok X G (c.fact 10 (f := .glo "OtherBoxes") rfl))
    gNoArea := (He.glo_ok X G (c.fact 11 (f := .glo "NoArea") rfl))
    gNoSizes := (He.glo_ok X G (c.fact 12 (f := .glo "NoSizes") rfl))
    gNoCrossings := (He.glo_ok X G (c.fact 13 (f := .glo "NoCrossings") rfl))
    gNoOrder := (He.glo_ok X G (c.fact 14 (f := .glo "NoOrder") rfl))
    gNoText := (He.glo_ok X G (c.fact 15 (f := .glo "NoText") rfl)) }
  have TF : TxtF K := {
    xNoNumber := (one 0 (by decide)).1.xf
    nNoNumber_part := no_ok xn 0
    xNoContent := (one 1 (by decide)).1.xf
    nNoContent_part := no_ok xn 1
    nNoContent_index := no_ok xn 2
    xNoGrid := (one 2 (by decide)).1.xf
    nNoGrid_part := no_ok xn 3
    nNoGrid_index := no_ok xn 4
    xNoItem := (one 3 (by decide)).1.xf
    nNoItem_part := no_ok xn 5
    xNoPage := (one 4 (by decide)).1.xf
    nNoPage_part := no_ok xn 6
    nNoPage_index := no_ok xn 7
    xManyLanes := (one 5 (by decide)).1.xf
    nManyLanes_axis := no_ok xn 8
    xNoPath := (one 6 (by decide)).1.xf
    nNoPath_path := no_ok xn 9
    xNoRange := (one 7 (by decide)).1.xf
    nNoRange_part := no_ok xn 10
    xTooMany := (one 8 (by decide)).1.xf
    nTooMany_most := no_ok xn 11
    xNoWish := (one 9 (by decide)).1.xf
    nNoWish_wish := no_ok xn 12
    xOtherBoxes := (one 10 (by decide)).1.xf
    nOtherBoxes_one := no_ok xn 13
    nOtherBoxes_other := no_ok xn 14
    xNoArea := (one 11 (by decide)).1.xf
    nNoArea_index := no_ok xn 15
    xNoSizes := (one 12 (by decide)).1.xf
    nNoSizes_index := no_ok xn 16
    xNoCrossings := (one 13 (by decide)).1.xf
    nNoCrossings_index := no_ok xn 17
    xNoOrder := (one 14 (by decide)).1.xf
    nNoOrder_index := no_ok xn 18
    xNoText := (one 15 (by decide)).1.xf
    nNoText_line := no_ok xn 19 }
  have TR : TxtR P w K mg base := {
    e := TE
    c := TC
    f := TF
    x16 := fun i q hq => by
      obtain ⟨hi, eq⟩ := cn_at (cs_cn hq)
      have z := one i hi
      rw [eq] at z
      exact ⟨z.1.ex, z.2.2.2.1, z.2.2.2.2.1, z.2.2.2.2.2⟩
    x0 := fun q hq => by
      rcases hq with rfl | rfl
      · exact bar _ xa
      · exact bar _ xs
    xv := of_decide_eq_true xv
    gLE := (He.glo_ok X G (c.fact 16 (f := .glo "LaneError") rfl))
    gA := (He.glo_ok X G (c.fact 17 (f := .glo "NoAxis") rfl))
    gS := (He.glo_ok X G (c.fact 18 (f := .glo "NoStates") rfl))
    mA := eA.1
    mS := eS.1
    kA := eA.2.1
    kS := eS.2.1
    ve := (He.free_ok X G (c.fact 32 (f := .free "ValueError") rfl))
    int := (He.free_ok X G (c.fact 27 (f := .free "int") rfl))
    len := (He.free_ok X G (c.fact 28 (f := .free "len") rfl))
    range := (He.free_ok X G (c.fact 29 (f := .free "range") rfl))
    enum := (He.free_ok X G (c.fact 30 (f := .free "enumerate") rfl)) }
  exact ok_law FLaw FRight (ok_right FRight FDraw FOne FTaken FPlace FName FFields (He.glo_ok X G (c.fact 19 (f := .glo "_law_draw") rfl)) (He.glo_ok X G (c.fact 20 (f := .glo "_law_one") rfl)) (He.glo_ok X G (c.fact 21 (f := .glo "_law_taken") rfl)) (He.glo_ok X G (c.fact 22 (f := .glo "_law_by_place") rfl)) (He.glo_ok X G (c.fact 23 (f := .glo "_law_by_name") rfl)) (He.glo_ok X G (c.fact 24 (f := .glo "_law_fields") rfl)) TR) (He.glo_ok X G (c.fact 25 (f := .glo "_law_right") rfl)) TR.int TR.enum
end K4

set_option Elab.async false
set_option linter.all false
set_option maxRecDepth 100000
set_option maxHeartbeats 0
namespace K4
open PySem PySem.Spec PyProof.Rows L2
abbrev R : PySem.W.OpenRow := PySem.W.OpenLaw.row PySem.Challenge.rw_gridlanes_k04_exceptions
abbrev hk : PySem.W.Hook := hookP 5 fa fn exB
def ob (s : PySem.W.SharedT) : AlP := obsPG 5 fa fn exB (HandSHeadRun.getT s)
theorem ob_eq (s : PySem.W.SharedT) : ob s = hk.obs s.abs := obsPG_eq (HandSHeadRun.getT_eq s)
def lo : List Str := ["LaneError", "NoNumber", "NoContent", "NoGrid", "NoItem", "NoPage", "ManyLanes", "NoPath", "NoRange", "TooMany", "NoWish", "OtherBoxes", "NoArea", "NoSizes", "NoCrossings", "NoOrder", "NoText", "NoAxis", "NoStates", "_law_draw", "_law_one", "_law_taken", "_law_by_place", "_law_by_name", "_law_fields", "_law_right"]
theorem run (w : World) : HandSHeadRun.RunEq R (PySem.W.view R.prog [28]) hk ob 20000 lo w := by
  intro os
  kernel_rfl
end K4
open PySem PySem.W PySem.Calls PyProof.Rows
theorem PySem.Challenge.cw_gridlanes_k04_exceptions_holds : PySem.Challenge.rw_gridlanes_k04_exceptions.Holds := by
  w_on; o_law
  refine HandSHeadRun.head_any (r := OpenLaw.row PySem.Challenge.rw_gridlanes_k04_exceptions) (q := view (OpenLaw.row PySem.Challenge.rw_gridlanes_k04_exceptions).prog [28]) (H := K4.hk) (ob := K4.ob) (M := 20000) (loose := K4.lo) (d := HandSHeadRun.topDef (OpenLaw.row PySem.Challenge.rw_gridlanes_k04_exceptions).prog 28) (kwd := []) K4.ob_eq
    (by kernel_rfl) (fun s => by kernel_rfl) K4.run (by kernel_rfl) (by kernel_rfl) (by kernel_rfl) (by rfl) (by first | assumption | decide +kernel) (by decide +kernel) ⟨rfl, rfl, rfl, rfl, rfl, by decide +kernel⟩ ?hw ?hc
  case hw => w_witness2
  case hc =>
    refine L2.walk_ofE (l := PySem.Challenge.rw_gridlanes_k04_exceptions) (n := 63) (k := 5) (x := "script") (CX := L2.CX0) rfl (by decide) (by kernel_rfl) ⟨rfl, by decide, by decide⟩ ?F (fun _ _ _ _ z => z)
    intro w mg fa h Y G hmg0
    obtain ⟨K, KX, c, x⟩ := Y
    have hmg : mg ("law" : PySem.Str) = some (.ref fa) := by
      have e : (HandSHeadRun.topDef (OpenLaw.row PySem.Challenge.rw_gridlanes_k04_exceptions).prog 28).name = ("law" : PySem.Str) := by kernel_rfl
      rw [← e]
      exact hmg0
    obtain ⟨fd, hb, hF⟩ := K4.facts (P := (PySem.Challenge.rw_gridlanes_k04_exceptions).prog) (w := w) KX G hmg c x
    exact ⟨K, fd, K4.spLaw K, KX, hb, fun H a ns hl _ hS => ⟨a, ns, rfl, hS, hl, fun _ => rfl⟩, hF⟩
#print axioms PySem.Challenge.cw_gridlanes_k04_exceptions_holds
