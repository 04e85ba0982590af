import PyProof.Rows.All
import Wide.All
import OpenK.AllK
import Wide.FinOn
import HandS.ForMost
import HandS.Wide
import HandS.IsInst
import HandS.Codes
import HandS.Zip
import HandS.StrMore
import HandS.Defaults
import HandS.Style
import HandS.Walk
import KE.GoesMore
import HandS.Star
import HandS.SlotsOwn
import HandS.Property
import HandS.OwnEq
import HandS.SortRule
import HandS.Flow
import HandS.Small
import HandS.More
import HandS.ClsMeth
import HandS.SetKeys
import HandS.SetFor
import HandS.Strs
import HandS.ExcField
import HandS.ExcInit
import HandS.ExcIs
import HandS.ExcOwn
import KE.KExcInit
import KE.KExcIs
import KE.KExcLine
import HandS.TryMany
import HandS.HotCalls
import HandS.Lambda
import HandS.CallSlots
import HandS.EndTab
import HandS.ExcValue
import HandS.WordsExc
import HandS.EndBits
import HandS.EndOwn
import HandS.Nested
import HandS.FStr
import HandS.StrSplit
import HandS.Text
import HandS.DictComp
import HandS.RevRange
import HandS.Rev
import HandS.Remove
import HandS.RaiseFrom
import HandS.MakeKw
import HandS.MakeKwOnly
import KE.KxText
import KE.KSuper
import PySem.Challenge.RW_lumplooks_k11_seats_told
set_option Elab.async false
set_option linter.all false
set_option maxRecDepth 100000
set_option maxHeartbeats 4000000
/-! ### exceptions of own classes as values (toward k01, k03, k05, k06, k10, k11): C(e, ..) with an own __init__, over any built-in base -/
namespace Ex
open PySem PySem.Spec PyProof.Rows L2
/-- what the written part says of the class; B: its built-in base -/
structure OexG (K : PySem.W.Frag) (C : Addr) (B newId initId : String) (bmB : List Value) : Prop where
  base : ExcBaseFacts B newId initId bmB
  cls : ∃ nm q N bs bm sn sub ab col dd k0 k1 k2 k3 k5, K.lookup C = some (excClassObj nm q C N bs bm true sn sub ab col dd k0 k1 k2 k3 k5 newId) ∧ ∀ Y : String, bm.contains (.type Y) = bmB.contains (.type Y)
  kC : PySem.W.keepIn K (.ref C) = true
section
variable {X : Cx} {CX : CXT} {k : Nat} {C fI : Addr} {B newId initId : String} {bmB : List Value} {sp : Sp} {E : XK} {x : Str} {p pos : Pos} {e : Expr} {es : List Expr} {t : TA}
def tOex (C : Addr) (sp : Sp) (E : XK) (t : TA) : TE := fun σ H Q => t σ H fun vs H1 => vs.length ≤ 1000 ∧ ∀ a, H1 a = none → sp (.ref a :: vs) (upd H1 a (exo a C none)) (fun v H2 => v = .non ∧ Q (.ref a) H2) E
theorem pe_oex (T : OexG X.K C B newId initId bmB) (iC : PySem.W.findIn X.K (.ref C) "__init__" = some (some (.ref fI))) (tI : PySem.W.typeIn X.K (.ref fI) = some (.type "function")) (F : FnR X.prog X.w X.K X.mg X.base CX k fI sp) (hr : Room (k + 1) X.A)
    (hx : Passes CX X E) (hg : Gl X x) (hm : X.mg x = some (.ref C)) (ha : PA X (e :: es) t) (hdb : (x == ("__debug__" : Str)) = false := by decide) (he : starEach (e :: es) X.env = (false, eval e X.env) :: starEach es X.env := by rfl)
    (hpl : (backTo pos (starEach es X.env)).any (·.1) = false := by rfl) : PE X (.Call (.Name x p) (e :: es) [] pos) (tOex C sp E t) := by
  refine ⟨fun pins s σ H Q I h => ?_⟩
  obtain ⟨nm, q, N, bs, bm, sn, sub, ab, col, dd, k0, k1, k2, k3, k5, hC, hT⟩ := T.cls
  refine wpAny_Call_Name_kw (ld_glob I hg hm ?_ hdb)
  refine PySem.W.callWith_K (h₀ := X.base) I.ok.mod.kin T.kC (thn (ha.run pos pins s σ H _ I h) fun us s1 ⟨vs, H1, I1, r1, hz, q1⟩ => ⟨I1.kIn, ?_⟩) he hpl
  show wpAny _ _ (call (.ref C) us) _ _ _
  obtain ⟨hp, g, dr, tk, os⟩ := s1
  have up : hp.objs.size ≤ hp.objs.size + 1 := Nat.le_succ _
  have hq := q1 (hp.objs.size + 1) (I1.hok.fresh up)
  have old : ∀ b o, hp.get? b = some o → ((hp.push (PySem.W.kdv_tup us)).push (PySem.HandSPX.excO C hp.objs.size)).get? b = some o := fun b o e => Heap.get?_push_of_some _ (Heap.get?_push_of_some _ e)
  have at_ : ((hp.push (PySem.W.kdv_tup us)).push (PySem.HandSPX.excO C hp.objs.size)).get? (hp.objs.size + 1) = some (PySem.HandSPX.excO C hp.objs.size) := by heap_get
  have I2 : Inv X pins σ (upd H1 (hp.objs.size + 1) (exo (hp.objs.size + 1) C none)) ⟨(hp.push (PySem.W.kdv_tup us)).push (PySem.HandSPX.excO C hp.objs.size), g, dr, tk, os⟩ :=
    I1.laid (t' := tk) (a := hp.objs.size + 1) (o := exo (hp.objs.size + 1) C none) (h' := (hp.push (PySem.W.kdv_tup us)).push (PySem.HandSPX.excO C hp.objs.size)) old up (exo_ok at_)
  have lus : us.length ≤ sizeLine := by
    rw [← Paired.length r1, sizeLine_eq]
    omega
  refine wpAny_call (PySem.HandSPX.call_own T.base hT (I1.kIn _ _ hC) (PySem.W.looks_findIn I1.kIn iC) (fun self => PySem.W.bind_fn I1.kIn self tI) lus
    (codeAny_mono (F _ X.stack _ _ (Value.ref (hp.objs.size + 1) :: us) (V.ref (hp.objs.size + 1) :: vs) _ E (hr.make C us []) (I2.env0.make C us []) (.cons rfl r1) hq) fun r s' z => ?_))
  cases r with
  | error er => exact hx pins σ _ _ er s' I2 z
  | ok fl =>
    cases fl with
    | ret u =>
      obtain ⟨v, H2, I3, rv, ev, q2⟩ := I2.after z
      subst ev
      exact ⟨rv, .ref (hp.objs.size + 1), H2, I3, rfl, q2⟩
    | next => exact False.elim z
    | brk => exact False.elim z
    | cont => exact False.elim z
end
section
variable {X : Cx} {e : Expr} {te : TE} {f : Str} {pos : Pos}
/-- e.f of such an exception -/
def tExf (K : PySem.W.Frag) (f : Str) (te : TE) : TE := fun σ H Q => te σ H fun x H1 => ∃ (a C d : Addr) (fs : List (Str × V)) (v : V), x = .ref a ∧ H1 a = some (exo a C (some d)) ∧ H1 d = some (exd d fs) ∧ XfC K C ∧ PySem.W.findIn K (.ref C) f = some none ∧ fs.lookup f = some v ∧ Q v H1
theorem exo_inst {pins : List (Addr × Obj)} {σ : L2.St} {H : Hp} {s : Shared} {a C d : Addr} {fs : List (Str × V)} (I : Inv X pins σ H s) (ha : H a = some (exo a C (some d))) (hd : H d = some (exd d fs)) :
    ∃ (oe od : Obj) (mA : Str → Option Value), PySem.W.InstAt s.heap a oe C (some od) ∧ (∀ n, PySem.W.lookIn n od = some (mA n)) ∧ ∀ n, RelO (fs.lookup n) (mA n) := by
  obtain ⟨⟨t1, h1⟩, _⟩ := (show ObjOk X.prog X.w H s.heap a (exo a C (some d)) from I.hok a _ ha)
  obtain ⟨⟨mA, hns, hr⟩, _⟩ := (show ObjOk X.prog X.w H s.heap d (exd d fs) from I.hok d _ hd)
  obtain ⟨od, ho, hl⟩ := lookIn_ns hns
  exact ⟨_, od, mA, ⟨h1, rfl, rfl, ho⟩, hl, hr⟩
theorem pe_exf (he : PE X e te) (hb : attributeBase e f X.env (eval e X.env) = eval e X.env := by rfl) : PE X (.Attribute e f pos) (tExf X.K f te) := by
  refine ⟨fun pins s σ H Q I h => ?_⟩
  refine attr_of hb (thn (he.run pins s σ H _ I h) fun u s1 ⟨x, H1, I1, rx, a, C, d, fs, v, ex, ha, hd, T, hno, l, q⟩ => ?_)
  subst ex
  obtain rfl : u = Value.ref a := rx
  obtain ⟨oe, od, mA, J, hl, hr⟩ := exo_inst I1 ha hd
  obtain ⟨w1, hu, ru⟩ := RelO.some_of (v := v) (o := mA f) (by rw [← l]; exact hr f)
  exact HandSPX.exc_get I1.kIn J T.ga T.gg T.exC (PySem.W.findObj_own T.hdC hno rfl (by rw [hl, hu])) (handed_of ru) ⟨v, H1, I1.tok _, ru, q⟩
/-- isinstance(e, c) of such an exception -/
def rIsX (K : PySem.W.Frag) : List V → Hp → VK → Prop := fun xs H Q => ∃ (a D d : Addr) (fs : List (Str × V)) (c : V) (u : Value) (b : Bool), xs = [.ref a, c] ∧ H a = some (exo a D (some d)) ∧ H d = some (exd d fs) ∧ ExcC K D ∧ (PySem.W.clsIn K D).isSome = true ∧ ClsV c u ∧ PySem.W.kitOne K (.ref D) u = some b ∧ Q (.bl b) H
theorem call_isX : CallR X (.builtin "isinstance") (rIsX X.K) := by
  intro pins s σ H xs us Q I r h
  obtain ⟨a, D, d, fs, c, u, b, rfl, ha, hd, T, hc, k, e, q⟩ := h
  obtain ⟨u1, u2, rfl, r1, r2⟩ := vals2 r
  obtain rfl : u1 = Value.ref a := r1
  have e2 := k.eq r2
  subst e2
  obtain ⟨oe, od, mA, J, _⟩ := exo_inst I ha hd
  exact PySem.W.kia_one (PySem.W.kitx_exc hc T.hg T.hk T.hs T.ha T.hn T.ht T.hm) I.kIn J e (by simp) fun tk => ⟨.bl b, H, I.tok tk, rfl, q⟩
end
end Ex
/-! ### C(k = e) of an own exception class -/
namespace Ex
open PySem HandSPX
section
variable {prog : Program} {w : World} {A : Around} {E : Value → Shared → Prop} {R : Result → Shared → Prop} {h : Heap} {g : Array GenState} {d : Drawn} {t : Nat} {os : OsState}
variable {nm q : Str} {C N : Addr} {bs bm bmB : List Value} {hdct : Bool} {sn : List Str} {sub : List Value} {ab : Bool} {col : Option Bool} {dd : Option Addr} {k0 k1 k2 k3 k5 : Option Value} {B newId initId : String} {kn : Str} {kv : Value}
theorem new_kw (F : ExcBaseFacts B newId initId bmB) (hT : ∀ Y : String, bm.contains (.type Y) = bmB.contains (.type Y)) (hC : h.get? C = some (excClassObj nm q C N bs bm hdct sn sub ab col dd k0 k1 k2 k3 k5 newId))
    (z : R (.ok (.ret (.ref (h.objs.size + 1)))) ⟨(h.push (PySem.W.kdv_tup [])).push (excO C h.objs.size), g, d, t, os⟩) :
    codeAny (model prog w) A (.builtin newId ⟨[.ref C], [(kn, kv)]⟩) R ⟨h, g, d, t, os⟩ := by
  have e0 := F.ends
  have e1 : (Value.ref C :: bm).contains (.type B) = true := by rw [List.contains_cons, hT, F.hasB, Bool.or_true]
  have e2 : (Value.ref C :: bm).contains (.type "AttributeError") = false := by rw [List.contains_cons, hT, F.noAttr]; rfl
  have e3 : (Value.ref C :: bm).contains (.type "NameError") = false := by rw [List.contains_cons, hT, F.noName]; rfl
  refine codeAny_builtinAt F.entry ?_
  unfold Builtin.«BaseException.__new__»
  refine PySem.wpAt_bind ?_
  show wpAt _ _ _ (stack >>= _) _ _ _
  refine PySem.wpAt_bind (wpAt_stack fun p below => wpAt_of_wpAny ?_)
  wp_walk
  refine wpAt_of_wpAny ?_
  rw [F.owner]
  repeat (first | with_reducible refine wpAny_madeHere_exc F.canon hC ?_ | with_reducible refine wpAny_loadPart_at hC ?_ | (with_reducible refine wpAny_isSubtype_exc hC ?_; first | rw [e1] | rw [e2] | rw [e3]) | wp_step)
  show R _ _
  rw [Heap.size_push]
  exact z
end
section
variable {M : Model} {A : Around} {E : Value → Shared → Prop} {h : Heap} {g : Array GenState} {d : Drawn} {t : Nat} {os : OsState}
variable {nm q : Str} {C N : Addr} {bs bm bmB : List Value} {hdct : Bool} {sn : List Str} {sub : List Value} {ab : Bool} {col : Option Bool} {dd : Option Addr} {k0 k1 k2 k3 k5 : Option Value} {B newId initId : String} {kn : Str} {kv : Value}
theorem check_kw (F : ExcBaseFacts B newId initId bmB) (hT : ∀ Y : String, bm.contains (.type Y) = bmB.contains (.type Y)) {Q : Unit → Shared → Prop}
    (hC : h.get? C = some (excClassObj nm q C N bs bm hdct sn sub ab col dd k0 k1 k2 k3 k5 newId)) (z : Q () ⟨h, g, d, t, os⟩) : wpAny M A (checkBuiltinCall newId ⟨[.ref C], [(kn, kv)]⟩) Q E ⟨h, g, d, t, os⟩ := by
  have e1 : (Value.ref C :: bm).contains (.type B) = true := by rw [List.contains_cons, hT, F.hasB, Bool.or_true]
  have e2 := F.noStar
  simp only [checkBuiltinCall, F.newKind, F.newSplit, F.newRow]
  repeat (first | refine wpAny_loadPart_at hC ?_ | (refine wpAny_isSubtype_exc hC ?_; rw [e1]) | refine wpAny_staticBase_exc hC ?_ | refine wpAny_madeBy_exc hC ?_ | simp only [bne_self_eq_false, Bool.false_eq_true, if_false] | wp_step)
  exact z
end
section
variable {prog : Program} {w : World} {A : Around} {E : Value → Shared → Prop} {R : Result → Shared → Prop} {h : Heap} {g : Array GenState} {d : Drawn} {t : Nat} {os : OsState}
variable {nm q : Str} {C N fI : Addr} {bs bm bmB : List Value} {hdct : Bool} {sn : List Str} {sub : List Value} {ab : Bool} {col : Option Bool} {dd : Option Addr} {k0 k1 k2 k3 k5 : Option Value} {B newId initId : String} {kn : Str} {kv : Value}
theorem check_tc {M : Model} {Q : Unit → Shared → Prop} (hC : h.get? C = some (excClassObj nm q C N bs bm hdct sn sub ab col dd k0 k1 k2 k3 k5 newId)) (z : Q () ⟨h, g, d, t, os⟩) : wpAny M A (checkBuiltinCall "type.__call__" ⟨[.ref C], [(kn, kv)]⟩) Q E ⟨h, g, d, t, os⟩ := by
  have f3 := PySem.tc_sub
  have hT : (⟨h, g, d, t, os⟩ : Shared).TypeIs (.ref C) "type" := ⟨_, hC, rfl⟩
  simp only [checkBuiltinCall, PySem.tc_kind, PySem.tc_split]
  repeat (any_goals (first | assumption | with_reducible refine wpAny_loadPart_at hC ?_ | with_reducible refine wpAny_onRaise ?_ | with_reducible refine wpAny_map ?_ | wp_step))
theorem type_kw (F : ExcBaseFacts B newId initId bmB) (hT : ∀ Y : String, bm.contains (.type Y) = bmB.contains (.type Y)) {Q : Fin → Shared → Prop} (hC : h.get? C = some (excClassObj nm q C N bs bm hdct sn sub ab col dd k0 k1 k2 k3 k5 newId))
    (hi : PySem.W.Looks (model prog w) h (typeLookup (.ref C) "__init__") (some (.ref fI))) (hb : ∀ self, PySem.W.Looks (model prog w) h (bindSpecial (.ref fI) self) (.ref fI, [self]))
    (z : codeAny (model prog w) A (.call (.ref fI) ⟨[.ref (h.objs.size + 1)], [(kn, kv)]⟩)
      (fun r s' => match r with | .ok (.ret v) => v = .none ∧ Q (.done (.ret (.ref (h.objs.size + 1)))) s' | .ok _ => False | .error e => E e s')
      ⟨(h.push (PySem.W.kdv_tup [])).push (excO C h.objs.size), g, d, t, os⟩) :
    wpAny (model prog w) A (Builtin.«type.__call__» ⟨[.ref C], [(kn, kv)]⟩) Q E ⟨h, g, d, t, os⟩ := by
  repeat (first | with_reducible refine wpAny_loadPart_at hC ?_ | with_reducible refine wpAny_madeBy_exc hC ?_ | wp_step)
  refine codeAny_call_builtin_code (Code.quiet_builtin _ F.quiet) (check_kw F hT hC ?_)
  refine new_kw F hT hC ?_
  show wpAny _ _ _ _ _ _
  have k : ∀ b o, h.get? b = some o → ((h.push (PySem.W.kdv_tup [])).push (excO C h.objs.size)).get? b = some o := fun b o e => Heap.get?_push_of_some _ (Heap.get?_push_of_some _ e)
  have c1 := k _ _ hC
  have at_ : ((h.push (PySem.W.kdv_tup [])).push (excO C h.objs.size)).get? (h.objs.size + 1) = some (excO C h.objs.size) := by heap_get
  have e1 : (Value.ref C :: bm).contains (.ref C) = true := by simp
  have i1 := hi.keeps k
  have b1 := (hb (.ref (h.objs.size + 1))).keeps k
  unfold isInstance
  repeat (first | with_reducible refine wpAny_loadPart_at at_ ?_ | (with_reducible refine wpAny_isSubtype_exc c1 ?_; rw [e1]) | wp_step)
  show wpAny _ _ (typeLookup (.ref C) _) _ _ _
  refine i1.at ?_
  refine wpAny_holding (wpAny_bind (b1.at ?_))
  refine wpAny_bind (wpAny_call (codeAny_mono z fun r s' y => ?_))
  rcases r with e | (v | _ | _ | _) <;> first | exact y | exact y.elim | skip
  obtain ⟨rfl, y⟩ := y
  first
    | exact wpAny_pure (wpAny_pure y)
    | (wp_walk; exact y)
theorem call_kw (F : ExcBaseFacts B newId initId bmB) (hT : ∀ Y : String, bm.contains (.type Y) = bmB.contains (.type Y)) (hC : h.get? C = some (excClassObj nm q C N bs bm hdct sn sub ab col dd k0 k1 k2 k3 k5 newId))
    (hi : PySem.W.Looks (model prog w) h (typeLookup (.ref C) "__init__") (some (.ref fI))) (hb : ∀ self, PySem.W.Looks (model prog w) h (bindSpecial (.ref fI) self) (.ref fI, [self]))
    (z : codeAny (model prog w) (A.under (.builtin "type.__call__" ⟨[.ref C], [(kn, kv)]⟩)) (.call (.ref fI) ⟨[.ref (h.objs.size + 1)], [(kn, kv)]⟩) (PySem.W.InitBack (h.objs.size + 1) R)
      ⟨(h.push (PySem.W.kdv_tup [])).push (excO C h.objs.size), g, d, t, os⟩) :
    codeAny (model prog w) A (.call (.ref C) ⟨[], [(kn, kv)]⟩) R ⟨h, g, d, t, os⟩ := by
  have f1 := PySem.tc_lookup
  have f2 := PySem.tc_bind (.ref C)
  have hTy : (⟨h, g, d, t, os⟩ : Shared).TypeIs (.ref C) "type" := ⟨_, hC, rfl⟩
  refine codeAny_of_tree ?_
  show wpAny _ _ (callAny (.ref C) _) _ _ _
  repeat (any_goals (first | assumption | with_reducible refine wpAny_loadPart_at hC ?_ | wp_step))
  refine ⟨rfl, ?_⟩
  refine codeAny_call_builtin_at (Code.quiet_builtin _ (by decide +kernel)) PySem.entry_typeCall (check_tc hC (type_kw F hT hC hi hb ?_))
  refine codeAny_mono z fun r s' y => ?_
  rcases r with e | (v | _ | _ | _) <;> exact y
end
end Ex
namespace Ex
open PySem PySem.Spec PyProof.Rows L2
section
variable {X : Cx} {CX : CXT} {k : Nat} {C fI : Addr} {B newId initId : String} {bmB : List Value} {fd : FuncData} {ps : List Str} {sp : Sp} {E : XK} {x kn : Str} {p pos : Pos} {kws : List Keyword} {tk : TA} {g : List Value → List Value → List Value} {gV : List V → List V → List V}
def tOexK (C : Addr) (sp : Sp) (gV : List V → List V → List V) (E : XK) (tk : TA) : TE := fun σ H Q => tk σ H fun zs H1 => zs.length = 1 ∧ ∀ a, H1 a = none → sp (gV [.ref a] zs) (upd H1 a (exo a C none)) (fun v H2 => v = .non ∧ Q (.ref a) H2) E
theorem pe_oexK (T : OexG X.K C B newId initId bmB) (iC : PySem.W.findIn X.K (.ref C) "__init__" = some (some (.ref fI))) (tI : PySem.W.typeIn X.K (.ref fI) = some (.type "function")) (F : FnOk X.prog X.w X.K X.mg X.base CX k fI fd ps sp) (hr : Room (k + 1) X.A)
    (hb : KBn X.K fd ps 1 [kn] g gV) (hx : Passes CX X E) (hg : Gl X x) (hm : X.mg x = some (.ref C)) (hkw : PK X kws tk) (hall : (backToKw pos (keywordEach kws X.env)).all (·.1.isSome) = true := by rfl) (hks : (backToKw pos (keywordEach kws X.env)).filterMap (·.1) = [kn] := by rfl)
    (hdb : (x == ("__debug__" : Str)) = false := by decide) (hpl : ((backTo pos (starEach [] X.env)).any (·.1) || (backToKw pos (keywordEach kws X.env)).any (·.1.isNone)) = false := by rfl) :
    PE X (.Call (.Name x p) [] kws pos) (tOexK C sp gV E tk) := by
  refine ⟨fun pins s σ H Q I h => ?_⟩
  obtain ⟨nm, q, N, bs, bm, sn, sub, ab, col, dd, k0, k1, k2, k3, k5, hC, hT⟩ := T.cls
  refine wpAny_Call_Name_kw (ld_glob I hg hm ?_ hdb)
  refine PySem.W.callWith_KW0 (h₀ := X.base) I.ok.mod.kin T.kC hall (thn (hkw.run pos pins s σ H _ I h) fun ws s1 ⟨zs, H1, I1, r1, hz, q1⟩ => ⟨I1.kIn, ?_⟩) hpl
  rw [hks]
  have l1 : ws.length = 1 := by rw [← r1.length]; exact hz
  obtain ⟨kv, rfl⟩ : ∃ kv, ws = [kv] := match ws, l1 with | [kv], _ => ⟨kv, rfl⟩
  show wpAny _ _ (call (.ref C) [] [(kn, kv)]) _ _ _
  obtain ⟨hp, gg, dr, tk', os⟩ := s1
  have up : hp.objs.size ≤ hp.objs.size + 1 := Nat.le_succ _
  have hq := q1 (hp.objs.size + 1) (I1.hok.fresh up)
  have old : ∀ b o, hp.get? b = some o → ((hp.push (PySem.W.kdv_tup [])).push (PySem.HandSPX.excO C hp.objs.size)).get? b = some o := fun b o e => Heap.get?_push_of_some _ (Heap.get?_push_of_some _ e)
  have at_ : ((hp.push (PySem.W.kdv_tup [])).push (PySem.HandSPX.excO C hp.objs.size)).get? (hp.objs.size + 1) = some (PySem.HandSPX.excO C hp.objs.size) := by heap_get
  have I2 : Inv X pins σ (upd H1 (hp.objs.size + 1) (exo (hp.objs.size + 1) C none)) ⟨(hp.push (PySem.W.kdv_tup [])).push (PySem.HandSPX.excO C hp.objs.size), gg, dr, tk', os⟩ :=
    I1.laid (t' := tk') (a := hp.objs.size + 1) (o := exo (hp.objs.size + 1) C none) (h' := (hp.push (PySem.W.kdv_tup [])).push (PySem.HandSPX.excO C hp.objs.size)) old up (exo_ok at_)
  have r2 : Vals (gV [V.ref (hp.objs.size + 1)] zs) (g [Value.ref (hp.objs.size + 1)] [kv]) := hb.rel (.cons rfl .nil) r1
  refine wpAny_call (call_kw T.base hT (I1.kIn _ _ hC) (PySem.W.looks_findIn I1.kIn iC) (fun self => PySem.W.bind_fn I1.kIn self tI)
    (codeAny_mono (F.run _ X.stack _ _ ⟨[Value.ref (hp.objs.size + 1)], [(kn, kv)]⟩ _ _ _ E (hr.make C [] [(kn, kv)]) (I2.env0.make C [] [(kn, kv)]) (hb.to _ [Value.ref (hp.objs.size + 1)] [kv] I2.kIn rfl rfl) r2 hq) fun r s' z => ?_))
  cases r with
  | error er => exact hx pins σ _ _ er s' I2 z
  | ok fl =>
    cases fl with
    | ret u =>
      obtain ⟨v, H2, I3, rv, ev, q2⟩ := I2.after z
      subst ev
      exact ⟨rv, .ref (hp.objs.size + 1), H2, I3, rfl, q2⟩
    | next => exact False.elim z
    | brk => exact False.elim z
    | cont => exact False.elim z
end
end Ex
/-! ### attributes stored into an exception of an own class over any built-in base -/
namespace Ex
open PySem PySem.W PySem.Calls PyProof.Rows PySem.HandSPX Builtin Builtin.ObjectAttr
/-- what the order of the classes must be for stores -/
structure MroG (mro : List Value) : Prop where
  pass : ∀ self, refuseLoop self "__setattr__" mro = pure ()
  ob : mro.contains (.type "object") = true
  ne : mro.isEmpty = false
theorem mroG_of {bmB bm : List Value} {C : Addr} (p : ∀ self : Value, refuseLoop self "__setattr__" bmB = pure ()) (o : bmB.contains (.type "object") = true) (h : excTail bmB bm = true) : MroG (.ref C :: bm) :=
  ⟨fun self => by rw [refuseLoop_ref]; exact excTail_pass self (p self) bm h, by rw [List.contains_cons, excTail_contains "object" bm h, o, Bool.or_true], rfl⟩
section
variable {prog : Program} {w : World} {R : Result → Shared → Prop} {A : Around} {hp : Heap} {g : Array GenState} {d : Drawn} {t : Nat} {os : OsState} {K : W.Frag} {e C : Addr} {fv : Array Value} {cd : ClassData} {n : Str} {tk : Tok} {u : Value}
theorem put_first (kin : K.In hp) (he : hp.get? e = some { cls := .ref C, data := .fields fv }) (hc : W.clsIn K C = some cd) (hm : MroG cd.mro) (hd : cd.hasDict = true) (nn : W.findIn K (.ref C) n = some none)
    (k : ∀ h2 t2 y, (∀ b o, b ≠ e → hp.get? b = some o → h2.get? b = some o) → hp.objs.size ≤ y → y ≠ e → h2.get? e = some { cls := .ref C, dict := some y, data := .fields fv } → h2.Ns1 y (fun z => if z = n then some u else none) → R (.ok (.ret .none)) ⟨h2, g, d, t2, os⟩) :
    codeAny (model prog w) A (.call (.builtin "object.__setattr__") ⟨[.ref e, .str n tk, u], []⟩) R ⟨hp, g, d, t, os⟩ := by
  have J : W.InstAt hp e { cls := .ref C, data := .fields fv } C none := ⟨he, rfl, rfl, trivial⟩
  have S := F.store_object
  have es : e ≠ hp.objs.size := Nat.ne_of_lt (Heap.lt_size he)
  have sub : W.Looks (model prog w) hp (isInstance (.ref e) (.type "object")) true := J.type.andThen (W.looks_mroIn kin (by unfold W.mroIn; rw [hc, Option.bind_some, if_neg (by rw [hm.ne]; decide), hm.ob]))
  refine codeAny_call_builtin S.slot.plain S.entry (@W.check_slot (model prog w) _ _ ⟨hp, g, d, t, os⟩ "object.__setattr__" "object" "__setattr__" (.ref e) [.str n tk, u] [] _ S.kind S.split sub (S.args (.ref e) (.str n tk) u) ?_)
  have l1 : W.Looks (model prog w) hp (mroOf (.ref C)) cd.mro := (W.looks_clsIn kin hc).andThen .now
  have l2 : W.Looks (model prog w) hp (storeTaker? none) none := .now
  have l3 : W.Looks (model prog w) hp (classData C) cd := W.looks_clsIn kin hc
  rw [W.osa_eq, refuse_eq]
  refine wpAny_bind (wpAny_bind (J.type.at (wpAny_bind (l1.at ?_))))
  rw [hm.pass]
  refine wpAny_pure (wpAny_bind (J.type.at (wpAny_bind ((W.looks_findIn kin nn).at (wpAny_bind (l2.at ?_))))))
  show wpAny _ _ (storeInOwnDict (.ref e) (.ref C) (.str n tk) n u false) _ _ _
  obtain ⟨c1, c2, c3, c4, c5, c6, c7, c8, c9, c10, c11⟩ := cd
  dsimp only at hd
  subst hd
  unfold storeInOwnDict ownDictForStores
  repeat (first | with_reducible refine store_in_new ?_ ?_ | with_reducible refine wpAny_loadPart_at he ?_ | with_reducible refine l3.at ?_ | wp_step)
  · exact ⟨_, #[], _, (Heap.get?_update_ne _ _ _ _ es.symm).trans (Heap.get?_push_at rfl rfl), rfl, fun x hx => absurd hx (by simp), fun _ => rfl⟩
  · intro h2 t2 hn hs
    have he1 : (hp.push { cls := .type "dict", data := .dict #[] }).get? e = some { cls := .ref C, data := .fields fv } := Heap.get?_push_of_some _ he
    refine k h2 t2 hp.objs.size (fun b o nb hb => ?_) (Nat.le_refl _) es.symm ?_ hn
    · exact (hs.2 b (Nat.ne_of_lt (Heap.lt_size hb))).trans ((Heap.get?_update_ne _ _ _ _ nb).trans (Heap.get?_push_of_some _ hb))
    · exact (hs.2 e es).trans (Heap.get?_update_self _ he1 rfl)
theorem put_more {y : Addr} {m0 : Str → Option Value} {nl : List Str} (kin : K.In hp) (he : hp.get? e = some { cls := .ref C, dict := some y, data := .fields fv }) (hy : hp.Ns1 y m0) (hw : Within m0 nl) (hz : nl.length ≤ 1000)
    (hc : W.clsIn K C = some cd) (hm : MroG cd.mro) (hd : cd.hasDict = true) (nn : W.findIn K (.ref C) n = some none)
    (k : ∀ h2 t2, (∀ b o, b ≠ y → hp.get? b = some o → h2.get? b = some o) → h2.Ns1 y (fun z => if z = n then some u else m0 z) → R (.ok (.ret .none)) ⟨h2, g, d, t2, os⟩) :
    codeAny (model prog w) A (.call (.builtin "object.__setattr__") ⟨[.ref e, .str n tk, u], []⟩) R ⟨hp, g, d, t, os⟩ := by
  obtain ⟨oD, _, _, hoD, _, _⟩ := hy.count hw
  have J : W.InstAt hp e { cls := .ref C, dict := some y, data := .fields fv } C (some oD) := ⟨he, rfl, rfl, hoD⟩
  have S := F.store_object
  have sub : W.Looks (model prog w) hp (isInstance (.ref e) (.type "object")) true := J.type.andThen (W.looks_mroIn kin (by unfold W.mroIn; rw [hc, Option.bind_some, if_neg (by rw [hm.ne]; decide), hm.ob]))
  refine codeAny_call_builtin S.slot.plain S.entry (@W.check_slot (model prog w) _ _ ⟨hp, g, d, t, os⟩ "object.__setattr__" "object" "__setattr__" (.ref e) [.str n tk, u] [] _ S.kind S.split sub (S.args (.ref e) (.str n tk) u) ?_)
  have l1 : W.Looks (model prog w) hp (mroOf (.ref C)) cd.mro := (W.looks_clsIn kin hc).andThen .now
  have l2 : W.Looks (model prog w) hp (storeTaker? none) none := .now
  have l3 : W.Looks (model prog w) hp (classData C) cd := W.looks_clsIn kin hc
  rw [W.osa_eq, refuse_eq]
  refine wpAny_bind (wpAny_bind (J.type.at (wpAny_bind (l1.at ?_))))
  rw [hm.pass]
  refine wpAny_pure (wpAny_bind (J.type.at (wpAny_bind ((W.looks_findIn kin nn).at (wpAny_bind (l2.at ?_))))))
  show wpAny _ _ (storeInOwnDict (.ref e) (.ref C) (.str n tk) n u false) _ _ _
  obtain ⟨c1, c2, c3, c4, c5, c6, c7, c8, c9, c10, c11⟩ := cd
  dsimp only at hd
  subst hd
  unfold storeInOwnDict ownDictForStores
  repeat (first | with_reducible refine PySem.OEX.store_in_old hy hw hz ?_ | with_reducible refine wpAny_loadPart_at he ?_ | with_reducible refine l3.at ?_ | wp_step)
  intro h2 t2 hn hs
  exact k h2 t2 (fun b o nb hb => (hs.2 b nb).trans hb) hn
end
end Ex
namespace Ex
open PySem PySem.Spec PyProof.Rows L2
/-- what the written part says of the class, for stores -/
structure OexS (K : PySem.W.Frag) (C : Addr) : Prop where
  cd : ∃ cd, PySem.W.clsIn K C = some cd ∧ MroG cd.mro ∧ cd.hasDict = true
  sa : PySem.W.findIn K (.ref C) "__setattr__" = some (some (.builtin "object.__setattr__"))
section
variable {X : Cx} {pins : List (Addr × Obj)} {σ : L2.St} {H : Hp} {s : Shared} {a C dx : Addr} {f : Str} {y : V} {u : Value} {fs : List (Str × V)} {Q : Unit → Shared → Prop} {E : Value → Shared → Prop} {A : Around}
theorem xst_first (T : OexS X.K C) (I : Inv X pins σ H s) (ha : H a = some (exo a C none)) (hno : PySem.W.findIn X.K (.ref C) f = some none) (ry : RelV y u)
    (h : ∀ dx s', H dx = none → dx ≠ a → Inv X pins σ (upd (upd H dx (exd dx [(f, y)])) a (exo a C (some dx))) s' → Q () s') : wpAny (model X.prog X.w) A (setAttr (.ref a) f u) Q E s := by
  obtain ⟨cd, hcl, hm, hd⟩ := T.cd
  obtain ⟨t1, ho⟩ := exo_at I.hok ha
  obtain ⟨hp, g, d, t, os⟩ := s
  refine PySem.W.set_plain I.kIn (ox := { cls := .ref C, dict := none, data := .fields #[.ref t1, .none, .none, .none, .bool false, .none] }) (od := none) ⟨ho, rfl, rfl, trivial⟩ T.sa ?_
  refine put_first I.kIn ho hcl hm hd hno fun h' tk' dx k dn dne hx hn => ?_
  have nD : H dx = none := I.hok.fresh dn
  have old : ∀ {b : Addr} {o : Obj}, hp.get? b = some o → b ≠ dx := fun {b o} q => Nat.ne_of_lt (Nat.lt_of_lt_of_le (Heap.lt_size q) dn)
  have other : ∀ {b : Addr}, H b = none → b ≠ a := fun {b} n z => by rw [z, ha] at n; cases n
  have U : Un X.fs [] H (upd (upd H dx (exd dx [(f, y)])) a (exo a C (some dx))) hp h' :=
    { keep := fun b o q n _ _ => k b o (other n) q
      slot := fun b o q n _ _ => ⟨o.slots, k b o (other n) q⟩
      free := fun b o q n _ => by rw [upd_ne (other n), upd_ne (old q)]; exact n
      there := fun b o q _ => by
        rcases Classical.em (b = a) with z | z
        · subst z
          exact ⟨_, hx⟩
        · exact ⟨o, k b o z q⟩
      tups := fun b xs q => by rw [upd_ne (at_ne ha q exo_tup), upd_ne (ne_of_none q nD)]; exact q
      frzs := fun b o v q => by rw [upd_ne (at_ne ha q exo_frz), upd_ne (ne_of_none q nD)]; exact q
      tbls := fun b ps q => ⟨#[], by rw [upd_ne (at_ne ha q exo_tbl), upd_ne (ne_of_none q nD), q]; simp⟩ }
  refine h dx _ nD dne (I.un (t' := tk') U fun b o q => ?_)
  rcases Classical.em (b = a) with z | hb
  · subst z
    rw [upd_same] at q
    cases q
    exact exo_ok hx
  · rw [upd_ne hb] at q
    rcases Classical.em (b = dx) with z | hb2
    · subst z
      rw [upd_same] at q
      cases q
      exact exd_ok hn (relO_put (fs := []) ry fun _ => True.intro)
    · rw [upd_ne hb2] at q
      refine (I.hok b o q).stay (fun c v hc z => k c v ?_ z) (fun c hc => by rw [upd_ne (at_ne ha hc exo_own), upd_ne (ne_of_none hc nD)]; exact hc) (fun c xs hc => by rw [upd_ne (at_ne ha hc exo_tup), upd_ne (ne_of_none hc nD)]; exact hc)
      rcases hc with hc | hc
      · rw [hc]; exact hb
      · exact at_ne ha hc exo_own
theorem xst_more (T : OexS X.K C) (I : Inv X pins σ H s) (ha : H a = some (exo a C (some dx))) (ed : H dx = some (exd dx fs)) (hl : fs.length ≤ 900) (hno : PySem.W.findIn X.K (.ref C) f = some none) (ry : RelV y u)
    (h : ∀ s', Inv X pins σ (upd H dx (exd dx ((f, y) :: fs))) s' → Q () s') : wpAny (model X.prog X.w) A (setAttr (.ref a) f u) Q E s := by
  obtain ⟨cd, hcl, hm, hd⟩ := T.cd
  obtain ⟨t1, ho⟩ := exo_at I.hok ha
  obtain ⟨mA, hns, rel⟩ := exd_at I.hok ed
  have hw := within_of rel
  obtain ⟨hp, g, d, t, os⟩ := s
  obtain ⟨oD, _, _, hoD, _, _⟩ := hns.count hw
  refine PySem.W.set_plain I.kIn (ox := { cls := .ref C, dict := some dx, data := .fields #[.ref t1, .none, .none, .none, .bool false, .none] }) (od := some oD) ⟨ho, rfl, rfl, hoD⟩ T.sa ?_
  refine put_more I.kIn ho hns hw (by rw [List.length_map]; omega) hcl hm hd hno fun h' tk' k hn => ?_
  obtain ⟨o1, _, _, e1, _⟩ := id hn
  exact h _ (I.write (t' := tk') (x := dx) (e := dx) (o := exd dx ((f, y) :: fs)) (by rw [ed]; exact True.intro) (.inl rfl) k ⟨o1, e1⟩ (exd_ok hn (relO_put ry rel)))
end
/-- self.f = e -/
def tXst (K : PySem.W.Frag) (f : Str) (to te : TE) : TS := fun D σ H => te σ H fun y H1 => to σ H1 fun x H2 => ∃ a C : Addr, x = .ref a ∧ OexS K C ∧ PySem.W.findIn K (.ref C) f = some none ∧
  ((H2 a = some (exo a C none) ∧ ∀ dx, H2 dx = none → dx ≠ a → D.nx σ (upd (upd H2 dx (exd dx [(f, y)])) a (exo a C (some dx)))) ∨
    ∃ (dx : Addr) (fs : List (Str × V)), H2 a = some (exo a C (some dx)) ∧ H2 dx = some (exd dx fs) ∧ fs.length ≤ 900 ∧ D.nx σ (upd H2 dx (exd dx ((f, y) :: fs))))
section
variable {X : Cx} {o e : Expr} {to te : TE} {f : Str} {p' pos : Pos}
theorem ps_xst (ho : PE X o to) (he : PE X e te) (hs : swapsWith e (some (.Attribute o f p')) pos.line X.env = pure false := by rfl) : PS X (.Assign [.Attribute o f p'] e pos) (tXst X.K f to te) := by
  refine ⟨fun pins s σ H D I h => ?_⟩
  refine plainObj_wpAny_Assign_Attribute (thn (he.run pins s σ H _ I h) fun v s1 ⟨y, H1, I1, r1, q1⟩ => thn (ho.run pins s1 σ H1 _ I1 q1) fun u s2 ⟨x, H2, I2, r2, a, C, ex, T, hno, q⟩ => ?_) hs
  subst ex
  obtain rfl : u = Value.ref a := r2
  rcases q with ⟨ea, q⟩ | ⟨dx, fs, ea, ed, hl, q⟩
  · exact xst_first T I2 ea hno r1 fun dx s' n ne J => ⟨σ, _, J, q dx n ne⟩
  · exact xst_more T I2 ea ed hl hno r1 fun s' J => ⟨σ, _, J, q⟩
end
/-! ### C() with an own __init__; C(e) without one; isinstance of an exception without a dict -/
/-- the class by the written part's word -/
theorem oexG_of {K : PySem.W.Frag} {C : Addr} {B newId initId : String} {bmB : List Value} (b : ExcBaseFacts B newId initId bmB) (q : PySem.W.excInitIn K C bmB newId = true) (hd : PySem.W.hasDictIn K C = true) (kC : PySem.W.keepIn K (.ref C) = true) : OexG K C B newId initId bmB := by
  refine ⟨b, ?_, kC⟩
  unfold PySem.W.excInitIn at q
  unfold PySem.W.hasDictIn PySem.W.clsIn at hd
  split at q
  · rename_i dd cd sl ho
    rw [ho] at hd
    split at q
    · rename_i C' bm k0 k1 k2 k3 n k5 hm hs
      simp only [Bool.and_eq_true, beq_iff_eq, Bool.not_eq_true'] at q
      obtain ⟨⟨⟨rfl, rfl⟩, hdel⟩, ht⟩ := q
      obtain ⟨nm, bs, mro, ns, qn, hd', sn, sub, ab, col, del⟩ := cd
      dsimp only at hm hdel
      subst hm hdel
      have e1 : hd' = true := by simpa using hd
      subst e1
      obtain ⟨l⟩ := sl
      simp only at hs
      subst hs
      exact ⟨nm, qn, ns, bs, bm, sn, sub, ab, col, dd, k0, k1, k2, k3, k5, ho, fun T => PySem.W.excTail_contains T _ ht⟩
    · cases q
  · cases q
theorem oexS_of {K : PySem.W.Frag} {C : Addr} {newId : String} {bmB : List Value} (p : ∀ self : Value, refuseLoop self "__setattr__" bmB = pure ()) (ob : bmB.contains (.type "object") = true) (q : PySem.W.excInitIn K C bmB newId = true) (hd : PySem.W.hasDictIn K C = true)
    (sa : PySem.W.findIn K (.ref C) "__setattr__" = some (some (.builtin "object.__setattr__"))) : OexS K C := by
  refine ⟨?_, sa⟩
  unfold PySem.W.excInitIn at q
  unfold PySem.W.hasDictIn at hd
  split at q
  · rename_i dd cd sl ho
    have ec : PySem.W.clsIn K C = some cd := by unfold PySem.W.clsIn; rw [ho]
    rw [ec] at hd
    split at q
    · rename_i C' bm k0 k1 k2 k3 n k5 hm hs
      simp only [Bool.and_eq_true, beq_iff_eq, Bool.not_eq_true'] at q
      obtain ⟨⟨⟨rfl, rfl⟩, hdel⟩, ht⟩ := q
      exact ⟨cd, ec, by rw [hm]; exact mroG_of p ob ht, by simpa using hd⟩
    · cases q
  · cases q
section
variable {X : Cx} {CX : CXT} {k : Nat} {C fI : Addr} {B newId initId : String} {bmB : List Value} {sp : Sp} {E : XK} {x : Str} {p pos : Pos}
theorem pe_oex0 (T : OexG X.K C B newId initId bmB) (iC : PySem.W.findIn X.K (.ref C) "__init__" = some (some (.ref fI))) (tI : PySem.W.typeIn X.K (.ref fI) = some (.type "function")) (F : FnR X.prog X.w X.K X.mg X.base CX k fI sp) (hr : Room (k + 1) X.A)
    (hx : Passes CX X E) (hg : Gl X x) (hm : X.mg x = some (.ref C)) (hdb : (x == ("__debug__" : Str)) = false := by decide) : PE X (.Call (.Name x p) [] [] pos) (fun _ H Q => ∀ a, H a = none → sp [.ref a] (upd H a (exo a C none)) (fun v H2 => v = .non ∧ Q (.ref a) H2) E) := by
  refine ⟨fun pins s σ H Q I h => ?_⟩
  obtain ⟨nm, q, N, bs, bm, sn, sub, ab, col, dd, k0, k1, k2, k3, k5, hC, hT⟩ := T.cls
  refine wpAny_Call_Name_kw (ld_glob I hg hm ?_ hdb)
  refine PySem.W.callWith_K0 I.kIn T.kC ?_
  obtain ⟨hp, g, dr, tk, os⟩ := s
  have up : hp.objs.size ≤ hp.objs.size + 1 := Nat.le_succ _
  have hq := h (hp.objs.size + 1) (I.hok.fresh up)
  have old : ∀ b o, hp.get? b = some o → ((hp.push (PySem.W.kdv_tup [])).push (PySem.HandSPX.excO C hp.objs.size)).get? b = some o := fun b o e => Heap.get?_push_of_some _ (Heap.get?_push_of_some _ e)
  have at_ : ((hp.push (PySem.W.kdv_tup [])).push (PySem.HandSPX.excO C hp.objs.size)).get? (hp.objs.size + 1) = some (PySem.HandSPX.excO C hp.objs.size) := by heap_get
  have I2 : Inv X pins σ (upd H (hp.objs.size + 1) (exo (hp.objs.size + 1) C none)) ⟨(hp.push (PySem.W.kdv_tup [])).push (PySem.HandSPX.excO C hp.objs.size), g, dr, tk, os⟩ :=
    I.laid (t' := tk) (a := hp.objs.size + 1) (o := exo (hp.objs.size + 1) C none) (h' := (hp.push (PySem.W.kdv_tup [])).push (PySem.HandSPX.excO C hp.objs.size)) old up (exo_ok at_)
  refine wpAny_call (PySem.HandSPX.call_own T.base hT (I.kIn _ _ hC) (PySem.W.looks_findIn I.kIn iC) (fun self => PySem.W.bind_fn I.kIn self tI) (Nat.zero_le _)
    (codeAny_mono (F _ X.stack _ _ [Value.ref (hp.objs.size + 1)] [V.ref (hp.objs.size + 1)] _ E (hr.make C [] []) (I2.env0.make C [] []) (.cons rfl .nil) hq) fun r s' z => ?_))
  cases r with
  | error er => exact hx pins σ _ _ er s' I2 z
  | ok fl =>
    cases fl with
    | ret u =>
      obtain ⟨v, H2, I3, rv, ev, q2⟩ := I2.after z
      subst ev
      exact ⟨rv, .ref (hp.objs.size + 1), H2, I3, rfl, q2⟩
    | next => exact False.elim z
    | brk => exact False.elim z
    | cont => exact False.elim z
end
end Ex
namespace Ex
open PySem PySem.Spec PyProof.Rows L2
section
variable {X : Cx} {pins : List (Addr × Obj)} {σ : L2.St} {H : Hp} {s : Shared} {a C : Addr} {h' : Heap} {t' : Nat}
/-- an exception without a dict, wherever it lies, is told from now on -/
theorem inv_exo (I : Inv X pins σ H s) (k : ∀ b o, s.heap.get? b = some o → h'.get? b = some o) (nw : s.heap.get? a = none) (ok : ObjOk X.prog X.w (upd H a (exo a C none)) h' a (exo a C none)) : Inv X pins σ (upd H a (exo a C none)) { s with heap := h', toks := t' } := by
  have na : H a = none := HOk.gone I.hok nw
  have old : ∀ {b : Addr} {o : Obj}, s.heap.get? b = some o → b ≠ a := fun {b o} q z => by rw [z, nw] at q; cases q
  have U : Un X.fs [] H (upd H a (exo a C none)) s.heap h' :=
    { keep := fun b o q n _ _ => k b o q
      slot := fun b o q n _ _ => ⟨o.slots, k b o q⟩
      free := fun b o q n _ => by rw [upd_ne (old q)]; exact n
      there := fun b o q _ => ⟨o, k b o q⟩
      tups := fun b xs q => by rw [upd_ne (ne_of_none q na)]; exact q
      frzs := fun b o v q => by rw [upd_ne (ne_of_none q na)]; exact q
      tbls := fun b ps q => ⟨#[], by rw [upd_ne (ne_of_none q na), q]; simp⟩ }
  obtain ⟨hp, g, d, t, os⟩ := s
  refine I.un (t' := t') U fun b o q => ?_
  rcases Classical.em (b = a) with z | hb
  · subst z
    rw [upd_same] at q
    cases q
    exact ok
  · rw [upd_ne hb] at q
    exact (I.hok b o q).stay (fun c v hc z => k c v z) (fun c hc => by rw [upd_ne (ne_of_none hc na)]; exact hc) (fun c xs hc => by rw [upd_ne (ne_of_none hc na)]; exact hc)
end
section
variable {X : Cx} {C : Addr} {bmB : List Value} {B newId initId : String}
/-- C("m") of an own class without an own __init__, as a value -/
theorem pe_oexP {x m : Str} {j : Nat} {p p2 pos : Pos} (F : ExcBaseFacts B newId initId bmB) (q : PySem.W.excIn X.K C bmB newId = true) (gC : X.mg x = some (.ref C)) (kC : PySem.W.keepIn X.K (.ref C) = true) (hg : Gl X x)
    (hdb : (x == ("__debug__" : Str)) = false := by decide) : PE X (.Call (.Name x p) [.Constant (.str m) j p2] [] pos) (fun _ H Q => ∀ a, H a = none → Q (.ref a) (upd H a (exo a C none))) := by
  refine ⟨fun pins s σ H Q I h => ?_⟩
  refine wpAny_Call_Name_kw (ld_glob I hg gC ?_ hdb)
  have ha : PA X [.Constant (.str m) j p2] (tCons (tC (.str m)) tNil) := pa_cons pe_str pa_nil
  refine PySem.W.callWith_K (h₀ := X.base) I.ok.mod.kin kC (thn (ha.run pos pins s σ H (fun vs H1 => vs = [V.str m] ∧ H = H1) I ⟨rfl, rfl⟩) fun us s1 hh => ?_)
  obtain ⟨vs, H1, I1, r1, ev, eH⟩ := hh
  subst ev
  rw [← eH] at I1
  refine ⟨I1.kIn, ?_⟩
  cases r1 with
  | cons ru rn =>
    rename_i u us'
    cases rn
    show wpAny _ _ (call (.ref C) [u]) _ _ _
    obtain ⟨bm, N, nm, qn, bs, hdct, sn, sub, ab, col, dd, k0, k1, k2, k3, k5, mN, hC, hN, hni, T⟩ := exc_obj I1.kIn q
    refine wpAny_call_exc_subT F T hC hN hni (fun h' e hm => ?_) (by show 1 ≤ sizeLine; rw [sizeLine_eq]; omega)
    obtain ⟨t, he, _, _⟩ := hm.there
    exact ⟨.ref e, _, inv_exo (t' := s1.toks) I1 hm.keeps hm.new (exo_ok he), rfl, h e (HOk.gone I1.hok hm.new)⟩
/-- isinstance(e, c), e without a dict -/
def rIsX0 (K : PySem.W.Frag) : List V → Hp → VK → Prop := fun xs H Q => ∃ (a D : Addr) (c : V) (u : Value) (b : Bool), xs = [.ref a, c] ∧ H a = some (exo a D none) ∧ ExcC K D ∧ (PySem.W.clsIn K D).isSome = true ∧ ClsV c u ∧ PySem.W.kitOne K (.ref D) u = some b ∧ Q (.bl b) H
theorem call_isX0 : CallR X (.builtin "isinstance") (rIsX0 X.K) := by
  intro pins s σ H xs us Q I r h
  obtain ⟨a, D, c, u, b, rfl, ha, T, hc, k, e, q⟩ := h
  obtain ⟨u1, u2, rfl, r1, r2⟩ := vals2 r
  obtain rfl : u1 = Value.ref a := r1
  have e2 := k.eq r2
  subst e2
  obtain ⟨t1, h1⟩ := exo_at I.hok ha
  have J : PySem.W.InstAt s.heap a _ D none := ⟨h1, rfl, rfl, trivial⟩
  exact PySem.W.kia_one (PySem.W.kitx_exc hc T.hg T.hk T.hs T.ha T.hn T.ht T.hm) I.kIn J e (by simp) fun tk => ⟨.bl b, H, I.tok tk, rfl, q⟩
end
theorem pe_exfK {X : Cx} {K : PySem.W.Frag} {e : Expr} {te : TE} {f : Str} {pos : Pos} (eK : X.K = K) (he : PE X e te) (hb : attributeBase e f X.env (eval e X.env) = eval e X.env := by rfl) : PE X (.Attribute e f pos) (tExf K f te) := eK ▸ pe_exf he hb
/-! ### an exception that stands: its class, its code, its one more attribute -/
/-- fs: what its dict has -/
def Xv (H : Hp) (x : V) (C : Addr) (fs : List (Str × V)) : Prop := ∃ a d, x = .ref a ∧ H a = some (exo a C (some d)) ∧ H d = some (exd d fs)
theorem Xv.same {H H' : Hp} {x : V} {C : Addr} {fs : List (Str × V)} (e : Same H H') (h : Xv H x C fs) : Xv H' x C fs := by
  obtain ⟨a, d, h1, h2, h3⟩ := h
  exact ⟨a, d, h1, e _ _ h2, e _ _ h3⟩
theorem exd_lst {e : Addr} {fs : List (Str × V)} {xs : List V} : exd e fs ≠ .lst xs := fun z => by
  have z' : HO.ext _ = HO.lst xs := z
  cases z'
theorem exo_lst {e C : Addr} {d : Option Addr} {xs : List V} : exo e C d ≠ .lst xs := fun z => by
  have z' : HO.ext _ = HO.lst xs := z
  cases z'
theorem Xv.mut {H : Hp} {x : V} {C r : Addr} {fs : List (Str × V)} {zs : List V} {o : HO} (h : Xv H x C fs) (hr : H r = some (.lst zs)) : Xv (upd H r o) x C fs := by
  obtain ⟨a, d, h1, h2, h3⟩ := h
  exact ⟨a, d, h1, (upd_ne (at_ne hr h2 (fun z => exo_lst z.symm))).trans h2, (upd_ne (at_ne hr h3 (fun z => exd_lst z.symm))).trans h3⟩
/-- __init__(self, v): self.f = v; self.code = nm -/
def spX (C : Addr) (f nm : Str) : Sp := fun vs H Q _ => ∃ a v, vs = [.ref a, v] ∧ H a = some (exo a C none) ∧ ∀ d H', H d = none → d ≠ a → (∀ b o, b ≠ a → H b = some o → H' b = some o) → H' a = some (exo a C (some d)) → H' d = some (exd d [("code", .str nm), (f, v)]) → Q .non H'
/-- __init__(self): self.code = nm -/
def spX0 (C : Addr) (nm : Str) : Sp := fun vs H Q _ => ∃ a, vs = [.ref a] ∧ H a = some (exo a C none) ∧ ∀ d H', H d = none → d ≠ a → (∀ b o, b ≠ a → H b = some o → H' b = some o) → H' a = some (exo a C (some d)) → H' d = some (exd d [("code", .str nm)]) → Q .non H'
/-- a caller of spX: what is told -/
theorem told1 {H1 : Hp} {C a : Addr} {f nm : Str} {v : V} {vs : List V} {R : Hp → Prop} {E : XK} (e : vs = [.ref a, v]) (na : H1 a = none) (k : ∀ H2, Same H1 H2 → Xv H2 (.ref a) C [("code", .str nm), (f, v)] → R H2) : spX C f nm vs (upd H1 a (exo a C none)) (fun w H2 => w = .non ∧ R H2) E :=
  ⟨a, v, e, upd_same, fun d H' nd da kp h1 h2 => ⟨rfl, k H' (fun b o e => kp b o (fun z => by rw [z, na] at e; cases e) ((upd_ne (fun z => by rw [z, na] at e; cases e)).trans e)) ⟨a, d, rfl, h1, h2⟩⟩⟩
theorem told0 {H1 : Hp} {C a : Addr} {nm : Str} {vs : List V} {R : Hp → Prop} {E : XK} (e : vs = [.ref a]) (na : H1 a = none) (k : ∀ H2, Same H1 H2 → Xv H2 (.ref a) C [("code", .str nm)] → R H2) : spX0 C nm vs (upd H1 a (exo a C none)) (fun w H2 => w = .non ∧ R H2) E :=
  ⟨a, e, upd_same, fun d H' nd da kp h1 h2 => ⟨rfl, k H' (fun b o e => kp b o (fun z => by rw [z, na] at e; cases e) ((upd_ne (fun z => by rw [z, na] at e; cases e)).trans e)) ⟨a, d, rfl, h1, h2⟩⟩⟩
end Ex
/-! ### try: body / except (A, B, C) as n: suite, where all that the body raises is caught -/
namespace Tr
open PySem PySem.Spec PyProof.Rows L2
theorem fly_keep {B h h' : Heap} {l : List Env} {a : Addr} {Z : Obj → Prop} (k : ∀ b o, h.get? b = some o → h'.get? b = some o) (x : HandSPX.FlyingZ B l a Z h) : HandSPX.FlyingZ B l a Z h' := by
  obtain ⟨k1, k2, k3, oe, vs, T, oT, ts, he, hz, hd, h1, hnT, hTe, hT, hdT, h3⟩ := x
  exact ⟨fun b o e => k _ _ (k1 b o e), k2, k3.of_keeps fun b o e _ => ⟨o, k b o e, rfl⟩, oe, vs, T, oT, ts, k _ _ he, hz, hd, h1, hnT, hTe, k _ _ hT, hdT, h3⟩
/-- what the clause wishes of an exception of the body -/
def wAsT (K : PySem.W.Frag) (n : Nat) (cs : List Value) (i : Nat) (ts : Addr → Value → Option Addr → TS) (D : Ends) : WX := fun cls d σ H => σ.length = n →
  PySem.W.exmAny K cls cs = some true ∧ ∀ a, H a = none → ts a cls d { nx := fun σ' H' => D.nx (σ'.set i none) H', rt := D.rt, bk := fun σ' H' => D.bk (σ'.set i none) H', ct := fun σ' H' => D.ct (σ'.set i none) H' } (σ.set i (some (.ref a))) H
section
variable {X : Cx} {x1 x2 x3 n : Str} {c1 c2 c3 : Value} {i kk : Nat} {body suite : List Stmt} {b₀ : Stmt} {p1 p2 p3 tp pos pos' : Pos} {tb : WX → TS} {ts : Addr → Value → Option Addr → TS}
theorem ps_try_as3 (hs : X.stack = X.env :: X.outer) (hf : X.env.frame = some X.env.locals) (hN : X.N.Nodup) (hi : X.N[i]? = some n) (hln : X.env.kindOf n = some .local) (hc1 : Names X x1 c1) (hc2 : Names X x2 c2) (hc3 : Names X x3 c3)
    (hb : ∀ (W : WX) (pn : List (Addr × Obj)) (xe : Value → Shared → Prop), Takes (X.tr pn xe) W → PassesOwn (model X.prog X.w) X.A X.env xe → PSs (X.tr pn xe) body (tb W))
    (hsu : ∀ (a : Addr) (oe : Obj) (cls : Value) (d : Option Addr) (pn : List (Addr × Obj)), Zc cls d oe → (∃ vs, oe.data = .fields vs) → PSs (X.suite a ((a, oe) :: pn)) (b₀ :: suite) (ts a cls d)) :
    PS X (.Try body [.ExceptHandler (some (.Tuple [.Name x1 p1, .Name x2 p2, .Name x3 p3] kk tp)) (some n) (b₀ :: suite) pos'] [] [] pos) (fun D σ H => tb (wAsT X.K X.N.length [c1, c2, c3] i ts D) D σ H) := by
  refine ⟨fun pins s σ H D I h => ?_⟩
  have ok := I.ok
  have frm : X.A.frames = some (X.env :: X.outer) := by rw [ok.frames, hs]
  have loc : Loc X.env.scope n := .inl hln
  refine wpAny_Try_except ?_
  refine wpAny_mono ((hb (wAsT X.K X.N.length [c1, c2, c3] i ts D) (X.pn ++ pins) (fun e s₁ => wpAny (model X.prog X.w) X.A (noteFrame e X.env) (fun _ s₂ => wpAny (model X.prog X.w) X.A (setFlight e none) (fun _ s₃ =>
    wpAny (model X.prog X.w) X.A (handleBy e X.env [.ExceptHandler (some (.Tuple [.Name x1 p1, .Name x2 p2, .Name x3 p3] kk tp)) (some n) (b₀ :: suite) pos']) (SP X pins D) X.xe s₃) X.xe s₂) X.xe s₁) (fun u s' xx => ?_) PassesOwn.looking).run [] s σ H D (I.toTry _) h) (fun f s1 hsp => ?_) (fun e s1 he => he)
  · obtain ⟨a, B, sI, pins', σ', H', cls, d, rfl, J', nb, up, sky, na, os, ag, hwish⟩ := xx
    obtain ⟨hb1, hyes⟩ := hwish J'.len
    have J : Inv X pins σ' H' sI := J'.ofTry ok
    have sky' : Sky B (X.env :: X.outer) a (Zc cls d) X.env.locals s'.heap := by rw [← hs]; exact sky
    show wpAny (model X.prog X.w) X.A (noteFrame (.ref a) X.env) _ _ _
    refine Sky.land Zc.steady frm hf sky' fun h3 fl3 up3 => ?_
    have J3 : Inv X pins σ' H' { s' with heap := h3 } := J.landed nb fl3.1 (up.trans up3) os ag
    obtain ⟨oe3, vs3, he3, hz3, hd3⟩ := fl3.there
    have notFr : ∀ {h : Heap} {o : Obj} {vs : Array Value}, h.FunFrames B (X.env :: X.outer) → h.get? a = some o → o.data = .fields vs → a ∉ frs (X.env :: X.outer) := fun {h o vs} ff e dd hm => by
      obtain ⟨_, o', e', hnf⟩ := ff.mem hm
      rw [e] at e'; cases e'
      exact hnf _ dd
    have nfr := notFr fl3.2.2.1 he3 hd3
    have nL : a ≠ X.env.locals := fun z => nfr (List.mem_filterMap.mpr ⟨X.env, List.mem_cons_self, by rw [hf, z]⟩)
    have nF : a ∉ X.fs := fun hm => by
      obtain ⟨e, he, q⟩ := List.mem_filterMap.mp hm
      exact nfr (List.mem_filterMap.mpr ⟨e, List.mem_cons_of_mem _ he, q⟩)
    have S3 := J3.suite he3 hd3 na nL nF
    refine wpAny_handleBy_cons (codeAny_handlers_test ?_) (by intro q; cases q)
    have test : ∀ {x : Str} {c : Value} {p : Pos} {Q : Value → Shared → Prop} {E : Value → Shared → Prop}, Names X x c → Q c { s' with heap := h3 } → wpAny (model X.prog X.w) (X.A.mark (some (.ref a))) (eval (.Name x p) X.env) Q E { s' with heap := h3 } := fun {x c p Q E} hc q => by
      obtain ⟨hg, hdbg, hm | ⟨hm, hv, hnn⟩⟩ := hc
      · exact ld_glob (X := X.suite a ((a, oe3) :: (X.pn ++ pins))) S3 hg hm q hdbg
      · exact ld_blt (X := X.suite a ((a, oe3) :: (X.pn ++ pins))) S3 hg hm hv q hnn hdbg
    refine wpAny_Tuple (wpAny_items_cons (test hc1 (wpAny_items_cons (test hc2 (wpAny_items_cons (test hc3 (wpAny_items_nil ⟨by size_fits, ?_⟩)))))))
    have kp : ∀ q o, h3.get? q = some o → (h3.push { cls := .type "tuple", data := .seq [c1, c2, c3].toArray }).get? q = some o := fun _ _ z => Heap.get?_push_of_some _ z
    have LT : PySem.W.Looks (model X.prog X.w) (h3.push { cls := .type "tuple", data := .seq [c1, c2, c3].toArray }) (typeOf (.ref a)) cls := fun A Q E s k q => wpAny_typeOf_ref (k _ _ (kp _ _ he3)) (by rw [hz3.1]; exact q)
    have LM := PySem.W.exm_tup3 (M := model X.prog X.w) (J3.kIn.keeps kp) LT (Heap.get?_push_size h3 rfl) hb1
    have flp := fly_keep kp fl3
    have upp : h3.UpToSlots (h3.push { cls := .type "tuple", data := .seq [c1, c2, c3].toArray }) := fun b o e _ => ⟨o.slots, kp b o e⟩
    refine LM.here ?_
    refine codeAny_handlers_suite_as ?_
    refine HandSPX.lands_againZ flp fun h4 fl4 up4 => ?_
    have J4 : Inv X pins σ' H' { s' with heap := h4 } := J.landed nb fl4.1 ((up.trans up3).trans (upp.trans up4)) os ag
    obtain ⟨oe4, vs4, he4, hz4, hd4⟩ := fl4.there
    have S4 := J4.suite he4 hd4 na nL nF
    refine store_ok (X := X.suite a ((a, oe4) :: (X.pn ++ pins))) (v := .ref a) S4 hN hi loc rfl (fun s5 S5 => ?_) (.inr hln)
    refine wpAny_mono ((hsu a oe4 cls d (X.pn ++ pins) hz4 ⟨_, hd4⟩).run [] s5 _ H' _ S5 (hyes a na)) (fun f s6 hsp => ?_) (fun _ _ z => False.elim z)
    have end_ : ∀ {σ6 : L2.St} {H6 : Hp} {Q : Shared → Prop}, Inv (X.suite a ((a, oe4) :: (X.pn ++ pins))) [] σ6 H6 s6 → (∀ s7, Inv X pins (σ6.set i none) H6 s7 → Q s7) →
        wpAny (model X.prog X.w) X.A (do bindName X.env n .none; unbindBehindTheSuite X.env n pos') (fun _ s7 => Q s7) X.xe s6 := fun {σ6 H6 Q} S6 hq => gone_ok (S6.unsuite ok) hN hi hln hq
    cases f with
    | next =>
      obtain ⟨σ6, H6, S6, q6⟩ := hsp
      exact end_ S6 fun s7 J7 => ⟨_, _, J7, q6⟩
    | brk =>
      obtain ⟨σ6, H6, S6, q6⟩ := hsp
      exact end_ S6 fun s7 J7 => ⟨_, _, J7, q6⟩
    | cont =>
      obtain ⟨σ6, H6, S6, q6⟩ := hsp
      exact end_ S6 fun s7 J7 => ⟨_, _, J7, q6⟩
    | ret u =>
      obtain ⟨v6, σ6, H6, S6, r6, q6⟩ := hsp
      exact end_ S6 fun s7 J7 => ⟨_, _, _, J7, r6, q6⟩
  · cases f with
    | next =>
      obtain ⟨σ', H', J', q⟩ := hsp
      exact wpAny_execs_nil ⟨σ', H', J'.ofTry ok, q⟩
    | brk =>
      obtain ⟨σ', H', J', q⟩ := hsp
      exact ⟨σ', H', J'.ofTry ok, q⟩
    | cont =>
      obtain ⟨σ', H', J', q⟩ := hsp
      exact ⟨σ', H', J'.ofTry ok, q⟩
    | ret u =>
      obtain ⟨v, σ', H', J', r, q⟩ := hsp
      exact ⟨v, σ', H', J'.ofTry ok, r, q⟩
end
end Tr
/-! ### defs called in an except suite, which are handed the exception that is at hand -/
namespace Ht
open PySem PySem.Spec PyProof.Rows L2 L2H
structure FnHp (P : Program) (w : World) (K : PySem.W.Frag) (mg : Str → Option Value) (base : Heap) (CX : CXT) (k : Nat) (f : Addr) (fd : FuncData) (ps : List Str) (sp : Addr × Obj → Sp) : Prop where
  len : ∀ p vs H Q E, sp p vs H Q E → vs.length = ps.length
  run : ∀ (A : Around) (outer : List Env) (s : Shared) (H : Hp) (args : Args) (us : List Value) (vs : List V) (Q : VK) (E : XK) (p : Addr × Obj), RoomH k A → PinOk outer H s p → Env0 P w K mg base A outer s H → BindsTo s fd args (ps.zip us) → Vals vs us → sp p vs H Q E →
    codeAny (model P w) A (.call (.ref f) args) (CR CX outer P w H s Q E) s
section
variable {CX : CXT} {P : Program} {w : World} {K : PySem.W.Frag} {mg : Str → Option Value} {base : Heap} {k : Nat} {f : Addr} {name qual : Str} {params : Arguments} {body : List Stmt} {scope : Scope} {dV kV doc pm cdv ct oc : Value} {an od : Option Addr} {osl : Array (Option Value)} {N ps : List Str} {sp : Addr × Obj → Sp}
theorem fn_hp (lk : K.lookup f = some ⟨oc, od, .func (PySem.W.fnOf name qual params body scope dV kV doc pm an cdv ct), osl⟩) (hcd : PySem.W.codeIn K cdv qual = true) (S : FnScope N ps scope) (len : ∀ p vs H Q E, sp p vs H Q E → vs.length = ps.length)
    (hbody : ∀ (A : Around) (outer : List Env) (s : Shared) (H : Hp) (vs : List V) (Q : VK) (E : XK) (p : Addr × Obj), RoomH k (A.deeper (envOfC qual scope s.heap.objs.size f cdv)) → sp p vs H Q E →
      ∃ t, PSs (cxH CX P w K mg base N qual scope f cdv A outer s H E p) body t ∧ t { nx := fun _ H' => Q .non H', rt := Q } (L2.start N vs) H) :
    FnHp P w K mg base CX (k + 1) f (PySem.W.fnOf name qual params body scope dV kV doc pm an cdv ct) ps sp := by
  refine ⟨len, fun A outer s H args us vs Q E p hr hpin e0 hb r hsp => ?_⟩
  have hl := len _ _ _ _ _ hsp
  have KX : K.In s.heap := e0.mod.kin.keeps fun b o e => (e0.bs b o e).1
  have lim : s.heap.NoLimit := e0.mod.nolimit.keeps fun b o e => (e0.bs b o e).1
  have kinds : ∀ y ∈ ps.zip us, scope.names.lookup y.1 = some .local ∨ (scope.names.lookup y.1 = some .cell ∧ ((cellsFrom (s.heap.objs.size + 1) scope.names []).lookup y.1).isSome = true) := fun ⟨n, v⟩ hy =>
    (S.par n (List.of_mem_zip hy).1).elim .inl fun q => .inr ⟨q, PySem.W.cellsFrom_some _ _ _ (.inl q)⟩
  refine codeAny_call_function hr.depth (KX _ _ lk) rfl S.co S.gen rfl (PySem.W.codeRec_of KX hcd) (hb _ _ _ _ ?_)
  refine wpAny_newFunctionEnv_cells S.kind kinds fun env he s1 x => ?_
  subst he
  refine ⟨lim.keeps x.toInCall.keep, codeAny_func ?_⟩
  obtain ⟨t, ht, hq⟩ := hbody A outer s H vs Q E p (hr.deeper _) hsp
  have I : Inv (cxH CX P w K mg base N qual scope f cdv A outer s H E p) [] (L2.start N vs) H s1 := inv_startH S hpin e0 hl r x
  refine wpAny_mono (ht.run [] s1 (L2.start N vs) H _ I hq) (fun fl s' hs => ?_) fun e s' hs => hs
  match fl, hs with
  | .ret u, ⟨v, σ', H', J, rv, q⟩ => exact ⟨v, H', J.os, J.bare, J.base, J.hok, rv, q⟩
  | .next, ⟨σ', H', J, q⟩ => exact ⟨.non, H', J.os, J.bare, J.base, J.hok, rfl, q⟩
  | .brk, ⟨_, _, _, q⟩ => exact False.elim q
  | .cont, ⟨_, _, _, q⟩ => exact False.elim q
end
section
variable {X : Cx} {CX : CXT} {k : Nat} {f : Addr} {fd : FuncData} {ps : List Str} {sp : Addr × Obj → Sp} {E : XK} {x : Str} {q pos : Pos} {e : Expr} {es : List Expr} {t : TA} {p : Addr × Obj}
/-- f(e, ..) in a suite at whose hand is p -/
theorem pe_callHp (F : FnHp X.prog X.w X.K X.mg X.base CX k f fd ps sp) (hr : RoomH k X.A) (hp : p ∈ X.pn) (hg : Gl X x) (hm : X.mg x = some (.ref f)) (hk : PySem.W.keepIn X.K (.ref f) = true) (hb : Binds X.K fd ps []) (hx : Passes CX X E)
    (ha : PA X (e :: es) t) (hdb : (x == ("__debug__" : Str)) = false := by decide) (he : starEach (e :: es) X.env = (false, eval e X.env) :: starEach es X.env := by rfl) (hpl : (backTo pos (starEach es X.env)).any (·.1) = false := by rfl) :
    PE X (.Call (.Name x q) (e :: es) [] pos) (fun σ H Q => t σ H fun vs H1 => sp p vs H1 Q E) := by
  refine ⟨fun pins s σ H Q I h => ?_⟩
  refine wpAny_Call_Name_kw (ld_glob I hg hm ?_ hdb)
  refine PySem.W.callWith_K (h₀ := X.base) I.ok.mod.kin hk (thn (ha.run pos pins s σ H _ I h) fun us s1 ⟨vs, H1, I1, r, q⟩ => ⟨I1.kIn, ?_⟩) he hpl
  have hl : us.length = ps.length := by rw [← r.length]; exact F.len _ _ _ _ _ q
  have b := hb s1 us I1.kIn (by rw [List.append_nil]; exact hl)
  rw [List.append_nil] at b
  have P1 := I1.pin p (List.mem_append_left _ hp)
  have hpin : PinOk X.stack H1 s1 p := ⟨P1.1, P1.2.1, fun hm => (List.mem_cons.mp (I1.stkSub p.1 hm)).elim P1.2.2.1 P1.2.2.2.1, P1.2.2.2.2⟩
  refine wpAny_call (codeAny_mono (F.run X.A X.stack s1 H1 ⟨us, []⟩ us vs Q E p hr hpin I1.env0 b r q) fun r s' hq => ?_)
  cases r with
  | error e => exact hx pins σ _ _ e s' I1 hq
  | ok fl =>
    cases fl with
    | ret u => exact I1.after hq
    | next => exact False.elim hq
    | brk => exact False.elim hq
    | cont => exact False.elim hq
/-- the reading of e.n, e the exception p that is at hand -/
def tXfQ (p : Addr × Obj) (K : PySem.W.Frag) (n : Str) (te : TE) : TE := fun σ H Q => te σ H fun x H1 => ∃ (C d : Addr) (fs : List (Str × V)) (v : V), x = .ref p.1 ∧ XfC K C ∧ PySem.W.findIn K (.ref C) n = some none ∧ Zc (.ref C) (some d) p.2 ∧ (∃ vs, p.2.data = .fields vs) ∧
  H1 d = some (.xd fs) ∧ fs.lookup n = some v ∧ Q v H1
theorem pe_xfQ {te : TE} {n : Str} (hp : p ∈ X.pn) (he : PE X e te) (hb : attributeBase e n X.env (eval e X.env) = eval e X.env := by rfl) : PE X (.Attribute e n pos) (tXfQ p X.K n te) := by
  refine ⟨fun pins s σ H Q I h => ?_⟩
  refine attr_of hb (thn (he.run pins s σ H _ I h) fun u s1 hh => ?_)
  obtain ⟨x, H1, I1, rx, C, dd, fs, v, ex, T, hno, hz, hf, ea, l, q⟩ := hh
  subst ex
  obtain rfl : u = Value.ref p.1 := rx
  obtain ⟨ha, _⟩ := I1.pin p (List.mem_append_left _ hp)
  obtain ⟨vs, hd⟩ := hf
  obtain ⟨mA, hns, hr⟩ := (show ObjOk X.prog X.w H1 s1.heap dd (.xd fs) from I1.hok dd _ ea)
  obtain ⟨od, ho, hl⟩ := lookIn_ns hns
  obtain ⟨u, hu, ru⟩ := RelO.some_of (v := v) (o := mA n) (by rw [← l]; exact hr n)
  have J : PySem.W.InstAt s1.heap p.1 p.2 C (some od) := ⟨ha, hz.1, by unfold PySem.W.notCls; rw [hd] <;> rfl, by rw [hz.2]; exact ho⟩
  exact HandSPX.exc_get I1.kIn J T.ga T.gg T.exC (PySem.W.findObj_own T.hdC hno rfl (by rw [hl, hu])) (handed_of ru) ⟨v, H1, I1.tok _, ru, q⟩
end
end Ht
/-! ### sorted over a tuple of pairs; bool() of an own instance; !=; a method by keywords -/
namespace R3
open PySem PySem.Spec PyProof.Rows L2 Srt Builtin
def rSortedTP (K : PySem.W.Frag) : List V → Hp → VK → Prop := fun vs H Q => ∃ (a : Addr) (xs : List V) (k : V → Int × Int), vs = [V.ref a] ∧ SqT K H a xs ∧ (∀ x ∈ xs, ∃ t, x = V.ref t ∧ H t = some (.tup [.int (k x).1, .int (k x).2])) ∧
  ∀ ys p, SrtO.Srtd (ltP k) ys → SrtO.Stb (ltP k) ys xs → H p = none → Q (.ref p) (upd H p (.lst ys))
section
variable {X : Cx}
theorem cr_sortedTP : CallR X (.builtin "sorted") (rSortedTP X.K) := by
  intro pins s σ H vs us Q I r h
  obtain ⟨a, xs, k, rfl, hs, hx, q⟩ := h
  obtain ⟨its, rv, pt, hz⟩ := I.tuple hs
  obtain ⟨u, rfl, ru⟩ := vals1 r
  obtain rfl : u = Value.ref a := ru
  obtain ⟨e1, e2⟩ := refs_back rv fun x m => by
    obtain ⟨t, e, _⟩ := hx x m
    exact ⟨t, e⟩
  obtain ⟨o, ho, hc, n, hd⟩ := pt
  have hz' : its.length ≤ sizeLine := by rw [← rv.length]; exact hz
  have hp : ∀ v ∈ its, IsPair s.heap v (k (backV v)).1 (k (backV v)).2 := fun v hv => by
    obtain ⟨t, rfl⟩ := e2 v hv
    have hm : V.ref t ∈ xs := by rw [e1]; exact List.mem_map.mpr ⟨_, hv, rfl⟩
    obtain ⟨t', e, ht⟩ := hx _ hm
    cases e
    obtain ⟨_, its2, r2, o, ho, hc, n, hd⟩ := I.hok _ _ ht
    obtain ⟨u1, u2, rfl, ri, rj⟩ := vals2 r2
    obtain ⟨t1, rfl⟩ := ri
    obtain ⟨t2, rfl⟩ := rj
    exact ⟨t, o, t1, t2, n, rfl, ho, hc, hd⟩
  refine Calls.call_function_entry kind_sorted plain_sorted entry_sorted (args_sorted1 _) ?_
  unfold Builtin.«sorted»
  refine wpAny_bind (m := checkCount "sorted" 1 1 _) (wpAny_pure ?_)
  refine wpAny_bind (wpAny_collect_seq a (.inr rfl) ho hc hd (fun h1 k1 => ?_) (by rw [List.size_toArray]; exact hz'))
  have I2 : Inv X pins σ H { s with heap := h1 } := I.kept (t' := s.toks) k1
  refine wpAny_bind (wpAny_newList ?_ (by rw [List.toList_toArray]; exact hz'))
  rw [List.toList_toArray]
  have hoL : (h1.push (seqObj "list" its.toArray 0)).get? h1.objs.size = some (seqObj "list" its.toArray 0) := Heap.get?_push_size _ rfl
  have kp : ∀ b u, h1.get? b = some u → (h1.push (seqObj "list" its.toArray 0)).get? b = some u := fun b u e => Heap.get?_push_of_some _ e
  refine wpAny_bind (wpAny_holding (wpAny_call_entry slot_list_sort ⟨_, hoL, rfl⟩ entry_list_sort
    (SrtO.list_sort_ord (s := { s with heap := h1.push (seqObj "list" its.toArray 0) }) (SrtO.swo_lex fun u => k (backV u)) hoL hz'
      (fun h2 => SrtO.pairs_sortableO (by omega) (fun v hm => (hp v hm).keeps fun b o e _ => kp b o (k1 b o e)) fun o e => by
        have e' : some o = some (seqObj "list" its.toArray 0) := e.symm.trans hoL
        cases e'
        intro c
        exact absurd (Value.type.inj c) (by decide)) fun out hs hb => ⟨_, rfl, ?_⟩) (args_list_sort _)))
  refine wpAny_pure ?_
  have h3 : ∀ u ∈ out, ∃ a, u = Value.ref a := fun u hu => e2 u (hb.perm.mem_iff.mp hu)
  have hb2 : SrtO.Stb (ltP k) (out.map backV) xs := by
    rw [e1]
    exact SrtO.Stb.map (ltP_swo k) backV hb
  obtain ⟨n2, hn2⟩ := sortedHeap_at (out := out.toArray) hoL
  have kk : ∀ b u, h1.get? b = some u → (sortedHeap (h1.push (seqObj "list" its.toArray 0)) h1.objs.size its out.toArray).get? b = some u := fun b u e => by
    have lt := Heap.lt_size e
    rw [sortedHeap_old (Nat.ne_of_lt lt) (by rw [size_push']; exact Nat.lt_succ_of_lt lt)]
    exact kp b u e
  exact ⟨_, rfl, .ref h1.objs.size, upd H h1.objs.size (.lst (out.map backV)), I2.laid (t' := s.toks) kk (Nat.le_refl _) ⟨by rw [hb2.len]; exact hz, out, n2, vals_back h3, hn2⟩, rfl, q _ _ (SrtO.srtd_map hs) hb2 (I2.hok.fresh (Nat.le_refl _))⟩
end
section
variable {prog : Program} {w : World} {A : Around} {E : Value → Shared → Prop} {s : Shared} {K : PySem.W.Frag} {x C f : Addr} {ox : Obj} {od : Option Obj} {h₀ : Heap} {L : Addr} {m : Str → Option Value} {tb b : Value}
theorem bool_in : MeetsIn prog w (Builtin.«bool.__new__» ⟨[.type "bool", .ref x], []⟩) (fun A R s => ∃ (K : PySem.W.Frag) (C f : Addr) (ox : Obj) (od : Option Obj), K.In s.heap ∧ PySem.W.InstAt s.heap x ox C od ∧
    PySem.W.findIn K (.ref C) "__bool__" = some (some (.ref f)) ∧ PySem.W.isFn K (.ref f) = true ∧ wpAny (model prog w) A.in1 (call (.ref f) [.ref x]) (fun v s' => ∃ c, v = .bool c ∧ R (.ok (.ret (.bool c))) s') (fun e s' => R (.error e) s') s) :=
  .of_wp fun A R s h => by
    obtain ⟨K, C, f, ox, od, X, I, hs, hf, hc⟩ := h
    have f1 := F.conv_sub_bool
    have tr : ∀ {Q : Bool → Shared → Prop}, (∀ c s', R (.ok (.ret (.bool c))) s' → Q c s') → wpAny (model prog w) A.in1 (truthy (.ref x)) Q (fun e s' => R (.error e) s') s := fun {Q} hQ => by
      unfold truthy
      refine wpAny_bind (m := callSpecial? (.ref x) (Str.ofString "__bool__")) (PySem.W.special_fn X I hs (beq_iff_eq.mp hf) (wpAny_mono hc (fun r s' hr => ?_) fun _ _ y => y))
      obtain ⟨c, rfl, hq⟩ := hr
      exact wpAny_pure (hQ c s' hq)
    unfold Builtin.«bool.__new__»
    refine wpAny_bind (wpAny_of_eq (a := true) (by kernel_rfl) ?_)
    refine PySem.W.KFB.if_not rfl ?_
    refine wpAny_bind (wpAny_of_eq (a := true) F.conv_sub_bool ?_)
    refine PySem.W.KFB.if_not rfl ?_
    refine wpAny_bind (m := someArgs "bool" 0 1 _) (wpAny_of_eq (a := ([.ref x] : List Value)) (by kernel_rfl) ?_)
    refine wpAny_bind (tr fun c s' hq => ?_)
    exact wpAny_pure ⟨_, rfl, hq⟩
theorem call_bool_own {Q : Value → Shared → Prop} (X : K.In s.heap) (I : PySem.W.InstAt s.heap x ox C od) (hs : PySem.W.findIn K (.ref C) "__bool__" = some (some (.ref f))) (hf : PySem.W.isFn K (.ref f) = true)
    (h : wpAny (model prog w) A.in1.in1 (call (.ref f) [.ref x]) (fun v s' => ∃ c, v = .bool c ∧ Q (.bool c) s') E s) : wpAny (model prog w) A (call (.type "bool") [.ref x]) Q E s := by
  refine callType_newIn F.called_bool F.newNe_bool (F.typeCall_bool_1 _) (F.newCall_bool_1 _) (fun obj => F.args_object_init_2 obj _) F.entry_bool_new bool_in ⟨K, C, f, ox, od, X, I, hs, hf, wpAny_mono h (fun v s' hv => ?_) fun _ _ e => e⟩
  obtain ⟨c, rfl, hq⟩ := hv
  exact ⟨c, rfl, PySem.typeIs_bool _ _, hq⟩
end
section
variable {X : Cx} {CX : CXT} {k : Nat} {f C : Addr} {sp : Sp} {E : XK}
def rBoolOwn (C : Addr) (sp : Sp) (E : XK) : List V → Hp → VK → Prop := fun xs H Q => ∃ a dx fs, xs = [V.ref a] ∧ H a = some (.ins C dx fs) ∧ sp [.ref a] H (fun v H' => ∃ c, v = .bl c ∧ Q v H') E
theorem call_boolOwn (hs : PySem.W.findIn X.K (.ref C) "__bool__" = some (some (.ref f))) (hf : PySem.W.isFn X.K (.ref f) = true) (F : FnR X.prog X.w X.K X.mg X.base CX k f sp) (hr : Room (k + 2) X.A) (hx : Passes CX X E) : CallR X (.type "bool") (rBoolOwn C sp E) := by
  intro pins s σ H xs us Q I r h
  obtain ⟨a, dx, fs, rfl, ha, q⟩ := h
  obtain ⟨u, rfl, ru⟩ := r.one
  cases (show u = Value.ref a from ru)
  obtain ⟨mA, O, _⟩ := ins_get I.hok ha
  obtain ⟨od, J, _⟩ := O.look
  have hr2 : Room k X.A.in1.in1 := (show Room (k + 1) X.A.in1 from Room.in1 hr).in1
  refine call_bool_own I.kIn J hs hf (wpAny_mono (wpAny_call (SlX.run_at (us := [.ref a]) (ws := [.ref a]) F hr2 I.env0.in1.in1 hx I (.cons rfl .nil) q)) (fun w s' z => ?_) fun _ _ x => x)
  obtain ⟨z', H', I', rz, c, ei, qz⟩ := z
  subst ei
  obtain rfl : w = Value.bool c := rz
  exact ⟨c, rfl, .bl c, H', I', rfl, qz⟩
end
section
variable {prog : Program} {w : World} {A : Around} {E : Value → Shared → Prop} {s : Shared} {K : PySem.W.Frag} {x C f : Addr} {ox : Obj} {od : Option Obj} {tb b : Value}
theorem ifBound_B {M : Model} {args : List Value} {name : Str} {id : String} {Q : Option Value → Shared → Prop} (X : K.In s.heap) (I : PySem.W.InstAt s.heap x ox C od) (hs : PySem.W.findIn K (.ref C) name = some (some (.builtin id))) (sb : ∀ self, bindSpecial (.builtin id) self = pure (.builtin id, [self]))
    (h : wpAny M A (call (.builtin id) (.ref x :: args)) (fun v => Q (some v)) E s) : wpAny M A (callSpecialIfBound? (.ref x) name args) Q E s := by
  simp only [callSpecialIfBound?, bindSpecialIfBound?]
  refine wpAny_holding (wpAny_bind (wpAny_bind (wpAny_bind (I.type.here ((PySem.W.looks_findIn X hs).here ?_)))))
  refine wpAny_bind (wpAny_askSetting (wpAny_ite ?_))
  have fin : wpAny M A (call (.builtin id) ([.ref x] ++ args) >>= fun v => pure (some v)) Q E s := wpAny_bind (wpAny_mono h (fun v s' h' => wpAny_pure h') fun _ _ h' => h')
  simp only [sb]
  split
  · exact wpAny_bind (wpAny_pure (wpAny_pure fin))
  · exact wpAny_tryCatch (wpAny_bind (wpAny_pure (wpAny_pure fin)))
theorem check_slot {M : Model} {id owner n : String} {rest : List Value} {Q : Unit → Shared → Prop} (hk : builtinKind id = some .slot) (hs : splitId id = some (owner, n)) (ha : argsOk id ⟨.ref x :: rest, []⟩)
    (X : K.In s.heap) (I : PySem.W.InstAt s.heap x ox C od) (ho : PySem.W.subIn K (.ref C) (.type owner) = some true) (hq : Q () s) : wpAny M A (checkBuiltinCall id ⟨.ref x :: rest, []⟩) Q E s := by
  simp only [checkBuiltinCall, hk, hs]
  refine wpAny_bind ?_
  unfold isInstance
  refine wpAny_bind (I.type.here ?_)
  refine (PySem.W.looks_subIn X ho).here ?_
  refine wpAny_bind (wpAny_pure ?_)
  cases hsig : Manifest.signature? id with
  | none => exact wpAny_pure hq
  | some sig =>
    simp only [argsOk, hsig] at ha
    have h2 : Bind.checkArgs id sig ⟨.ref x :: rest, []⟩ = pure () := ha
    show wpAny M A (Bind.checkArgs id sig ⟨.ref x :: rest, []⟩) Q E _
    rw [h2]; exact wpAny_pure hq
theorem ne_entry (hu : A.units < cLine) (X : K.In s.heap) (I : PySem.W.InstAt s.heap x ox C od) (he : PySem.W.findIn K (.ref C) "__eq__" = some (some (.ref f))) (hf : PySem.W.isFn K (.ref f) = true) {Q : Fin → Shared → Prop}
    (h : wpAny (model prog w) A (call (.ref f) [.ref x, b]) (fun v s' => ∃ c, v = .bool c ∧ Q (.done (.ret (.bool (!c)))) s') E s) :
    wpAny (model prog w) A (Builtin.«object.__ne__» ⟨[.ref x, b], []⟩) Q E s := by
  unfold Builtin.«object.__ne__»
  repeat (first
    | with_reducible refine wpAny_cRoomFor hu ?_
    | (refine wpAny_bind (m := callSpecialIfBound? (.ref x) (Str.ofString "__eq__") [b])
        (PySem.W.ifBound_K X I he hf (wpAny_mono h (fun r s' hr => by
          obtain ⟨c, rfl, hq⟩ := hr
          repeat (first | exact hq | exact wpAny_pure hq | exact wpAny_truthy_bool hq | (refine wpAny_bind (m := truthy (.bool _)) (wpAny_truthy_bool ?_)) | wp_step)) fun _ _ e => e)))
    | wp_step)
theorem ne_K {Q : Value → Shared → Prop} (hu : A.units + 1 < cLine) (X : K.In s.heap) (I : PySem.W.InstAt s.heap x ox C od) (hb : PySem.W.Looks (model prog w) s.heap (typeOf b) tb) (hn : PySem.W.notFirst K C tb = true)
    (hs : PySem.W.findIn K (.ref C) "__ne__" = some (some (.builtin "object.__ne__"))) (he : PySem.W.findIn K (.ref C) "__eq__" = some (some (.ref f))) (hf : PySem.W.isFn K (.ref f) = true) (ho : PySem.W.subIn K (.ref C) (.type "object") = some true)
    (h : wpAny (model prog w) A.in1 (call (.ref f) [.ref x, b]) (fun v s' => ∃ c, v = .bool c ∧ Q (.bool (!c)) s') E s) : wpAny (model prog w) A (richCompare .NotEq (.ref x) b) Q E s := by
  have one : wpAny (model prog w) A (tryCompare (.ref x) "__ne__" b) (fun r s' => ∃ v, r = some v ∧ Q v s') E s := by
    unfold tryCompare
    refine wpAny_bind (ifBound_B X I hs PySem.F.cmp_object.ne.bind (wpAny_call (codeAny_call_builtin PySem.F.cmp_object.ne.plain PySem.F.cmpEntry_ne (check_slot PySem.F.cmpKind_ne PySem.F.cmpSplit_ne (PySem.F.cmpArgs_ne _ _) X I ho
      (ne_entry (A := A.in1) hu X I he hf (wpAny_mono h (fun v s' hv => ?_) fun _ _ e => e))))))
    obtain ⟨c, rfl, hq⟩ := hv
    first | exact ⟨c, rfl, wpAny_pure ⟨_, rfl, hq⟩⟩ | exact ⟨c, rfl, wpAny_pure (wpAny_pure ⟨_, rfl, hq⟩)⟩ | exact ⟨c, rfl, ⟨_, rfl, hq⟩⟩
  unfold richCompare
  simp only [oneThing_ref]
  refine wpAny_holding (wpAny_bind (wpAny_cRoomFor (Nat.lt_of_succ_lt hu) ?_))
  rw [cmpInfo_NotEq]
  dsimp only
  refine wpAny_bind (I.type.here (wpAny_bind (hb.here ?_)))
  split
  · rename_i q
    have e : PySem.W.subIn K tb (.ref C) = some false := by
      rcases Bool.or_eq_true_iff.mp hn with e | e
      · rw [beq_iff_eq.mp e] at q; simp at q
      · exact beq_iff_eq.mp e
    refine wpAny_bind ((PySem.W.looks_subIn X e).here ?_)
    simp only [Bool.false_eq_true, if_false]
    refine wpAny_bind (wpAny_mono one (fun r s' z => ?_) fun _ _ e => e)
    obtain ⟨v, rfl, hq⟩ := z
    exact wpAny_pure hq
  · refine wpAny_bind (wpAny_pure ?_)
    simp only [Bool.false_eq_true, if_false]
    refine wpAny_bind (wpAny_mono one (fun r s' z => ?_) fun _ _ e => e)
    obtain ⟨v, rfl, hq⟩ := z
    exact wpAny_pure hq
end
section
variable {X : Cx} {CX : CXT} {k : Nat} {f C : Addr} {sp : Sp} {E : XK}
def rNeOwn (C : Addr) (sp : Sp) (E : XK) : R2 := fun x y H Q => ∃ a b dx dy fs gs, x = .ref a ∧ y = .ref b ∧ H a = some (.ins C dx fs) ∧ H b = some (.ins C dy gs) ∧ sp [.ref a, .ref b] H (fun v H' => ∃ c, v = .bl c ∧ Q (.bl (!c)) H') E
theorem op_ne_own (F : FnR X.prog X.w X.K X.mg X.base CX k f sp) (hr : Room (k + 1) X.A) (hx : Passes CX X E) (hs : PySem.W.findIn X.K (.ref C) "__ne__" = some (some (.builtin "object.__ne__"))) (he : PySem.W.findIn X.K (.ref C) "__eq__" = some (some (.ref f)))
    (hf : PySem.W.isFn X.K (.ref f) = true) (ho : PySem.W.subIn X.K (.ref C) (.type "object") = some true) : OpR X (compareOp .NotEq) (rNeOwn C sp E) := by
  intro pins s σ H x y v u Q I rx ry h
  obtain ⟨a, b, dx, dy, fs, gs, rfl, rfl, ha, hb, q⟩ := h
  obtain rfl : v = Value.ref a := rx
  obtain rfl : u = Value.ref b := ry
  obtain ⟨mA, O, _⟩ := ins_get I.hok ha
  obtain ⟨od, J, _⟩ := O.look
  obtain ⟨mB, O', _⟩ := ins_get I.hok hb
  obtain ⟨od', J', _⟩ := O'.look
  unfold compareOp
  refine ne_K (tb := .ref C) (Nat.lt_of_le_of_lt (by omega) hr.units) I.kIn J J'.type (by simp [PySem.W.notFirst]) hs he hf ho (wpAny_mono (wpAny_call (SlX.run_at (us := [.ref a, .ref b]) (ws := [.ref a, .ref b]) F (Room.in1 hr) I.env0.in1 hx I (.cons rfl (.cons rfl .nil)) q)) (fun w s' z => ?_) fun _ _ e => e)
  obtain ⟨z', H', I', rz, c, ei, qz⟩ := z
  subst ei
  obtain rfl : w = Value.bool c := rz
  exact ⟨c, rfl, .bl (!c), H', I', rfl, qz⟩
end
section
variable {X : Cx} {CX : CXT} {k : Nat} {C f : Addr} {m : Str} {fd : FuncData} {ps ks : List Str} {sp : Sp} {E : XK} {o : Expr} {ta : TE} {apos pos : Pos} {pl : Sem Bool} {kws : List Keyword} {tk : TA} {g : List Value → List Value → List Value} {gV : List V → List V → List V}
/-- o.m(k = e, ..) -/
def tMethN (C : Addr) (m : Str) (n : Nat) (sp : Sp) (gV : List V → List V → List V) (E : XK) (ta : TE) (tk : TA) : TE := fun σ H Q => ta σ H fun x H1 => ∃ a dx fs, x = .ref a ∧ H1 a = some (.ins C dx fs) ∧ fs.lookup m = none ∧ tk σ H1 fun zs H2 => zs.length = n ∧ sp (gV [x] zs) H2 Q E
theorem pe_methN0 (he : PE X o ta) (c : Cls X.K C) (hm : Meth X.K C m f) (F : FnOk X.prog X.w X.K X.mg X.base CX k f fd ps sp) (hr : Room k X.A) (hb : KBn X.K fd ps 1 ks g gV) (hx : Passes CX X E) (hkw : PK X kws tk)
    (hall : (backToKw pos (keywordEach kws X.env)).all (·.1.isSome) = true := by rfl) (hks : (backToKw pos (keywordEach kws X.env)).filterMap (·.1) = ks := by rfl)
    (hpl : ((backTo pos (starEach [] X.env)).any (·.1) || (backToKw pos (keywordEach kws X.env)).any (·.1.isNone)) = false := by rfl)
    (ht : eval (.Call (.Attribute o m apos) [] kws pos) X.env = (do
      let ov ← eval o X.env
      standAt apos.atName
      let (f, first) ← holding [ov] (getMethod ov m pl)
      callWith pos f first (backTo pos (starEach [] X.env)) (backToKw pos (keywordEach kws X.env))) := by rfl) :
    PE X (.Call (.Attribute o m apos) [] kws pos) (tMethN C m ks.length sp gV E ta tk) := by
  refine ⟨fun pins s σ H Q I h => ?_⟩
  refine PySem.W.methodCall_KW (pl := pl) (thn (he.run pins s σ H _ I h) fun u s1 ⟨x, H1, I1, rx, a, dx, fs, ex, ea, l, q⟩ => ?_) ht
  subst ex
  obtain rfl : u = Value.ref a := rx
  refine getmeth_ok I1 ea c hm l ?_
  refine PySem.W.callWith_KW0 (first := [.ref a]) (h₀ := X.base) I1.ok.mod.kin hm.kp hall (thn (hkw.run pos pins s1 σ H1 _ I1 q) fun ws s2 ⟨zs, H2, I2, rz, l2, q2⟩ => ⟨I2.kIn, ?_⟩) hpl
  rw [hks]
  exact run_fnN (us := [.ref a]) (vs := [.ref a]) F hr hb hx I2 (.cons rfl .nil) rz rfl l2 q2
end
end R3
/-! ### lambdas that lie in the ground: a ground as great as the state allows, and a lambda's promise over it -/
namespace Lg
open PySem PySem.Spec PyProof.Rows L2 LamX
/-- all of h that is neither told nor one of l -/
def grd (h : Heap) (H : Hp) (l : List Addr) : Heap := PySem.W.hideAll (hidT h H) l
theorem grd_get {h : Heap} {H : Hp} {l : List Addr} {b : Addr} {o : Obj} (e : h.get? b = some o) (n : H b = none) (nl : b ∉ l) : (grd h H l).get? b = some o := PySem.W.hideAll_get l (hidT_get e n) nl
theorem of_grd {h : Heap} {H : Hp} {l : List Addr} {b : Addr} {o : Obj} (e : (grd h H l).get? b = some o) : h.get? b = some o ∧ H b = none := of_hidT (PySem.W.of_hideAll l e)
theorem fun_not {h base : Heap} : ∀ {l : List Env}, h.FunFrames base l → ∀ b ∈ frs l, base.get? b = none
  | [], _, b, hb => by cases hb
  | e :: r, ⟨_, ⟨L, o, h1, h2, _⟩, h3⟩, b, hb => by
    have hb' : b ∈ (e :: r).filterMap (·.frame) := hb
    rw [List.filterMap_cons, h1] at hb'
    rcases List.mem_cons.mp hb' with q | q
    · rw [q]; exact h2
    · exact fun_not h3 b q
theorem fun_grd {h base G : Heap} {fs : List Addr} (hn : ∀ b ∈ fs, G.get? b = none) : ∀ {l : List Env}, (∀ b ∈ frs l, b ∈ fs) → h.FunFrames base l → h.FunFrames G l
  | [], _, _ => trivial
  | e :: r, hs, ⟨k, ⟨L, o, h1, _, h4, h5⟩, h3⟩ => by
    have m : ∀ b ∈ frs r, b ∈ frs (e :: r) := fun b hb => by
      show b ∈ (e :: r).filterMap (·.frame)
      rw [List.filterMap_cons, h1]
      exact .tail _ hb
    have mL : L ∈ frs (e :: r) := by
      show L ∈ (e :: r).filterMap (·.frame)
      rw [List.filterMap_cons, h1]
      exact .head _
    exact ⟨k, ⟨L, o, h1, hn L (hs L mL), h4, h5⟩, fun_grd hn (fun b hb => hs b (m b hb)) h3⟩
section
variable {P : Program} {w : World} {K : PySem.W.Frag} {mg : Str → Option Value} {base : Heap} {A : Around} {outer : List Env} {s : Shared} {H : Hp}
/-- the ground of a call may be all that is not told -/
theorem env0_grd (e : Env0 P w K mg base A outer s H) : Env0 P w K mg (grd s.heap H (frs outer)) A outer s H ∧ ∀ b o, base.get? b = some o → (grd s.heap H (frs outer)).get? b = some o := by
  have up : ∀ b o, base.get? b = some o → (grd s.heap H (frs outer)).get? b = some o := fun b o q => grd_get (e.bs b o q).1 (e.bs b o q).2 fun hm => by
    rw [fun_not e.funs b hm] at q
    cases q
  refine ⟨⟨e.frames, ⟨e.mod.kin.keeps up, e.mod.glob.keeps up, ?_, e.mod.nolimit.keeps up⟩, fun b o q => of_grd q, ?_, fun_grd (fun b hb => PySem.W.hideAll_none _ hb) (fun b hb => hb) e.funs, e.frf, e.hok, e.bare⟩, up⟩
  · obtain ⟨mb, q, r⟩ := e.mod.blt
    exact ⟨mb, q.keeps up, r⟩
  · show (PySem.W.hideAll (hidT s.heap H) (frs outer)).objs.size ≤ _
    rw [PySem.W.hideAll_size, hidT_size]
    exact Nat.le_refl _
end
section
variable {X : Cx} {base' : Heap} {σ : L2.St} {HZ : Hp} {s1 : Shared}
/-- X over another ground -/
abbrev over (X : Cx) (B : Heap) : Cx := { X with base := B }
end
/-! ### a lambda as a value: told from its making on -/
structure LF where
  qual : Str
  params : Arguments
  body : Expr
  scope : Scope
  cl : List (Str × Addr)
  dV : Value
  c : Addr
abbrev LF.obj (F : LF) (doc pm ctv : Value) : Obj := PySem.W.kdv_obj "<lambda>" F.qual F.params (.expr F.body) F.scope F.cl F.dV doc pm F.c ctv
/-- at f: the lambda F -/
def LamO (f : Addr) (F : LF) : HO := .ext fun h => ∃ doc pm ctv : Value, h.get? f = some (F.obj doc pm ctv)
/-- at t: the tuple of its one default, 0 -/
def TupE (t : Addr) : HO := .ext fun h => ∃ tk : Tok, h.get? t = some (PySem.W.kdv_tup [.int 0 tk])
section
variable {X : Cx} {pins : List (Addr × Obj)} {σ : L2.St} {H : Hp} {s : Shared}
theorem inv_lam {F : LF} {t' : Nat} {doc pm ctv : Value} (I : Inv X pins σ H s) : Inv X pins σ (upd H s.heap.objs.size (LamO s.heap.objs.size F)) { s with heap := s.heap.push (F.obj doc pm ctv), toks := t' } := by
  refine I.laid (a := s.heap.objs.size) (fun b u e => Heap.get?_push_of_some _ e) (Nat.le_refl _) ?_
  have e : (s.heap.push (F.obj doc pm ctv)).get? s.heap.objs.size = some (F.obj doc pm ctv) := Heap.get?_push_size _ rfl
  exact ⟨⟨doc, pm, ctv, e⟩, ⟨_, e⟩, fun h1 h2 ⟨d, p, t, z⟩ st => ⟨d, p, t, st _ z⟩⟩
theorem inv_tupE {tk : Tok} (I : Inv X pins σ H s) : Inv X pins σ (upd H s.heap.objs.size (TupE s.heap.objs.size)) { s with heap := s.heap.push (PySem.W.kdv_tup [.int 0 tk]) } := by
  refine I.laid (t' := s.toks) (a := s.heap.objs.size) (fun b u e => Heap.get?_push_of_some _ e) (Nat.le_refl _) ?_
  have e : (s.heap.push (PySem.W.kdv_tup [.int 0 tk])).get? s.heap.objs.size = some (PySem.W.kdv_tup [.int 0 tk]) := Heap.get?_push_size _ rfl
  exact ⟨⟨tk, e⟩, ⟨_, e⟩, fun h1 h2 ⟨t, z⟩ st => ⟨t, st _ z⟩⟩
/-- the code objects of the table at P -/
def CodesOf (ps : Array Value) (q : Str) (H : Hp) : Prop := ∀ (pos : Pos) (cv : Value), codeAmong pos ps.toList = some cv → ∃ c, cv = .ref c ∧ H c = some (CodeO c q)
/-- the state behind the making of a lambda at f, of the code object at c' -/
structure LamNew (P : Addr) (q : Str) (ps : Array Value) (F : LF) (f : Addr) (H H1 : Hp) : Prop where
  keep : ∀ b o, b ≠ P → H b = some o → H1 b = some o
  tab : ∃ ps1 : Array Value, H1 P = some (.tbl ps1) ∧ TriplesOk ps1.toList ∧ ∀ (pos : Pos) (cv : Value), codeAmong pos ps1.toList = some cv → codeAmong pos ps.toList = some cv ∨ cv = .ref F.c
  old : H F.c = none ∨ ∃ pos, codeAmong pos ps.toList = some (.ref F.c)
  nf : H f = none
  f : H1 f = some (LamO f F)
  c : H1 F.c = some (CodeO F.c q)
theorem lam_mk {c P : Addr} {params : Arguments} {body : Expr} {scope : Scope} {dV : Value} {pos : Pos} {ps : Array Value} {E : Value → Shared → Prop} {Q : Value → Shared → Prop} (I : Inv X pins σ H s) (TB : TabB X.base X.mg c P) (hcode : X.env.code = .ref c)
    (hP : H P = some (.tbl ps)) (ht : TriplesOk ps.toList) (ha : CodesOf ps (X.env.qual ++ "<lambda>") H) (hfree : ∀ y ∈ scope.names, y.2 = .free → ∃ c, X.env.cells.lookup y.1 = some c)
    (h : ∀ (f c' : Addr) (H1 : Hp) (s' : Shared), Inv X pins σ H1 s' → LamNew P (X.env.qual ++ "<lambda>") ps ⟨X.env.qual ++ "<lambda>", params, body, scope, cloFrom X.env.cells scope.names [], dV, c'⟩ f H H1 → Q (.ref f) s') :
    wpAny (model X.prog X.w) X.A (makeTail "<lambda>" (X.env.qual ++ "<lambda>") params (.expr body) scope X.env dV .none none pos pos.line) Q E s := by
  have bP : s.heap.BuiltinsAt X.mg P := TB.bm.keeps I.bk
  have hP' : s.heap.get? P = some { cls := .none, data := .fields ps } := I.hok P _ hP
  cases hc : codeAmong pos ps.toList with
  | none =>
    refine PySem.W.kdv_makeTail (mg := X.mg) (c := c) (P := P) (ps := ps) (closure_ok hfree) I.ok.glob (I.mod.glob.keeps I.bk) hcode (TB.code.keeps I.bk) hP' ht hc TB.gP bP fun c' ctv doc h' tk hx hge hlt hrec htb => ?_
    obtain ⟨c2, oc, vs, t, e2, hoc, hd, hv⟩ := hrec
    cases e2
    have nC : H c' = none := I.hok.fresh hge
    have I1 := inv_table (t' := tk) (more := #[rawInt pos.line, rawInt pos.col, .ref c']) (h' := h') I hP (fun b o hb e => hx b o hb e) htb hge ⟨oc, vs, t, hoc, hd, hv⟩
    have hE : ∀ b o, b ≠ P → H b = some o → (upd (upd H P (.tbl (ps ++ #[rawInt pos.line, rawInt pos.col, .ref c']))) c' (CodeO c' (X.env.qual ++ "<lambda>"))) b = some o := fun b o n e => by
      rw [upd_ne (ne_of_none e nC), upd_ne n]
      exact e
    have eL : (ps ++ #[rawInt pos.line, rawInt pos.col, .ref c']).toList = ps.toList ++ [rawInt pos.line, rawInt pos.col, .ref c'] := by simp
    have nF := I1.hok.fresh (Nat.le_refl _)
    have I2 := inv_lam (F := ⟨X.env.qual ++ "<lambda>", params, body, scope, cloFrom X.env.cells scope.names [], dV, c'⟩) (t' := tk) (doc := doc) (pm := (X.mg "__name__").getD .none) (ctv := ctv) I1
    have kF : ∀ b o, (upd (upd H P (.tbl (ps ++ #[rawInt pos.line, rawInt pos.col, .ref c']))) c' (CodeO c' (X.env.qual ++ "<lambda>"))) b = some o → (upd (upd (upd H P (.tbl (ps ++ #[rawInt pos.line, rawInt pos.col, .ref c']))) c' (CodeO c' (X.env.qual ++ "<lambda>"))) h'.objs.size (LamO h'.objs.size ⟨X.env.qual ++ "<lambda>", params, body, scope, cloFrom X.env.cells scope.names [], dV, c'⟩)) b = some o := fun b o e => (upd_ne (ne_of_none e nF)).trans e
    refine h h'.objs.size c' _ _ I2 ⟨fun b o n e => kF _ _ (hE b o n e), ⟨_, kF _ _ ((upd_ne (ne_of_none hP nC)).trans upd_same), by rw [eL]; exact PySem.TriplesOk_snoc _ _ _ _ ht, fun p' cv hcv => ?_⟩, .inl nC, I.hok.fresh (Nat.le_trans hge (Nat.le_of_lt hlt)), upd_same, kF _ _ upd_same⟩
    rw [eL] at hcv
    exact among_app _ ht hcv
  | some cv =>
    obtain ⟨c', e, hco⟩ := ha pos cv hc
    subst e
    refine PySem.W.kdv_makeTailHit (mg := X.mg) (c := c) (P := P) (ps := ps) (closure_ok hfree) I.ok.glob (I.mod.glob.keeps I.bk) hcode (TB.code.keeps I.bk) hP' ht hc bP fun ctv doc h' tk hx hsz => ?_
    have I1 : Inv X pins σ H { s with heap := h', toks := tk } := I.kept hx
    have nF : H h'.objs.size = none := I1.hok.fresh (Nat.le_refl _)
    have I2 := inv_lam (F := ⟨X.env.qual ++ "<lambda>", params, body, scope, cloFrom X.env.cells scope.names [], dV, c'⟩) (t' := tk) (doc := doc) (pm := (X.mg "__name__").getD .none) (ctv := ctv) I1
    refine h h'.objs.size c' _ _ I2 ⟨fun b o n e => (upd_ne (ne_of_none e nF)).trans e, ⟨ps, (upd_ne (ne_of_none hP nF)).trans hP, ht, fun p' cv hcv => .inl hcv⟩, .inr ⟨pos, hc⟩, nF, upd_same, (upd_ne (ne_of_none hco nF)).trans hco⟩
end
/-- the reading of a lambda: without defaults, or with one, 0 -/
def tLamW (P : Addr) (q : Str) (dft : Bool) (mk : Value → Addr → LF) : TE := fun _ H Q => ∃ ps : Array Value, H P = some (.tbl ps) ∧ TriplesOk ps.toList ∧ CodesOf ps q H ∧ ∀ (f c' : Addr) (dV : Value) (H0 H1 : Hp), (dft = false ∧ dV = .none ∧ H0 = H ∨ dft = true ∧ ∃ t, dV = .ref t ∧ H t = none ∧ H0 = upd H t (TupE t)) → LamNew P q ps (mk dV c') f H0 H1 → Q (.ref f) H1
section
variable {X : Cx}
theorem pe_lamW {c P : Addr} {params : Arguments} {body : Expr} {scope : Scope} {pos : Pos} (TB : TabB X.base X.mg c P) (hcode : X.env.code = .ref c)
    (hfr : ∀ y ∈ scope.names, y.2 = .free → X.env.scope.names.lookup y.1 = some .cell ∨ X.env.scope.names.lookup y.1 = some .free) (hdef : defaultsOf params X.env = ([], [])) : PE X (.Lambda params body scope pos) (tLamW P (X.env.qual ++ "<lambda>") false fun dV c' => ⟨X.env.qual ++ "<lambda>", params, body, scope, cloFrom X.env.cells scope.names [], dV, c'⟩) := by
  refine ⟨fun pins s σ H Q I h => ?_⟩
  obtain ⟨ps, hP, ht, ha, h⟩ := h
  have hfree : ∀ y ∈ scope.names, y.2 = .free → ∃ c, X.env.cells.lookup y.1 = some c := fun y hy e => (hfr y hy e).elim (fun z => I.ok.has _ (.inl z)) fun z => I.ok.has _ (.inr z)
  refine PySem.W.kla_eval hdef ?_
  rw [makeFunction_eq]
  simp only [List.zip_nil_right, List.filterMap_nil, List.isEmpty_nil, if_true, pure_bind]
  exact lam_mk I TB hcode hP ht ha hfree fun f c' H1 s' I1 N => ⟨.ref f, H1, I1, rfl, h f c' .none H H1 (.inl ⟨rfl, rfl, rfl⟩) N⟩
theorem pe_lamW1 {c P : Addr} {params : Arguments} {body e : Expr} {scope : Scope} {pos : Pos} (TB : TabB X.base X.mg c P) (hcode : X.env.code = .ref c)
    (hfr : ∀ y ∈ scope.names, y.2 = .free → X.env.scope.names.lookup y.1 = some .cell ∨ X.env.scope.names.lookup y.1 = some .free) (hds : params.defaults = [e]) (hk0 : params.kw_defaults = []) (he : PE X e (tC (.int 0))) :
    PE X (.Lambda params body scope pos) (tLamW P (X.env.qual ++ "<lambda>") true fun dV c' => ⟨X.env.qual ++ "<lambda>", params, body, scope, cloFrom X.env.cells scope.names [], dV, c'⟩) := by
  refine ⟨fun pins s σ H Q I h => ?_⟩
  obtain ⟨ps, hP, ht, ha, h⟩ := h
  have hfree : ∀ y ∈ scope.names, y.2 = .free → ∃ c, X.env.cells.lookup y.1 = some c := fun y hy e => (hfr y hy e).elim (fun z => I.ok.has _ (.inl z)) fun z => I.ok.has _ (.inr z)
  refine PySem.W.kdv_lam (by rw [hds]; rfl) hk0 ?_
  rw [hds]
  refine PySem.W.kdv_all1 (thn (he.run pins s σ H (fun v H1 => v = .int 0 ∧ H1 = H) I ⟨rfl, rfl⟩) fun u s1 ⟨v, H1, I1, r1, q1⟩ => PySem.W.kdv_all0 ?_)
  obtain ⟨rfl, rfl⟩ := q1
  obtain ⟨tk, rfl⟩ := r1
  rw [makeFunction_eq]
  simp only [List.zip_nil_right, List.filterMap_nil, List.isEmpty_nil, List.isEmpty_cons, if_true, pure_bind, Bool.false_eq_true, if_false]
  refine wpAny_bind (wpAny_newTextTuple ?_)
  have I2 := inv_tupE (tk := tk) I1
  have nt : H1 s1.heap.objs.size = none := I1.hok.fresh (Nat.le_refl _)
  exact lam_mk I2 TB hcode ((upd_ne (ne_of_none hP nt)).trans hP) ht (fun p cv hc => let ⟨c, e1, e2⟩ := ha p cv hc; ⟨c, e1, (upd_ne (ne_of_none e2 nt)).trans e2⟩) hfree fun f c' H2 s' I3 N => ⟨.ref f, H2, I3, rfl, h f c' (.ref s1.heap.objs.size) _ H2 (.inr ⟨rfl, _, rfl, nt, rfl⟩) N⟩
end
end Lg
/-! ### a def called over all that is not told: tracked things given back to the ground for the call -/
namespace Lg
open PySem PySem.Spec PyProof.Rows L2 LamX
def undo (H : Hp) (D : List Addr) : Hp := fun b => if b ∈ D then none else H b
def redo (H' H1 : Hp) (D : List Addr) : Hp := fun b => if b ∈ D then H1 b else H' b
theorem undo_in {H : Hp} {D : List Addr} {b : Addr} (h : b ∈ D) : undo H D b = none := if_pos h
theorem undo_out {H : Hp} {D : List Addr} {b : Addr} (h : b ∉ D) : undo H D b = H b := if_neg h
theorem undo_none {H : Hp} {D : List Addr} {b : Addr} (h : H b = none) : undo H D b = none := by
  by_cases m : b ∈ D
  · exact undo_in m
  · rw [undo_out m]; exact h
theorem redo_in {H' H1 : Hp} {D : List Addr} {b : Addr} (h : b ∈ D) : redo H' H1 D b = H1 b := if_pos h
theorem redo_out {H' H1 : Hp} {D : List Addr} {b : Addr} (h : b ∉ D) : redo H' H1 D b = H' b := if_neg h
def ExtD (H : Hp) (D : List Addr) : Prop := ∀ b ∈ D, ∃ φ, H b = some (.ext φ)
theorem ExtD.off {H : Hp} {D : List Addr} (d : ExtD H D) {b : Addr} {o : HO} (e : H b = some o) (n : ∀ φ, o ≠ .ext φ) : b ∉ D := fun m => by
  obtain ⟨φ, q⟩ := d b m
  rw [e] at q
  exact n φ (Option.some.inj q)
section
variable {P : Program} {w : World} {H H' : Hp} {D : List Addr} {h h' : Heap}
theorem hok_undo (hok : HOk P w H h) (d : ExtD H D) : HOk P w (undo H D) h := fun b o e => by
  by_cases m : b ∈ D
  · rw [undo_in m] at e; cases e
  · rw [undo_out m] at e
    exact (hok b o e).stay (fun c u _ q => q) (fun c hc => by rw [undo_out (d.off hc (fun φ z => by cases z))]; exact hc) (fun c xs hc => by rw [undo_out (d.off hc (fun φ z => by cases z))]; exact hc)
theorem hok_redo (hok1 : HOk P w H h) (hok : HOk P w H' h') (d : ExtD H D) (hn : ∀ b ∈ D, H' b = none) (kp : ∀ b ∈ D, ∀ o, h.get? b = some o → h'.get? b = some o) : HOk P w (redo H' H D) h' := fun b o e => by
  by_cases m : b ∈ D
  · rw [redo_in m] at e
    obtain ⟨φ, q⟩ := d b m
    rw [q] at e
    cases e
    obtain ⟨z1, ⟨ob, z2⟩, z3⟩ := (show _ from hok1 b _ q)
    exact ⟨z3 _ _ z1 (fun o hq => kp b m o hq), ⟨ob, kp b m _ z2⟩, z3⟩
  · rw [redo_out m] at e
    have off : ∀ {c : Addr} {o : HO}, H' c = some o → c ∉ D := fun {c o} hc mc => by rw [hn c mc] at hc; cases hc
    exact (hok b o e).stay (fun c u _ q => q) (fun c hc => by rw [redo_out (off hc)]; exact hc) (fun c xs hc => by rw [redo_out (off hc)]; exact hc)
end
/-- the names' cells lie in B, with their values -/
structure CelB (X : Cx) (B : Heap) (σ : L2.St) : Prop where
  ok : X.Ok
  cell : ∀ y c, X.env.cells.lookup y = some c → ∃ v, B.IsCell c v
  val : ∀ (i : Nat) (y : Str) (v : V), X.N[i]? = some y → σ[i]? = some (some v) → (X.env.scope.names.lookup y = some .cell ∨ X.env.scope.names.lookup y = some .free) → ∃ c u, X.env.cells.lookup y = some c ∧ RelV v u ∧ B.IsCell c (some u)
  len : σ.length = X.N.length
section
variable {X : Cx} {pins : List (Addr × Obj)} {σ : L2.St} {H : Hp} {s : Shared}
theorem cel_of (I : Inv X pins σ H s) (hcab : ∀ y c, X.env.cells.lookup y = some c → X.s_0.heap.objs.size ≤ c) {D : List Addr} : CelB X (grd s.heap (undo H D) (frs X.stack)) σ := by
  have nofr : ∀ y c, X.env.cells.lookup y = some c → ∀ v, s.heap.IsCell c v → c ∉ frs X.stack := fun y c e v ⟨o, ho, hd⟩ hm => by
    rcases List.mem_cons.mp (I.stkSub c hm) with q | q
    · obtain ⟨m, ⟨o2, es, ep, h2, d2, _⟩, _⟩ := I.loc
      rw [q, h2] at ho
      cases ho
      rw [hd] at d2
      cases d2
    · obtain ⟨_, o2, h2, _⟩ := I.ok.funs.mem q
      exact Nat.lt_irrefl _ (Nat.lt_of_lt_of_le (Heap.lt_size h2) (hcab y c e))
  have up : ∀ y c, X.env.cells.lookup y = some c → ∀ v, s.heap.IsCell c v → (grd s.heap (undo H D) (frs X.stack)).IsCell c v := fun y c e v hc => by
    have n := nofr y c e v hc
    obtain ⟨o, ho, hd⟩ := hc
    exact ⟨o, grd_get ho (undo_none (I.freeC y c e)) n, hd⟩
  refine ⟨I.ok, fun y c e => ?_, fun i y v e1 e2 hk => ?_, I.len⟩
  · obtain ⟨v, hv⟩ := I.cell y c e
    exact ⟨v, up y c e v hv⟩
  · obtain ⟨m, hn, hl⟩ := I.loc
    obtain ⟨u, r, q⟩ := hl i y v e1 e2 (hk.elim (fun z => .inr (.inl z)) (fun z => .inr (.inr z)))
    rcases q with ⟨k', _⟩ | ⟨_, c, e', z⟩
    · have k' : X.env.scope.names.lookup y = some .local := k'
      rcases hk with k2 | k2 <;> rw [k2] at k' <;> cases k'
    · exact ⟨c, u, e', r, up y c e' _ z⟩
end
def tCallG (X : Cx) (sp : Heap → Sp) (t : TA) : TE := fun σ H Q => t σ H fun vs H1 => ∃ D : List Addr, ExtD H1 D ∧ ∀ B : Heap, (∀ b ∈ D, ∀ φ, H1 b = some (.ext φ) → φ B) → CelB X B σ → (∀ b o, X.base.get? b = some o → B.get? b = some o) →
  sp B vs (undo H1 D) (fun v H' => (∀ b ∈ D, H' b = none) → Q v (redo H' H1 D)) (fun _ _ _ => False)
section
variable {X : Cx} {k : Nat} {f : Addr} {fd : FuncData} {ps : List Str} {sp : Heap → Sp} {x : Str} {p pos : Pos} {e : Expr} {es : List Expr} {t : TA}
/-- f(e, ..), what f promises told of the ground -/
theorem pe_callG (F : ∀ B : Heap, (∀ b o, X.base.get? b = some o → B.get? b = some o) → FnOk X.prog X.w X.K X.mg B CX0 k f fd ps (sp B)) (hcab : ∀ y c, X.env.cells.lookup y = some c → X.s_0.heap.objs.size ≤ c) (hr : Room k X.A) (hg : Gl X x) (hm : X.mg x = some (.ref f))
    (hk : PySem.W.keepIn X.K (.ref f) = true) (hb : Binds X.K fd ps []) (ha : PA X (e :: es) t) (hdb : (x == ("__debug__" : Str)) = false := by decide) (he : starEach (e :: es) X.env = (false, eval e X.env) :: starEach es X.env := by rfl) (hpl : (backTo pos (starEach es X.env)).any (·.1) = false := by rfl) :
    PE X (.Call (.Name x p) (e :: es) [] pos) (tCallG X sp t) := by
  refine ⟨fun pins s σ H Q I h => ?_⟩
  refine wpAny_Call_Name_kw (ld_glob I hg hm ?_ hdb)
  refine PySem.W.callWith_K (h₀ := X.base) I.ok.mod.kin hk (thn (ha.run pos pins s σ H _ I h) fun us s1 ⟨vs, H1, I1, r, D, hD, q⟩ => ⟨I1.kIn, ?_⟩) he hpl
  have e1 := I1.env0
  have e2 : Env0 X.prog X.w X.K X.mg X.base X.A X.stack s1 (undo H1 D) := ⟨e1.frames, e1.mod, fun b o z => ⟨(e1.bs b o z).1, undo_none (e1.bs b o z).2⟩, e1.bsz, e1.funs, fun b hb => undo_none (e1.frf b hb), hok_undo e1.hok hD, e1.bare⟩
  obtain ⟨e3, up⟩ := env0_grd e2
  have nfr : ∀ b ∈ D, b ∉ frs X.stack := fun b m hf => by
    obtain ⟨φ, z⟩ := hD b m
    rw [e1.frf b hf] at z
    cases z
  have hφ : ∀ b ∈ D, ∀ φ, H1 b = some (.ext φ) → φ (grd s1.heap (undo H1 D) (frs X.stack)) := fun b m φ z => by
    obtain ⟨z1, _, z3⟩ := (show _ from e1.hok b _ z)
    exact z3 _ _ z1 fun o ho => grd_get ho (undo_in m) (nfr b m)
  have hs := q _ hφ (cel_of I1 hcab) up
  have FB := F _ up
  have hl : us.length = ps.length := by rw [← r.length]; exact FB.len _ _ _ _ hs
  have b := hb s1 us I1.kIn (by rw [List.append_nil]; exact hl)
  rw [List.append_nil] at b
  refine wpAny_call (codeAny_mono (FB.run X.A X.stack s1 (undo H1 D) ⟨us, []⟩ us vs _ _ hr e3 b r hs) fun r s' hq => ?_)
  cases r with
  | error e => exact False.elim hq
  | ok fl =>
    cases fl with
    | ret u =>
      obtain ⟨v, H', os, bare, un, hok, rv, q2⟩ := hq
      have hn : ∀ b ∈ D, H' b = none := fun b m => by
        obtain ⟨φ, z⟩ := hD b m
        obtain ⟨_, ⟨o, ho⟩, _⟩ := (show _ from e1.hok b _ z)
        exact un.free b o ho (undo_in m) (by simp)
      have un2 : Un (frs X.stack) [] H1 (redo H' H1 D) s1.heap s'.heap :=
        { keep := fun b o z n h1 h2 => un.keep b o z (undo_none n) h1 h2
          slot := fun b o z n h1 h2 => un.slot b o z (undo_none n) h1 h2
          free := fun b o z n h2 => by
            have m : b ∉ D := fun m => by
              obtain ⟨φ, y⟩ := hD b m
              rw [n] at y
              cases y
            rw [redo_out m]
            exact un.free b o z (undo_none n) h2
          there := fun b o z h2 => un.there b o z h2
          tups := fun b xs z => by
            have m := hD.off z (fun φ y => by cases y)
            rw [redo_out m]
            exact un.tups b xs ((undo_out m).trans z)
          frzs := fun b o u z => by
            have m := hD.off z (fun φ y => by cases y)
            rw [redo_out m]
            exact un.frzs b o u ((undo_out m).trans z)
          tbls := fun b qs z => by
            have m := hD.off z (fun φ y => by cases y)
            rw [redo_out m]
            exact un.tbls b qs ((undo_out m).trans z) }
      exact I1.after ⟨v, redo H' H1 D, os, bare, un2, hok_redo e1.hok hok hD hn (fun b m o ho => un.keep b o ho (undo_in m) (nfr b m) (by simp)), rv, q2 hn⟩
    | next => exact False.elim hq
    | brk => exact False.elim hq
    | cont => exact False.elim hq
end
/-! ### a lambda in the ground, with or without a default -/
/-- its names: captured ones, globals, parameters that the maker does not know -/
structure LamS1 (sc scope : Scope) (N bs : List Str) : Prop where
  kind : scope.kind = .function
  co : scope.isCoroutine = false
  gen : scope.isGenerator = false
  nocell : ∀ y ∈ scope.names, y.2 ≠ .cell
  loc : ∀ y ∈ scope.names, y.2 = .local → y.1 ∉ N
  free : ∀ y ∈ scope.names, y.2 = .free → sc.names.lookup y.1 = some .cell ∨ sc.names.lookup y.1 = some .free
  bind : ∀ b ∈ bs, scope.names.lookup b = some .local
def lamS1B (sc scope : Scope) (N bs : List Str) : Bool :=
  decide (scope.kind = .function) && !scope.isCoroutine && !scope.isGenerator && (scope.names.all fun y => !decide (y.2 = .cell) && (!decide (y.2 = .local) || !decide (y.1 ∈ N)) && (!decide (y.2 = .free) || decide (sc.names.lookup y.1 = some .cell) || decide (sc.names.lookup y.1 = some .free))) && bs.all fun b => decide (scope.names.lookup b = some .local)
theorem lamS1_by {sc scope : Scope} {N bs : List Str} (h : lamS1B sc scope N bs = true) : LamS1 sc scope N bs := by
  unfold lamS1B at h
  simp only [Bool.and_eq_true, Bool.or_eq_true, Bool.not_eq_true', decide_eq_true_eq, decide_eq_false_iff_not, List.all_eq_true] at h
  obtain ⟨⟨⟨⟨h1, h2⟩, h3⟩, h4⟩, h5⟩ := h
  refine ⟨h1, h2, h3, fun y hy => (h4 y hy).1.1, fun y hy e => (h4 y hy).1.2.elim (fun z => absurd e z) id, fun y hy e => ?_, h5⟩
  rcases (h4 y hy).2 with (z | z) | z
  · exact absurd e z
  · exact .inl z
  · exact .inr z
/-- what the call of the lambda at f does, over the ground B -/
def LamB (P : Program) (w : World) (K : PySem.W.Frag) (mg : Str → Option Value) (B : Heap) (k : Nat) (f : Addr) (tl : XK → Hp → VK → Prop) : Prop :=
  (∃ (od : Option Addr) (fd : FuncData) (sl : Array (Option Value)), B.get? f = some (⟨.type "function", od, .func fd, sl⟩ : Obj)) ∧
  ∀ (A : Around) (outer : List Env) (s : Shared) (HZ : Hp) (Q : VK) (E : XK), Room k A → Env0 P w K mg B A outer s HZ → tl E HZ Q → codeAny (model P w) A (.call (.ref f) ⟨[], []⟩) (CR (L2.CX P w) outer P w HZ s Q E) s
section
variable {X : Cx} {B : Heap} {σ : L2.St} {HZ : Hp} {s1 : Shared}
theorem lam_startG {A : Around} {outer : List Env} {E : XK} {scope : Scope} {bs : List Str} {f c' : Addr} {h₁ : Heap} {tk : Nat} {m : Str → Option Value} (C : CelB X B σ) (L : LamS1 X.env.scope scope X.N bs) (e0 : Env0 X.prog X.w X.K X.mg B A outer s1 HZ) (hd : A.handled = none)
    (hns : h₁.Ns s1.heap.objs.size m) (kp : ∀ b o, s1.heap.get? b = some o → h₁.get? b = some o) :
    Inv (lamCx (over X B) A outer s1 HZ E scope f c') [] σ HZ { s1 with heap := h₁, toks := tk } := by
  have ok := C.ok
  have hfree : ∀ y ∈ scope.names, y.2 = .free → ∃ c, X.env.cells.lookup y.1 = some c := fun y hy e => (L.free y hy e).elim (fun z => ok.has _ (.inl z)) fun z => ok.has _ (.inr z)
  have cm : ∀ {y c}, (cloFrom X.env.cells scope.names []).lookup y = some c → X.env.cells.lookup y = some c := fun {y c} e => by
    rcases cloFrom_mem (PySem.mem_of_lookup e) with hm | ⟨h1, h2⟩
    · cases hm
    · obtain ⟨c1, hc⟩ := hfree _ h1 rfl
      have hc : X.env.cells.lookup y = some c1 := hc
      have e2 : c = c1 := by
        rw [h2, hc] <;> rfl
      rw [e2]
      exact hc
  have look : ∀ {y}, scope.names.lookup y = some .free → ∃ c, (cloFrom X.env.cells scope.names []).lookup y = some c := fun {y} hl => by
    have hy : (y, NameKind.free) ∈ scope.names := PySem.mem_of_lookup hl
    exact mem_lookup (cloFrom_has (cells := X.env.cells) (acc := []) hy)
  have cellK : ∀ {c : Addr} {v : Option Value}, B.IsCell c v → h₁.IsCell c v := fun {c v} ⟨o, ho, hd⟩ => ⟨_, kp _ _ (e0.bs _ _ ho).1, hd⟩
  have noA : ∀ b : Addr, b ∉ (lamCx (over X B) A outer s1 HZ E scope f c').ex := fun b z => absurd (show b ∈ ([] : List Addr) from z) (by simp)
  refine ⟨⟨e0.mod, L.kind, rfl, rfl, Nat.le_refl _, fun y z c e1 e2 => ok.inj y z c (cm e1) (cm e2), fun y hy => ?_, fun y c z _ => ?_, fun _ => hd, Around.frames_deeper e0.frames, .inr ⟨rfl, rfl⟩, fun b z => absurd z (noA b), e0.bs, e0.bsz, fun b _ _ => noA b,
      fun b z => absurd z (noA b), e0.funs, e0.frf⟩,
    rfl, e0.bare, Un.kept kp, ⟨_, hns, fun i y v e1 e2 e3 => ?_⟩, fun y c e => ?_, e0.hok.fresh (Nat.le_refl _), fun y c e => ?_, fun q hq => absurd (show q ∈ ([] : List (Addr × Obj)) ++ [] from hq) (by simp), e0.hok.kept kp, C.len⟩
  · have hy : scope.names.lookup y = some .cell ∨ scope.names.lookup y = some .free := hy
    rcases hy with hy | hy
    · exact absurd rfl (L.nocell _ (PySem.mem_of_lookup hy))
    · exact look hy
  · have z : false = true := z
    cases z
  · have e1 : X.N[i]? = some y := e1
    have e3 : Vis scope y := e3
    rcases e3 with k | k | k
    · exact absurd (List.mem_of_getElem? e1) (L.loc _ (PySem.mem_of_lookup k) rfl)
    · exact absurd rfl (L.nocell _ (PySem.mem_of_lookup k))
    · obtain ⟨c, u, h1, h2, h3⟩ := C.val i y v e1 e2 (L.free _ (PySem.mem_of_lookup k) rfl)
      obtain ⟨c2, h4⟩ := look k
      have h5 := cm h4
      rw [h1] at h5
      cases h5
      exact ⟨u, h2, .inr ⟨.inr k, c, h4, cellK h3⟩⟩
  · obtain ⟨v, h⟩ := C.cell y c (cm e)
    exact ⟨v, cellK h⟩
  · obtain ⟨v, o, ho, _⟩ := C.cell y c (cm e)
    exact (e0.bs c o ho).2
theorem lam_fnG {k : Nat} {f c' : Addr} {doc pm ctv dV : Value} {params : Arguments} {body : Expr} {scope : Scope} {t : XK → TE} {bs : List (Str × Value)} (C : CelB X B σ) (L : LamS1 X.env.scope scope X.N (bs.map (·.1)))
    (hf : B.get? f = some (LF.obj ⟨X.env.qual ++ "<lambda>", params, body, scope, cloFrom X.env.cells scope.names [], dV, c'⟩ doc pm ctv)) (hco : ∃ (oc : Obj) (vs : Array Value) (tk : Tok), B.get? c' = some oc ∧ oc.data = .fields vs ∧ vs[1]? = some (.str (X.env.qual ++ "<lambda>") tk))
    (hb : ∀ s : Shared, (∀ b o, B.get? b = some o → s.heap.get? b = some o) → BindsTo s (PySem.W.kdv_fn "<lambda>" (X.env.qual ++ "<lambda>") params (.expr body) scope (cloFrom X.env.cells scope.names []) dV doc pm (.ref c') ctv) ⟨[], []⟩ bs)
    (hbody : ∀ (A : Around) (outer : List Env) (s : Shared) (H : Hp) (E : XK), Room k (A.deeper (lamEnv (over X B) scope s.heap.objs.size f c')) → PE (lamCx (over X B) A outer s H E scope f c') body (t E)) :
    LamB X.prog X.w X.K X.mg B (k + 1) f (fun E H Q => t E σ H Q) := by
  refine ⟨⟨_, _, _, hf⟩, fun A outer s1 HZ Q E hr e0 ht => ?_⟩
  have of1 := (e0.bs _ _ hf).1
  obtain ⟨oc, vs, tk, hoc, hdc, hvc⟩ := hco
  have hoc1 := (e0.bs _ _ hoc).1
  have nolim : s1.heap.NoLimit := e0.mod.nolimit.keeps fun b o q => (e0.bs b o q).1
  refine PySem.W.kla_callFunE hr.depth of1 rfl L.co L.gen rfl ⟨c', oc, vs, tk, rfl, hoc1, hdc, hvc⟩ ?_
  refine hb s1 (fun b o q => (e0.bs b o q).1) _ _ _ _ ?_
  refine wpAny_newFunctionEnv (fun y hy => L.nocell y hy) (fun y hy => L.bind _ (List.mem_map_of_mem hy)) (fun h₁ hns hsb => ⟨nolim.fresh _ hsb, ?_⟩) L.kind
  show codeAny _ _ (.expr body (lamEnv X scope s1.heap.objs.size f c')) _ _
  have kp : ∀ b o, s1.heap.get? b = some o → h₁.get? b = some o := fun b o e => hsb.extBut b o (Nat.ne_of_lt (Heap.lt_size e)) (Heap.get?_push_of_some _ e)
  have J : Inv (lamCx (over X B) A outer s1 HZ E scope f c') [] σ HZ { s1 with heap := h₁, toks := s1.toks + bs.length } := lam_startG C L e0 hr.hd hns kp
  refine PySem.W.kla_codeExpr (wpAny_mono ((hbody _ _ s1 HZ E (hr.deeper _)).run [] _ _ HZ Q J ht) (fun v s' hq => ?_) fun e s' hq => hq)
  obtain ⟨w', H', J', rv, q⟩ := hq
  exact ⟨w', H', J'.os, J'.bare, J'.base, J'.hok, rv, q⟩
end
section
variable {Z : Cx} {k i : Nat} {f : Addr} {tl : XK → Hp → VK → Prop} {W : WX} {E : XK} {a : Str} {p1 p2 : Pos}
/-- x(), x a lambda in the ground -/
theorem pe_actB (LB : LamB Z.prog Z.w Z.K Z.mg Z.base k f tl) (hr : Room k Z.A) (tk : Takes Z W) (hW : ∀ cls d σ H, E cls d H → W cls d σ H) (hN : Z.N[i]? = some a) (hv : Vis Z.env.scope a) (hd : (a == ("__debug__" : Str)) = false := by decide) (hcd : (a == ("__classdict__" : Str)) = false := by decide) :
    PE Z (.Call (.Name a p1) [] [] p2) (fun σ H Q => σ[i]? = some (some (.ref f)) ∧ tl E H Q) := by
  refine ⟨fun pins s σ H Q I h => ?_⟩
  obtain ⟨hs, ht⟩ := h
  obtain ⟨⟨od, fd, sl, hf⟩, run⟩ := LB
  refine wpAny_Call_Name_kw (thn ((pe_var (pos := p1) (i := i) hN hv hd hcd).run pins s σ H (fun v H1 => v = .ref f ∧ H1 = H) I ⟨.ref f, hs, rfl, rfl⟩) fun u s1 ⟨v, H1, I1, r1, q1⟩ => ?_)
  obtain ⟨ev, eH⟩ := q1
  subst ev
  rw [eH] at I1
  obtain rfl : u = Value.ref f := r1
  refine PySem.W.callWith_F0 ⟨_, _, _, _, I1.bk _ _ hf⟩ ?_
  refine wpAny_call (codeAny_mono (run Z.A Z.stack s1 H Q E hr I1.env0 ht) fun r s' hq => ?_)
  cases r with
  | error e => exact passes_call tk hW pins σ H s1 e s' I1 hq
  | ok fl =>
    cases fl with
    | ret u => exact I1.after hq
    | next => exact False.elim hq
    | brk => exact False.elim hq
    | cont => exact False.elim hq
end
end Lg
/-! PL: values as trees, mutable things as cells; what a Python text does to them, without the heap -/
namespace PL
open PySem L2
/-- the class of that name -/
def clsAt (K : PySem.W.Frag) (c : Str) : Addr := match PySem.W.nsIn K mainGlobals c with
  | some (some (.ref C)) => C
  | _ => 0
theorem clsAt_of {K : PySem.W.Frag} {c : Str} {C : Addr} (h : PySem.W.nsIn K mainGlobals c = some (some (.ref C))) : clsAt K c = C := by
  unfold clsAt
  rw [h]
/-- a value as it stands for good; scr: the script -/
inductive D where
  | non | bl (b : Bool) | int (i : Int) | str (z : Str) | ty (n : String) | opq (a : Addr)
  | scr | cls (c : Str) | lst (xs : List D) | tup (xs : List D) | dic (kvs : List (Key × D)) | ins (c : Str) (fs : List (Str × D))
/-- a value: for good, or the k-th cell -/
inductive B where
  | fz (d : D) | mt (k : Nat)
/-- a lambda: what is written of it, the cells that it holds -/
structure LamD where
  qual : Str
  params : Arguments
  body : Expr
  scope : Scope
  cl : List (Str × Addr)
  dft : Bool
/-- what may still change; lams: a list of lambdas; tab: the table of code objects of a def that makes lambdas -/
inductive Cell where
  | lst (xs : List B) | dic (kvs : List (Key × B)) | ins (c : Str) (fs : List (Str × B)) | bag | dead | kset (P : Program) (wo : World) (T : Key → Bool) (n : Nat) | lams (Ls : List LamD) | tab (P : Addr) (q : Str)
abbrev Sto := List Cell
abbrev Ev := List (Option B)
mutual
inductive Den (K : PySem.W.Frag) (F : Hp) : D → V → Prop
  | non : Den K F .non .non
  | bl (b : Bool) : Den K F (.bl b) (.bl b)
  | int (i : Int) : Den K F (.int i) (.int i)
  | str (z : Str) : Den K F (.str z) (.str z)
  | ty (n : String) : Den K F (.ty n) (.ty n)
  | opq (a : Addr) : Den K F (.opq a) (.ref a)
  | scr {a : Addr} {ns : List Int} : SqL K F a (ns.map V.int) → ns.length ≤ 63 → Den K F .scr (.ref a)
  | cls (c : Str) : Den K F (.cls c) (.ref (clsAt K c))
  | lst {a : Addr} {ds : List D} {vs : List V} : F a = some (.lst vs) → DenL K F ds vs → Den K F (.lst ds) (.ref a)
  | tup {a : Addr} {ds : List D} {vs : List V} : SqT K F a vs → DenL K F ds vs → Den K F (.tup ds) (.ref a)
  | dic {a : Addr} {o : Obj} {ds : List (Key × D)} {vs : List (Key × V)} : F a = some (.frz o (.dK vs)) → DenK K F ds vs → Den K F (.dic ds) (.ref a)
  | ins {a dx : Addr} {c : Str} {ds : List (Str × D)} {vs : List (Str × V)} : F a = some (.ins (clsAt K c) dx vs) → DenF K F ds vs → Den K F (.ins c ds) (.ref a)
inductive DenL (K : PySem.W.Frag) (F : Hp) : List D → List V → Prop
  | nil : DenL K F [] []
  | cons {d : D} {v : V} {ds : List D} {vs : List V} : Den K F d v → DenL K F ds vs → DenL K F (d :: ds) (v :: vs)
inductive DenK (K : PySem.W.Frag) (F : Hp) : List (Key × D) → List (Key × V) → Prop
  | nil : DenK K F [] []
  | cons {k : Key} {d : D} {v : V} {ds : List (Key × D)} {vs : List (Key × V)} : Den K F d v → DenK K F ds vs → DenK K F ((k, d) :: ds) ((k, v) :: vs)
inductive DenF (K : PySem.W.Frag) (F : Hp) : List (Str × D) → List (Str × V) → Prop
  | nil : DenF K F [] []
  | cons {k : Str} {d : D} {v : V} {ds : List (Str × D)} {vs : List (Str × V)} : Den K F d v → DenF K F ds vs → DenF K F ((k, d) :: ds) ((k, v) :: vs)
end
theorem sqL_same {K : PySem.W.Frag} {F F' : Hp} (s : Same F F') {a : Addr} {xs : List V} (h : SqL K F a xs) : SqL K F' a xs := s.seq h
theorem sqT_same {K : PySem.W.Frag} {F F' : Hp} (s : Same F F') {a : Addr} {xs : List V} (h : SqT K F a xs) : SqT K F' a xs := by
  rcases h with (h | ⟨o, h⟩) | h
  · exact .inl (.inl (s _ _ h))
  · exact .inl (.inr ⟨o, s _ _ h⟩)
  · exact .inr h
section
variable {K : PySem.W.Frag} {F F' : Hp}
mutual
theorem Den.mono (s : Same F F') {d : D} {v : V} : Den K F d v → Den K F' d v
  | .non => .non
  | .bl b => .bl b
  | .int i => .int i
  | .str z => .str z
  | .ty n => .ty n
  | .opq a => .opq a
  | .scr h l => .scr (sqL_same s h) l
  | .cls c => .cls c
  | .lst h l => .lst (s _ _ h) (DenL.mono s l)
  | .tup h l => .tup (sqT_same s h) (DenL.mono s l)
  | .dic h l => .dic (s _ _ h) (DenK.mono s l)
  | .ins h l => .ins (s _ _ h) (DenF.mono s l)
theorem DenL.mono (s : Same F F') {ds : List D} {vs : List V} : DenL K F ds vs → DenL K F' ds vs
  | .nil => .nil
  | .cons h t => .cons (Den.mono s h) (DenL.mono s t)
theorem DenK.mono (s : Same F F') {ds : List (Key × D)} {vs : List (Key × V)} : DenK K F ds vs → DenK K F' ds vs
  | .nil => .nil
  | .cons h t => .cons (Den.mono s h) (DenK.mono s t)
theorem DenF.mono (s : Same F F') {ds : List (Str × D)} {vs : List (Str × V)} : DenF K F ds vs → DenF K F' ds vs
  | .nil => .nil
  | .cons h t => .cons (Den.mono s h) (DenF.mono s t)
end
theorem DenL.length : ∀ {ds : List D} {vs : List V}, DenL K F ds vs → ds.length = vs.length
  | _, _, .nil => rfl
  | _, _, .cons _ t => congrArg (· + 1) (DenL.length t)
theorem DenL.app : ∀ {ds es : List D} {vs ws : List V}, DenL K F ds vs → DenL K F es ws → DenL K F (ds ++ es) (vs ++ ws)
  | _, _, _, _, .nil, h => h
  | _, _, _, _, .cons a t, h => .cons a (DenL.app t h)
theorem DenL.get : ∀ {ds : List D} {vs : List V}, DenL K F ds vs → ∀ {i : Nat} {v : V}, vs[i]? = some v → ∃ d, ds[i]? = some d ∧ Den K F d v
  | _, _, .nil, _, _, e => by cases e
  | _, _, .cons a _, 0, _, e => ⟨_, rfl, by cases e; exact a⟩
  | _, _, .cons _ t, i + 1, _, e => DenL.get t (i := i) e
theorem DenL.getD : ∀ {ds : List D} {vs : List V}, DenL K F ds vs → ∀ {i : Nat} {d : D}, ds[i]? = some d → ∃ v, vs[i]? = some v ∧ Den K F d v
  | _, _, .nil, _, _, e => by cases e
  | _, _, .cons a _, 0, _, e => ⟨_, rfl, by cases e; exact a⟩
  | _, _, .cons _ t, i + 1, _, e => DenL.getD t (i := i) e
theorem DenL.drop : ∀ (n : Nat) {ds : List D} {vs : List V}, DenL K F ds vs → DenL K F (ds.drop n) (vs.drop n)
  | 0, _, _, h => h
  | _ + 1, _, _, .nil => .nil
  | n + 1, _, _, .cons _ t => DenL.drop n t
theorem DenL.take : ∀ (n : Nat) {ds : List D} {vs : List V}, DenL K F ds vs → DenL K F (ds.take n) (vs.take n)
  | 0, _, _, _ => .nil
  | _ + 1, _, _, .nil => .nil
  | n + 1, _, _, .cons a t => .cons a (DenL.take n t)
theorem DenL.rev : ∀ {ds : List D} {vs : List V}, DenL K F ds vs → DenL K F ds.reverse vs.reverse
  | _, _, .nil => .nil
  | _, _, .cons a t => by rw [List.reverse_cons, List.reverse_cons]; exact DenL.app (DenL.rev t) (.cons a .nil)
end
/-- the cells' addresses, what is for good, the heap -/
structure Wd where
  m : Nat → Addr
  F : Hp
  H : Hp
def DenB (K : PySem.W.Frag) (n : Nat) (w : Wd) : B → V → Prop
  | .fz d, v => Den K w.F d v
  | .mt k, v => k < n ∧ v = .ref (w.m k)
inductive DenBL (K : PySem.W.Frag) (n : Nat) (w : Wd) : List B → List V → Prop
  | nil : DenBL K n w [] []
  | cons {b : B} {v : V} {bs : List B} {vs : List V} : DenB K n w b v → DenBL K n w bs vs → DenBL K n w (b :: bs) (v :: vs)
inductive DenBK (K : PySem.W.Frag) (n : Nat) (w : Wd) : List (Key × B) → List (Key × V) → Prop
  | nil : DenBK K n w [] []
  | cons {k : Key} {b : B} {v : V} {bs : List (Key × B)} {vs : List (Key × V)} : DenB K n w b v → DenBK K n w bs vs → DenBK K n w ((k, b) :: bs) ((k, v) :: vs)
inductive DenBF (K : PySem.W.Frag) (n : Nat) (w : Wd) : List (Str × B) → List (Str × V) → Prop
  | nil : DenBF K n w [] []
  | cons {k : Str} {b : B} {v : V} {bs : List (Str × B)} {vs : List (Str × V)} : DenB K n w b v → DenBF K n w bs vs → DenBF K n w ((k, b) :: bs) ((k, v) :: vs)
/-- at f: that lambda -/
def LamFs (F : Hp) (f : Addr) (L : LamD) : Prop := ∃ (dV : Value) (c' : Addr), F f = some (Lg.LamO f ⟨L.qual, L.params, L.body, L.scope, L.cl, dV, c'⟩) ∧ F c' = some (LamX.CodeO c' L.qual) ∧ (L.dft = false ∧ dV = .none ∨ L.dft = true ∧ ∃ t, dV = .ref t ∧ F t = some (Lg.TupE t))
theorem LamFs.mono {F F' : Hp} (s : Same F F') {f : Addr} {L : LamD} : LamFs F f L → LamFs F' f L
  | ⟨dV, c', h1, h2, h3⟩ => ⟨dV, c', s _ _ h1, s _ _ h2, h3.imp id fun ⟨z, t, e, h⟩ => ⟨z, t, e, s _ _ h⟩⟩
def CellOk (K : PySem.W.Frag) (n : Nat) (w : Wd) (a : Addr) : Cell → Prop
  | .lst bs => ∃ vs, w.H a = some (.lst vs) ∧ DenBL K n w bs vs
  | .dic bs => ∃ vs, w.H a = some (.dK vs) ∧ DenBK K n w bs vs
  | .ins c bs => ∃ dx vs, w.H a = some (.ins (clsAt K c) dx vs) ∧ DenBF K n w bs vs
  | .bag => ∃ (q : Addr) (cells : List Int) (i : Nat) (b s c : Int), w.H a = some (.lst [.ref q, .int (i : Nat), .int b, .int s, .int c]) ∧ w.F q = some (.lst (cells.map V.int)) ∧ cells.length ≤ 63 ∧ i ≤ cells.length ∧ 0 ≤ b ∧ 0 ≤ s ∧ s < 2147483579
  | .dead => True
  | .kset P wo T n => w.H a = some (SetK P wo a T n)
  | .lams Ls => ∃ fs : List Addr, w.H a = some (.lst (fs.map V.ref)) ∧ Paired (LamFs w.F) fs Ls
  | .tab P q => a = P ∧ ∃ ps : Array Value, w.H a = some (.tbl ps) ∧ PySem.TriplesOk ps.toList ∧ Lg.CodesOf ps q w.F
/-- the entry: the heap without the cells that came along, what was for good, their addresses -/
structure Base where
  H0 : Hp
  F0 : Hp
  m0 : Nat → Addr
  n0 : Nat
structure Live (K : PySem.W.Frag) (n : Nat) (w : Wd) (H0 : Hp) (a : Addr) (c : Cell) : Prop where
  nf : w.F a = none
  n0 : H0 a = none
  ok : CellOk K n w a c
structure Rel (K : PySem.W.Frag) (β : Base) (S : Sto) (w : Wd) : Prop where
  fr : Same w.F w.H
  keep : Same β.H0 w.H
  f0 : Same β.F0 w.F
  fn : ∀ a o, w.F a = some o → β.F0 a = some o ∨ β.H0 a = none
  m0 : ∀ k, k < β.n0 → w.m k = β.m0 k
  n0 : β.n0 ≤ S.length
  live : ∀ k c, S[k]? = some c → c ≠ .dead → Live K S.length w β.H0 (w.m k) c
  inj : ∀ i j ci cj, S[i]? = some ci → S[j]? = some cj → ci ≠ .dead → cj ≠ .dead → w.m i = w.m j → i = j
structure Later (n : Nat) (w : Wd) (n' : Nat) (w' : Wd) : Prop where
  le : n ≤ n'
  m : ∀ k, k < n → w'.m k = w.m k
  F : Same w.F w'.F
theorem Later.refl (n : Nat) (w : Wd) : Later n w n w := ⟨Nat.le_refl _, fun _ _ => rfl, .refl _⟩
theorem Later.trans {n n1 n2 : Nat} {w w1 w2 : Wd} (a : Later n w n1 w1) (b : Later n1 w1 n2 w2) : Later n w n2 w2 :=
  ⟨Nat.le_trans a.le b.le, fun k h => (b.m k (Nat.lt_of_lt_of_le h a.le)).trans (a.m k h), a.F.trans b.F⟩
section
variable {K : PySem.W.Frag} {n n' : Nat} {w w' : Wd}
theorem DenB.later (l : Later n w n' w') {b : B} {v : V} (h : DenB K n w b v) : DenB K n' w' b v := by
  cases b with
  | fz d => exact Den.mono l.F h
  | mt k => exact ⟨Nat.lt_of_lt_of_le h.1 l.le, by rw [l.m k h.1]; exact h.2⟩
theorem DenBL.later (l : Later n w n' w') : ∀ {bs : List B} {vs : List V}, DenBL K n w bs vs → DenBL K n' w' bs vs
  | _, _, .nil => .nil
  | _, _, .cons h t => .cons (h.later l) (DenBL.later l t)
theorem DenBK.later (l : Later n w n' w') : ∀ {bs : List (Key × B)} {vs : List (Key × V)}, DenBK K n w bs vs → DenBK K n' w' bs vs
  | _, _, .nil => .nil
  | _, _, .cons h t => .cons (h.later l) (DenBK.later l t)
theorem DenBF.later (l : Later n w n' w') : ∀ {bs : List (Str × B)} {vs : List (Str × V)}, DenBF K n w bs vs → DenBF K n' w' bs vs
  | _, _, .nil => .nil
  | _, _, .cons h t => .cons (h.later l) (DenBF.later l t)
theorem DenBL.length : ∀ {bs : List B} {vs : List V}, DenBL K n w bs vs → bs.length = vs.length
  | _, _, .nil => rfl
  | _, _, .cons _ t => congrArg (· + 1) (DenBL.length t)
theorem DenBL.app : ∀ {bs cs : List B} {vs us : List V}, DenBL K n w bs vs → DenBL K n w cs us → DenBL K n w (bs ++ cs) (vs ++ us)
  | _, _, _, _, .nil, h => h
  | _, _, _, _, .cons a t, h => .cons a (DenBL.app t h)
theorem DenBL.get : ∀ {bs : List B} {vs : List V}, DenBL K n w bs vs → ∀ {i : Nat} {b : B}, bs[i]? = some b → ∃ v, vs[i]? = some v ∧ DenB K n w b v
  | _, _, .nil, _, _, e => by cases e
  | _, _, .cons a _, 0, _, e => ⟨_, rfl, by cases e; exact a⟩
  | _, _, .cons _ t, i + 1, _, e => DenBL.get t (i := i) e
theorem DenBL.set {b : B} {v : V} (h : DenB K n w b v) : ∀ (i : Nat) {bs : List B} {vs : List V}, DenBL K n w bs vs → DenBL K n w (bs.set i b) (vs.set i v)
  | _, _, _, .nil => .nil
  | 0, _, _, .cons _ t => .cons h t
  | i + 1, _, _, .cons a t => .cons a (DenBL.set h i t)
/-- all for good -/
theorem DenBL.fz : ∀ {ds : List D} {vs : List V}, DenBL K n w (ds.map B.fz) vs → DenL K w.F ds vs
  | [], _, .nil => .nil
  | _ :: _, _, .cons h t => .cons h (DenBL.fz t)
theorem DenL.bz : ∀ {ds : List D} {vs : List V}, DenL K w.F ds vs → DenBL K n w (ds.map B.fz) vs
  | _, _, .nil => .nil
  | _, _, .cons h t => .cons h (DenL.bz t)
theorem DenBK.fz : ∀ {ds : List (Key × D)} {vs : List (Key × V)}, DenBK K n w (ds.map fun p => (p.1, B.fz p.2)) vs → DenK K w.F ds vs
  | [], _, .nil => .nil
  | _ :: _, _, .cons h t => .cons h (DenBK.fz t)
theorem DenBF.fz : ∀ {ds : List (Str × D)} {vs : List (Str × V)}, DenBF K n w (ds.map fun p => (p.1, B.fz p.2)) vs → DenF K w.F ds vs
  | [], _, .nil => .nil
  | _ :: _, _, .cons h t => .cons h (DenBF.fz t)
end
section
variable {K : PySem.W.Frag} {β : Base} {S : Sto} {w : Wd}
theorem CellOk.later {n n' : Nat} {w w' : Wd} {a : Addr} {c : Cell} (l : Later n w n' w') (e : w'.H a = w.H a) (h : CellOk K n w a c) : CellOk K n' w' a c := by
  cases c with
  | lst bs => obtain ⟨vs, h1, h2⟩ := h; exact ⟨vs, e.trans h1, h2.later l⟩
  | dic bs => obtain ⟨vs, h1, h2⟩ := h; exact ⟨vs, e.trans h1, h2.later l⟩
  | ins C bs => obtain ⟨dx, vs, h1, h2⟩ := h; exact ⟨dx, vs, e.trans h1, h2.later l⟩
  | bag => obtain ⟨q, cells, i, b, s, c, h1, h2, h3⟩ := h; exact ⟨q, cells, i, b, s, c, e.trans h1, l.F _ _ h2, h3⟩
  | dead => trivial
  | kset P wo T n => exact e.trans h
  | lams Ls => obtain ⟨fs, h1, h2⟩ := h; exact ⟨fs, e.trans h1, L2.Paired.mapP h2 fun _ _ q => q.mono l.F⟩
  | tab P q => obtain ⟨ea, ps, h1, h2, h3⟩ := h; exact ⟨ea, ps, e.trans h1, h2, fun pos cv hc => let ⟨c, e1, e2⟩ := h3 pos cv hc; ⟨c, e1, l.F _ _ e2⟩⟩
theorem CellOk.some {n : Nat} {w : Wd} {a : Addr} {c : Cell} (h : CellOk K n w a c) (hd : c ≠ .dead) : ∃ o, w.H a = some o := by
  cases c with
  | lst bs => obtain ⟨vs, h1, _⟩ := h; exact ⟨_, h1⟩
  | dic bs => obtain ⟨vs, h1, _⟩ := h; exact ⟨_, h1⟩
  | ins C bs => obtain ⟨dx, vs, h1, _⟩ := h; exact ⟨_, h1⟩
  | bag => obtain ⟨q, cells, i, b, s, c, h1, _⟩ := h; exact ⟨_, h1⟩
  | dead => exact absurd rfl hd
  | kset P wo T n => exact ⟨_, h⟩
  | lams Ls => obtain ⟨fs, h1, _⟩ := h; exact ⟨_, h1⟩
  | tab P q => obtain ⟨_, ps, h1, _⟩ := h; exact ⟨_, h1⟩
/-- a new thing for good -/
theorem Rel.newF (R : Rel K β S w) {p : Addr} (hp : w.H p = none) (o : HO) : Rel K β S ⟨w.m, upd w.F p o, upd w.H p o⟩ ∧ Later S.length w S.length ⟨w.m, upd w.F p o, upd w.H p o⟩ := by
  have hF : w.F p = none := R.fr.free hp
  have lt : Later S.length w S.length ⟨w.m, upd w.F p o, upd w.H p o⟩ := ⟨Nat.le_refl _, fun _ _ => rfl, fun b u h => (upd_ne (ne_of_none h hF)).trans h⟩
  refine ⟨⟨fun b u h => ?_, fun b u h => (upd_ne (ne_of_none (R.keep _ _ h) hp)).trans (R.keep _ _ h), fun b u h => (upd_ne (ne_of_none (R.f0 _ _ h) hF)).trans (R.f0 _ _ h), fun b u h => ?_, R.m0, R.n0, fun k c h hc => ?_, R.inj⟩, lt⟩
  · by_cases e : b = p
    · subst e
      have h : upd w.F b o b = some u := h
      rw [upd_same] at h
      exact h ▸ upd_same
    · exact (upd_ne e).trans (R.fr _ _ ((upd_ne e).symm.trans h))
  · by_cases e : b = p
    · subst e
      exact .inr (R.keep.free hp)
    · exact R.fn _ _ ((upd_ne e).symm.trans h)
  · have L := R.live k c h hc
    obtain ⟨u, hu⟩ := L.ok.some hc
    have ne : w.m k ≠ p := ne_of_none hu hp
    exact ⟨(upd_ne ne).trans L.nf, L.n0, L.ok.later lt (upd_ne ne)⟩
/-- a new cell -/
theorem Rel.newC (R : Rel K β S w) {p : Addr} (hp : w.H p = none) (o : HO) {c : Cell} (hc : CellOk K S.length ⟨w.m, w.F, upd w.H p o⟩ p c) (hk : c ≠ .dead → True := by intro _; trivial) :
    Rel K β (S ++ [c]) ⟨fun k => if k = S.length then p else w.m k, w.F, upd w.H p o⟩ ∧ Later S.length w (S ++ [c]).length ⟨fun k => if k = S.length then p else w.m k, w.F, upd w.H p o⟩ := by
  have hF : w.F p = none := R.fr.free hp
  have lt : Later S.length w (S ++ [c]).length ⟨fun k => if k = S.length then p else w.m k, w.F, upd w.H p o⟩ :=
    ⟨by rw [List.length_append]; exact Nat.le_add_right _ _, fun k h => if_neg (Nat.ne_of_lt h), .refl _⟩
  have lt2 : Later S.length ⟨w.m, w.F, upd w.H p o⟩ (S ++ [c]).length ⟨fun k => if k = S.length then p else w.m k, w.F, upd w.H p o⟩ := ⟨lt.le, lt.m, .refl _⟩
  have nk : ∀ {k : Nat} {c' : Cell}, S[k]? = some c' → c' ≠ .dead → w.m k ≠ p := fun h hc' => by
    obtain ⟨u, hu⟩ := (R.live _ _ h hc').ok.some hc'
    exact ne_of_none hu hp
  have get : ∀ {k : Nat} {c' : Cell}, (S ++ [c])[k]? = some c' → (k < S.length ∧ S[k]? = some c') ∨ (k = S.length ∧ c' = c) := fun {k c'} h => by
    by_cases e : k < S.length
    · rw [List.getElem?_append_left e] at h
      exact .inl ⟨e, h⟩
    · rw [List.getElem?_append_right (Nat.le_of_not_lt e)] at h
      by_cases e2 : k - S.length = 0
      · rw [e2] at h
        cases h
        exact .inr ⟨by omega, rfl⟩
      · rw [List.getElem?_eq_none (by simp only [List.length_cons, List.length_nil]; omega)] at h
        cases h
  refine ⟨⟨fun b u h => (upd_ne (ne_of_none (R.fr _ _ h) hp)).trans (R.fr _ _ h), fun b u h => (upd_ne (ne_of_none (R.keep _ _ h) hp)).trans (R.keep _ _ h), R.f0, R.fn, fun k h => ?_, Nat.le_trans R.n0 lt.le, fun k c' h hc' => ?_, fun i j ci cj hi hj di dj e => ?_⟩, lt⟩
  · exact (if_neg (Nat.ne_of_lt (Nat.lt_of_lt_of_le h R.n0))).trans (R.m0 k h)
  · rcases get h with ⟨e, h⟩ | ⟨e, rfl⟩
    · have L := R.live k c' h hc'
      have em : (if k = S.length then p else w.m k) = w.m k := if_neg (Nat.ne_of_lt e)
      show Live K _ _ _ (if k = S.length then p else w.m k) c'
      rw [em]
      exact ⟨L.nf, L.n0, L.ok.later lt (upd_ne (nk h hc'))⟩
    · have em : (if k = S.length then p else w.m k) = p := if_pos e
      show Live K _ _ _ (if k = S.length then p else w.m k) c'
      rw [em]
      exact ⟨hF, R.keep.free hp, hc.later lt2 rfl⟩
  · rcases get hi with ⟨li, hi'⟩ | ⟨li, ei⟩ <;> rcases get hj with ⟨lj, hj'⟩ | ⟨lj, ej⟩
    · exact R.inj i j ci cj hi' hj' di dj (by have e : (if i = S.length then p else w.m i) = (if j = S.length then p else w.m j) := e; rw [if_neg (Nat.ne_of_lt li), if_neg (Nat.ne_of_lt lj)] at e; exact e)
    · have e : (if i = S.length then p else w.m i) = (if j = S.length then p else w.m j) := e
      rw [if_neg (Nat.ne_of_lt li), if_pos lj] at e
      exact absurd e (nk hi' di)
    · have e : (if i = S.length then p else w.m i) = (if j = S.length then p else w.m j) := e
      rw [if_pos li, if_neg (Nat.ne_of_lt lj)] at e
      exact absurd e.symm (nk hj' dj)
    · exact li.trans lj.symm
theorem ne_dead {c : Cell} (h : c = .dead → False) : c ≠ .dead := h
/-- a cell changes -/
theorem Rel.setC (R : Rel K β S w) {k : Nat} {c c' : Cell} (hk : S[k]? = some c) (hd : c ≠ .dead) {o : HO} (hc : CellOk K S.length ⟨w.m, w.F, upd w.H (w.m k) o⟩ (w.m k) c') :
    Rel K β (S.set k c') ⟨w.m, w.F, upd w.H (w.m k) o⟩ ∧ Later S.length w (S.set k c').length ⟨w.m, w.F, upd w.H (w.m k) o⟩ := by
  have L0 := R.live k c hk hd
  have lt : Later S.length w S.length ⟨w.m, w.F, upd w.H (w.m k) o⟩ := ⟨Nat.le_refl _, fun _ _ => rfl, .refl _⟩
  have get : ∀ {i : Nat} {ci : Cell}, (S.set k c')[i]? = some ci → (i = k ∧ ci = c') ∨ (i ≠ k ∧ S[i]? = some ci) := fun {i ci} h => by
    by_cases e : i = k
    · subst e
      rw [List.getElem?_set_self (by by_cases z : i < S.length; exact z; rw [List.getElem?_eq_none (Nat.le_of_not_lt z)] at hk; cases hk)] at h
      cases h
      exact .inl ⟨rfl, rfl⟩
    · rw [List.getElem?_set_ne (fun z => e z.symm)] at h
      exact .inr ⟨e, h⟩
  rw [List.length_set]
  refine ⟨⟨fun b u h => (upd_ne fun e => ?_).trans (R.fr _ _ h), fun b u h => (upd_ne fun e => ?_).trans (R.keep _ _ h), R.f0, R.fn, R.m0, by rw [List.length_set]; exact R.n0, fun i ci h hci => ?_, fun i j ci cj hi hj di dj e => ?_⟩, lt⟩
  · rw [e, L0.nf] at h
    cases h
  · rw [e, L0.n0] at h
    cases h
  · rw [List.length_set]
    rcases get h with ⟨rfl, rfl⟩ | ⟨ne, h⟩
    · exact ⟨L0.nf, L0.n0, hc⟩
    · have L := R.live i ci h hci
      have ne2 : w.m i ≠ w.m k := fun e => ne (R.inj i k ci c h hk hci hd e)
      exact ⟨L.nf, L.n0, L.ok.later lt (upd_ne ne2)⟩
  · rcases get hi with ⟨ei, _⟩ | ⟨ni, hi'⟩ <;> rcases get hj with ⟨ej, _⟩ | ⟨nj, hj'⟩
    · exact ei.trans ej.symm
    · rw [ei] at e
      exact absurd (R.inj k j c cj hk hj' hd dj e).symm nj
    · rw [ej] at e
      exact absurd (R.inj i k ci c hi' hk di hd e) ni
    · exact R.inj i j ci cj hi' hj' di dj e
/-- a cell is for good from here on -/
theorem Rel.freeze (R : Rel K β S w) {k : Nat} {c : Cell} (hk : S[k]? = some c) (hd : c ≠ .dead) {o : HO} (ho : w.H (w.m k) = some o) :
    Rel K β (S.set k .dead) ⟨w.m, upd w.F (w.m k) o, w.H⟩ ∧ Later S.length w (S.set k .dead).length ⟨w.m, upd w.F (w.m k) o, w.H⟩ := by
  have L0 := R.live k c hk hd
  have lt : Later S.length w S.length ⟨w.m, upd w.F (w.m k) o, w.H⟩ := ⟨Nat.le_refl _, fun _ _ => rfl, fun b u h => (upd_ne (ne_of_none h L0.nf)).trans h⟩
  have get : ∀ {i : Nat} {ci : Cell}, (S.set k .dead)[i]? = some ci → ci ≠ .dead → i ≠ k ∧ S[i]? = some ci := fun {i ci} h hci => by
    by_cases e : i = k
    · subst e
      rw [List.getElem?_set_self (by by_cases z : i < S.length; exact z; rw [List.getElem?_eq_none (Nat.le_of_not_lt z)] at hk; cases hk)] at h
      cases h
      exact absurd rfl hci
    · rw [List.getElem?_set_ne (fun z => e z.symm)] at h
      exact ⟨e, h⟩
  rw [List.length_set]
  refine ⟨⟨fun b u h => ?_, R.keep, fun b u h => lt.F _ _ (R.f0 _ _ h), fun b u h => ?_, R.m0, by rw [List.length_set]; exact R.n0, fun i ci h hci => ?_, fun i j ci cj hi hj di dj e => ?_⟩, lt⟩
  · by_cases e : b = w.m k
    · subst e
      have h : upd w.F (w.m k) o (w.m k) = some u := h
      rw [upd_same] at h
      exact h ▸ ho
    · exact R.fr _ _ ((upd_ne e).symm.trans h)
  · by_cases e : b = w.m k
    · subst e
      exact .inr L0.n0
    · exact R.fn _ _ ((upd_ne e).symm.trans h)
  · rw [List.length_set]
    obtain ⟨ne, h⟩ := get h hci
    have L := R.live i ci h hci
    have ne2 : w.m i ≠ w.m k := fun e => ne (R.inj i k ci c h hk hci hd e)
    exact ⟨(upd_ne ne2).trans L.nf, L.n0, L.ok.later lt rfl⟩
  · exact R.inj i j ci cj (get hi di).2 (get hj dj).2 di dj e
end
end PL
namespace PL
open PySem L2
/-! ### expressions -/
abbrev XP := Str → List (Str × D) → Sto → Prop
abbrev RB := B → Sto → Prop
abbrev FE := Ev → Sto → XP → RB → Prop
abbrev FT := Ev → Sto → XP → (Bool → Sto → Prop) → Prop
abbrev FA := Ev → Sto → XP → (List B → Sto → Prop) → Prop
structure EvOk (K : PySem.W.Frag) (n : Nat) (w : Wd) (Γ : Ev) (σ : St) : Prop where
  len : Γ.length = σ.length
  at_ : ∀ (i : Nat) (b : B), Γ[i]? = some (some b) → ∃ v, σ[i]? = some (some v) ∧ DenB K n w b v
theorem EvOk.later {K : PySem.W.Frag} {n n' : Nat} {w w' : Wd} {Γ : Ev} {σ : St} (l : Later n w n' w') (h : EvOk K n w Γ σ) : EvOk K n' w' Γ σ :=
  ⟨h.len, fun i b e => let ⟨v, h1, h2⟩ := h.at_ i b e; ⟨v, h1, h2.later l⟩⟩
theorem EvOk.set {K : PySem.W.Frag} {n : Nat} {w : Wd} {Γ : Ev} {σ : St} {b : B} {v : V} (h : EvOk K n w Γ σ) (i : Nat) (hb : DenB K n w b v) : EvOk K n w (Γ.set i (some b)) (σ.set i (some v)) :=
  ⟨by rw [List.length_set, List.length_set]; exact h.len, fun j c e => by
    by_cases hj : j = i
    · subst hj
      by_cases hl : j < Γ.length
      · rw [List.getElem?_set_self hl] at e
        cases e
        exact ⟨v, List.getElem?_set_self (h.len ▸ hl), hb⟩
      · rw [List.getElem?_eq_none (by rw [List.length_set]; omega)] at e
        cases e
    · rw [List.getElem?_set_ne (fun z => hj z.symm)] at e
      obtain ⟨v', h1, h2⟩ := h.at_ j c e
      exact ⟨v', (List.getElem?_set_ne (fun z => hj z.symm)).trans h1, h2⟩⟩
theorem EvOk.unset {K : PySem.W.Frag} {n : Nat} {w : Wd} {Γ : Ev} {σ : St} {o : Option V} (h : EvOk K n w Γ σ) (i : Nat) : EvOk K n w (Γ.set i none) (σ.set i o) :=
  ⟨by rw [List.length_set, List.length_set]; exact h.len, fun j c e => by
    by_cases hj : j = i
    · subst hj
      by_cases hl : j < Γ.length
      · rw [List.getElem?_set_self hl] at e
        cases e
      · rw [List.getElem?_eq_none (by rw [List.length_set]; omega)] at e
        cases e
    · rw [List.getElem?_set_ne (fun z => hj z.symm)] at e
      obtain ⟨v', h1, h2⟩ := h.at_ j c e
      exact ⟨v', (List.getElem?_set_ne (fun z => hj z.symm)).trans h1, h2⟩⟩
def EvWipe (Γ : Ev) : List Nat → Ev
  | [] => Γ
  | i :: is => (EvWipe Γ is).set i none
theorem EvOk.wipe {K : PySem.W.Frag} {n : Nat} {w : Wd} {Γ : Ev} {σ : St} (h : EvOk K n w Γ σ) : ∀ is : List Nat, EvOk K n w (EvWipe Γ is) (wipe σ is)
  | [] => h
  | i :: is => (EvOk.wipe h is).unset i
/-- what is wanted of an exception, by the heap -/
def XOk (K : PySem.W.Frag) (E : XK) (β : Base) (n : Nat) (w : Wd) (Rx : XP) : Prop :=
  ∀ C fs S' w' d vs, Rx C fs S' → Rel K β S' w' → Later n w S'.length w' → w'.F d = some (.xd vs) → DenF K w'.F fs vs → E (.ref (clsAt K C)) (some d) w'.H
theorem XOk.later {K : PySem.W.Frag} {E : XK} {β : Base} {n n' : Nat} {w w' : Wd} {Rx : XP} (l : Later n w n' w') (h : XOk K E β n w Rx) : XOk K E β n' w' Rx :=
  fun C fs S' w2 d vs r R l2 hd hf => h C fs S' w2 d vs r R (l.trans l2) hd hf
/-- what is wanted of a value, by the heap -/
def KOk (K : PySem.W.Frag) (β : Base) (n : Nat) (w : Wd) (R : RB) (Q : VK) : Prop :=
  ∀ b S' w' v, R b S' → Rel K β S' w' → Later n w S'.length w' → DenB K S'.length w' b v → Q v w'.H
theorem KOk.later {K : PySem.W.Frag} {β : Base} {n n' : Nat} {w w' : Wd} {R : RB} {Q : VK} (l : Later n w n' w') (h : KOk K β n w R Q) : KOk K β n' w' R Q :=
  fun b S' w2 v r R2 l2 hd => h b S' w2 v r R2 (l.trans l2) hd
def SndE (K : PySem.W.Frag) (E : XK) (t : TE) (f : FE) : Prop :=
  ∀ β S w σ Γ Rx R Q, Rel K β S w → EvOk K S.length w Γ σ → f Γ S Rx R → KOk K β S.length w R Q → XOk K E β S.length w Rx → t σ w.H Q
def SndT (K : PySem.W.Frag) (E : XK) (t : TT) (f : FT) : Prop :=
  ∀ β S w σ Γ Rx R (Q : Bool → Hp → Prop), Rel K β S w → EvOk K S.length w Γ σ → f Γ S Rx R → (∀ b S' w', R b S' → Rel K β S' w' → Later S.length w S'.length w' → Q b w'.H) → XOk K E β S.length w Rx → t σ w.H Q
def SndA (K : PySem.W.Frag) (E : XK) (t : TA) (f : FA) : Prop :=
  ∀ β S w σ Γ Rx R (Q : List V → Hp → Prop), Rel K β S w → EvOk K S.length w Γ σ → f Γ S Rx R → (∀ bs S' w' vs, R bs S' → Rel K β S' w' → Later S.length w S'.length w' → DenBL K S'.length w' bs vs → Q vs w'.H) → XOk K E β S.length w Rx → t σ w.H Q
structure XE (X : Cx) (E : XK) (e : Expr) (f : FE) : Prop where
  ex : ∃ t, PE X e t ∧ SndE X.K E t f
structure XT (X : Cx) (E : XK) (e : Expr) (f : FT) : Prop where
  ex : ∃ t, PT X e t ∧ SndT X.K E t f
structure XW (X : Cx) (E : XK) (e : Expr) (f : FT) : Prop where
  ex : ∃ t, PW X e t ∧ SndT X.K E t f
structure XA (X : Cx) (E : XK) (es : List Expr) (f : FA) : Prop where
  ex : ∃ t, PA X es t ∧ SndA X.K E t f
/-- by a bool -/
def cnd (k : Bool) (A B : Prop) : Prop := match k with
  | true => A
  | false => B
theorem cnd_t {k : Bool} {A B : Prop} (h : k = true) (a : A) : cnd k A B := by subst h; exact a
theorem cnd_f {k : Bool} {A B : Prop} (h : k = false) (b : B) : cnd k A B := by subst h; exact b
theorem cnd_split {k : Bool} {A B : Prop} (t : k = true → A) (f : k = false → B) : cnd k A B := by
  cases k with
  | true => exact t rfl
  | false => exact f rfl
section
variable {X : Cx} {E : XK} {a b c e : Expr} {fa fb fc : FE} {pos : Pos}
/-! names, constants -/
def eVar (i : Nat) : FE := fun Γ S _ R => match Γ[i]? with
  | some (some b) => R b S
  | _ => False
theorem xvar {i : Nat} (h : PE X e (tVar i)) : XE X E e (eVar i) := ⟨_, h, fun β S w σ Γ Rx R Q hR hG hf hk _ => by
  unfold eVar at hf
  cases hb : Γ[i]? with
  | none => rw [hb] at hf; exact hf.elim
  | some o =>
    cases o with
    | none => rw [hb] at hf; exact hf.elim
    | some b =>
      rw [hb] at hf
      obtain ⟨v, h1, h2⟩ := hG.at_ i b hb
      exact ⟨v, h1, hk b S w v hf hR (.refl _ _) h2⟩⟩
def eC (d : D) : FE := fun _ S _ R => R (.fz d) S
theorem xc {d : D} {v : V} (h : PE X e (tC v)) (hd : ∀ F, Den X.K F d v) : XE X E e (eC d) := ⟨_, h, fun β S w σ Γ Rx R Q hR hG hf hk _ => hk _ S w v hf hR (.refl _ _) (hd _)⟩
theorem xint {i j} : XE X E (.Constant (.int i) j pos) (eC (.int i)) := xc pe_int fun _ => .int i
theorem xstr {z j} : XE X E (.Constant (.str z) j pos) (eC (.str z)) := xc pe_str fun _ => .str z
theorem xbl {k j} : XE X E (.Constant (.bool k) j pos) (eC (.bl k)) := xc pe_bl fun _ => .bl k
theorem xnon {j} : XE X E (.Constant .none j pos) (eC .non) := xc pe_non fun _ => .non
/-! operators by values -/
abbrev G1 := B → Sto → RB → Prop
abbrev G2 := B → B → Sto → RB → Prop
abbrev GL := List B → Sto → RB → Prop
def Snd1 (K : PySem.W.Frag) (r : V → Hp → VK → Prop) (g : G1) : Prop := ∀ β S w b v R Q, Rel K β S w → DenB K S.length w b v → g b S R → KOk K β S.length w R Q → r v w.H Q
def Snd2 (K : PySem.W.Frag) (r : R2) (g : G2) : Prop := ∀ β S w b c v u R Q, Rel K β S w → DenB K S.length w b v → DenB K S.length w c u → g b c S R → KOk K β S.length w R Q → r v u w.H Q
def SndL (K : PySem.W.Frag) (r : List V → Hp → VK → Prop) (g : GL) : Prop := ∀ β S w bs vs R Q, Rel K β S w → DenBL K S.length w bs vs → g bs S R → KOk K β S.length w R Q → r vs w.H Q
def SndM (K : PySem.W.Frag) (r : V → List V → Hp → VK → Prop) (g : B → GL) : Prop := ∀ β S w b bs v vs R Q, Rel K β S w → DenB K S.length w b v → DenBL K S.length w bs vs → g b bs S R → KOk K β S.length w R Q → r v vs w.H Q
def eOp (g : G2) (fa fb : FE) : FE := fun Γ S Rx R => fa Γ S Rx fun b S1 => fb Γ S1 Rx fun c S2 => g b c S2 R
theorem snd_op {K : PySem.W.Frag} {E : XK} {ta tb : TE} {r : R2} {g : G2} (ha : SndE K E ta fa) (hb : SndE K E tb fb) (hg : Snd2 K r g) : SndE K E (tOp r ta tb) (eOp g fa fb) := fun β S w σ Γ Rx R Q hR hG hf hk hx => by
  refine ha β S w σ Γ Rx _ _ hR hG hf (fun b S1 w1 v h1 R1 l1 d1 => ?_) hx
  refine hb β S1 w1 σ Γ Rx _ _ R1 (hG.later l1) h1 (fun c S2 w2 u h2 R2 l2 d2 => ?_) (hx.later l1)
  exact hg β S2 w2 b c v u R Q R2 (d1.later l2) d2 h2 (hk.later (l1.trans l2))
theorem xop {op : Operator} {r : R2} {g : G2} (ho : OpR X (binaryOp op) r) (hg : Snd2 X.K r g) (ha : XE X E a fa) (hb : XE X E b fb) : XE X E (.BinOp a op b pos) (eOp g fa fb) :=
  let ⟨_, p, s⟩ := ha.ex; let ⟨_, q, t⟩ := hb.ex; ⟨_, pe_op ho p q, snd_op s t hg⟩
theorem xcmp {op : CmpOp} {r : R2} {g : G2} (ho : OpR X (compareOp op) r) (hg : Snd2 X.K r g) (ha : XE X E a fa) (hb : XE X E b fb) (hm : behindInMarks op b = false) : XE X E (.Compare a [op] [b] pos) (eOp g fa fb) :=
  let ⟨_, p, s⟩ := ha.ex; let ⟨_, q, t⟩ := hb.ex; ⟨_, pe_cmpR ho p q hm, snd_op s t hg⟩
theorem xix {r : R2} {g : G2} (ho : IxR X r) (hg : Snd2 X.K r g) (ha : XE X E a fa) (hb : XE X E b fb) (hs : PlainIx b) : XE X E (.Subscript a b pos) (eOp g fa fb) :=
  let ⟨_, p, s⟩ := ha.ex; let ⟨_, q, t⟩ := hb.ex; ⟨_, pe_ix ho p q hs, snd_op s t hg⟩
def eUn (g : G1) (fa : FE) : FE := fun Γ S Rx R => fa Γ S Rx fun b S1 => g b S1 R
theorem snd_un {K : PySem.W.Frag} {E : XK} {ta : TE} {r : V → Hp → VK → Prop} {g : G1} (ha : SndE K E ta fa) (hg : Snd1 K r g) : SndE K E (tUn r ta) (eUn g fa) := fun β S w σ Γ Rx R Q hR hG hf hk hx =>
  ha β S w σ Γ Rx _ _ hR hG hf (fun b S1 w1 v h1 R1 l1 d1 => hg β S1 w1 b v R Q R1 d1 h1 (hk.later l1)) hx
theorem xun {op : UnaryOp} {r : V → Hp → VK → Prop} {g : G1} (ho : UnR X (unaryOp op) r) (hg : Snd1 X.K r g) (ha : XE X E a fa) : XE X E (.UnaryOp op a pos) (eUn g fa) :=
  let ⟨_, p, s⟩ := ha.ex; ⟨_, pe_un ho p, snd_un s hg⟩
/-! values for good -/
def gD1 (f : D → (D → Prop) → Prop) : G1 := fun b S R => match b with
  | .fz x => f x fun d => R (.fz d) S
  | _ => False
def gD2 (f : D → D → (D → Prop) → Prop) : G2 := fun b c S R => match b, c with
  | .fz x, .fz y => f x y fun d => R (.fz d) S
  | _, _ => False
theorem snd_D2 {K : PySem.W.Frag} {r : R2} {f : D → D → (D → Prop) → Prop} (h : ∀ β S w x y v u R Q, Rel K β S w → Den K w.F x v → Den K w.F y u → f x y (fun d => R (B.fz d) S) → KOk K β S.length w R Q → r v u w.H Q) : Snd2 K r (gD2 f) := fun β S w b c v u R Q hR hb hc hg hk => by
  cases b with
  | mt k => exact hg.elim
  | fz x =>
    cases c with
    | mt k => exact hg.elim
    | fz y => exact h β S w x y v u R Q hR hb hc hg hk
theorem snd_D1 {K : PySem.W.Frag} {r : V → Hp → VK → Prop} {f : D → (D → Prop) → Prop} (h : ∀ β S w x v R Q, Rel K β S w → Den K w.F x v → f x (fun d => R (B.fz d) S) → KOk K β S.length w R Q → r v w.H Q) : Snd1 K r (gD1 f) := fun β S w b v R Q hR hb hg hk => by
  cases b with
  | mt k => exact hg.elim
  | fz x => exact h β S w x v R Q hR hb hg hk
theorem KOk.fz {K : PySem.W.Frag} {β : Base} {S : Sto} {w : Wd} {R : RB} {Q : VK} {d : D} {v : V} (hk : KOk K β S.length w R Q) (hR : Rel K β S w) (h : R (.fz d) S) (hd : Den K w.F d v) : Q v w.H := hk _ S w v h hR (.refl _ _) hd
/-- a new list, a new tuple for good -/
theorem KOk.newL {K : PySem.W.Frag} {β : Base} {S : Sto} {w : Wd} {R : RB} {Q : VK} {ds : List D} {vs : List V} (hk : KOk K β S.length w R Q) (hR : Rel K β S w) (h : R (.fz (.lst ds)) S) (hd : DenL K w.F ds vs) {p : Addr} (hp : w.H p = none) : Q (.ref p) (upd w.H p (.lst vs)) := by
  obtain ⟨R1, l1⟩ := hR.newF hp (.lst vs)
  exact hk _ S _ (.ref p) h R1 l1 (Den.lst upd_same (DenL.mono l1.F hd))
theorem KOk.newT {K : PySem.W.Frag} {β : Base} {S : Sto} {w : Wd} {R : RB} {Q : VK} {ds : List D} {vs : List V} (hk : KOk K β S.length w R Q) (hR : Rel K β S w) (h : R (.fz (.tup ds)) S) (hd : DenL K w.F ds vs) {p : Addr} (hp : w.H p = none) : Q (.ref p) (upd w.H p (.tup vs)) := by
  obtain ⟨R1, l1⟩ := hR.newF hp (.tup vs)
  exact hk _ S _ (.ref p) h R1 l1 (Den.tup (SqT.of upd_same) (DenL.mono l1.F hd))
def dAdd : D → D → (D → Prop) → Prop
  | .int i, .int j, k => k (.int (i + j))
  | .str i, .str j, k => i.length + j.length ≤ sizeLine ∧ k (.str (i ++ j))
  | .lst xs, .lst ys, k => xs.length + ys.length ≤ sizeLine ∧ k (.lst (xs ++ ys))
  | .tup xs, .tup ys, k => (xs ≠ [] ∧ xs.length + ys.length ≤ sizeLine) ∧ k (.tup (xs ++ ys))
  | _, _, _ => False
def rAddA (K : PySem.W.Frag) : R2 := fun x y H Q => (∃ i j, x = .int i ∧ y = .int j ∧ Q (.int (i + j)) H) ∨ (∃ i j, x = .str i ∧ y = .str j ∧ i.length + j.length ≤ sizeLine ∧ Q (.str (i ++ j)) H) ∨ rCat x y H Q ∨ rCatT K x y H Q
theorem op_addA : OpR X (binaryOp .Add) (rAddA X.K) := op_add.or (op_add_str.or (op_cat.or op_catT))
theorem snd_add {K : PySem.W.Frag} : Snd2 K (rAddA K) (gD2 dAdd) := snd_D2 fun β S w x y v u R Q hR hb hc hg hk => by
  cases hb with
  | int i => cases hc with
    | int j => exact .inl ⟨i, j, rfl, rfl, hk.fz hR hg (.int _)⟩
    | _ => exact (hg : False).elim
  | str i => cases hc with
    | str j => exact .inr (.inl ⟨i, j, rfl, rfl, hg.1, hk.fz hR hg.2 (.str _)⟩)
    | _ => exact (hg : False).elim
  | lst h1 l1 => cases hc with
    | lst h2 l2 => exact .inr (.inr (.inl ⟨_, _, _, _, rfl, rfl, hR.fr _ _ h1, hR.fr _ _ h2, by rw [← l1.length, ← l2.length]; exact hg.1, fun p hp => hk.newL hR hg.2 (l1.app l2) hp⟩))
    | _ => exact (hg : False).elim
  | tup h1 l1 => cases hc with
    | tup h2 l2 => exact .inr (.inr (.inr ⟨_, _, _, _, rfl, rfl, sqT_same hR.fr h1, sqT_same hR.fr h2, by
        intro e; subst e; cases l1; exact hg.1.1 rfl, by rw [← l1.length, ← l2.length]; exact hg.1.2, fun e => by
          subst e; cases l2; exact hk.fz hR (by have h2 : R (.fz (.tup (_ ++ []))) S := hg.2; rw [List.append_nil] at h2; exact h2) (.tup h1 l1), fun _ p hp => hk.newT hR hg.2 (l1.app l2) hp⟩))
    | _ => exact (hg : False).elim
  | _ => cases hc <;> exact (hg : False).elim
end
end PL
namespace PL
open PySem L2
section
variable {K : PySem.W.Frag}
/-! ### arithmetic -/
def dSub : D → D → (D → Prop) → Prop
  | .int i, .int j, k => k (.int (i - j))
  | _, _, _ => False
def dMul : D → D → (D → Prop) → Prop
  | .int i, .int j, k => CMul i j ∧ k (.int (i * j))
  | _, _, _ => False
def dMod : D → D → (D → Prop) → Prop
  | .int i, .int j, k => 0 < j ∧ k (.int (i % j))
  | _, _, _ => False
def dFdiv : D → D → (D → Prop) → Prop
  | .int i, .int j, k => CDiv i j ∧ k (.int (i / j))
  | _, _, _ => False
def dPow : D → D → (D → Prop) → Prop
  | .int i, .int j, k => CPow i j ∧ k (.int (i ^ j.toNat))
  | _, _, _ => False
def dXor : D → D → (D → Prop) → Prop
  | .int i, .int j, k => k (.int (Builtin.bitXor i j))
  | _, _, _ => False
def dNeg : D → (D → Prop) → Prop
  | .int i, k => k (.int (-i))
  | _, _ => False
theorem snd_I0 {g : Int → Int → Int} {f : D → D → (D → Prop) → Prop} (h : ∀ i j k, f (.int i) (.int j) k → k (.int (g i j))) (h0 : ∀ x y k, f x y k → ∃ i j, x = .int i ∧ y = .int j) : Snd2 K (rI0 fun i j => .int (g i j)) (gD2 f) := snd_D2 fun β S w x y v u R Q hR hb hc hg hk => by
  obtain ⟨i, j, rfl, rfl⟩ := h0 _ _ _ hg
  cases hb; cases hc
  exact ⟨i, j, rfl, rfl, hk.fz hR (h i j _ hg) (.int _)⟩
theorem snd_I {C : Int → Int → Prop} {g : Int → Int → Int} {f : D → D → (D → Prop) → Prop} (h : ∀ i j k, f (.int i) (.int j) k → C i j ∧ k (.int (g i j))) (h0 : ∀ x y k, f x y k → ∃ i j, x = .int i ∧ y = .int j) : Snd2 K (rI C fun i j => .int (g i j)) (gD2 f) := snd_D2 fun β S w x y v u R Q hR hb hc hg hk => by
  obtain ⟨i, j, rfl, rfl⟩ := h0 _ _ _ hg
  cases hb; cases hc
  exact ⟨i, j, rfl, rfl, (h i j _ hg).1, hk.fz hR (h i j _ hg).2 (.int _)⟩
theorem two_ints {f : D → D → (D → Prop) → Prop} (h : ∀ x y k, (∀ i j, x = .int i → y = .int j → False) → ¬ f x y k) : ∀ x y k, f x y k → ∃ i j, x = .int i ∧ y = .int j := fun x y k q => by
  by_cases z : ∃ i j, x = .int i ∧ y = .int j
  · exact z
  · exact (h x y k (fun i j e1 e2 => z ⟨i, j, e1, e2⟩) q).elim
theorem snd_sub : Snd2 K (rI0 fun i j => .int (i - j)) (gD2 dSub) := snd_I0 (fun _ _ _ h => h) (by intro x y k q; cases x <;> cases y <;> first | exact ⟨_, _, rfl, rfl⟩ | exact q.elim)
theorem snd_mul : Snd2 K (rI CMul fun i j => .int (i * j)) (gD2 dMul) := snd_I (fun _ _ _ h => h) (by intro x y k q; cases x <;> cases y <;> first | exact ⟨_, _, rfl, rfl⟩ | exact q.elim)
theorem snd_mod : Snd2 K (rI (fun _ j => 0 < j) fun i j => .int (i % j)) (gD2 dMod) := snd_I (fun _ _ _ h => h) (by intro x y k q; cases x <;> cases y <;> first | exact ⟨_, _, rfl, rfl⟩ | exact q.elim)
theorem snd_fdiv : Snd2 K (rI CDiv fun i j => .int (i / j)) (gD2 dFdiv) := snd_I (fun _ _ _ h => h) (by intro x y k q; cases x <;> cases y <;> first | exact ⟨_, _, rfl, rfl⟩ | exact q.elim)
theorem snd_pow : Snd2 K (rI CPow fun i j => .int (i ^ j.toNat)) (gD2 dPow) := snd_I (fun _ _ _ h => h) (by intro x y k q; cases x <;> cases y <;> first | exact ⟨_, _, rfl, rfl⟩ | exact q.elim)
theorem snd_xor : Snd2 K (rI0 fun i j => .int (Builtin.bitXor i j)) (gD2 dXor) := snd_I0 (fun _ _ _ h => h) (by intro x y k q; cases x <;> cases y <;> first | exact ⟨_, _, rfl, rfl⟩ | exact q.elim)
theorem snd_neg : Snd1 K (rU fun i => .int (-i)) (gD1 dNeg) := snd_D1 fun β S w x v R Q hR hb hg hk => by
  cases hb with
  | int i => exact ⟨i, rfl, hk.fz hR hg (.int _)⟩
  | _ => exact (hg : False).elim
/-! ### comparisons -/
def dCmp (p : Int → Int → Bool) : D → D → (D → Prop) → Prop
  | .int i, .int j, k => k (.bl (p i j))
  | _, _, _ => False
theorem snd_cmp {p : Int → Int → Bool} : Snd2 K (rI0 fun i j => .bl (p i j)) (gD2 (dCmp p)) := snd_D2 fun β S w x y v u R Q hR hb hc hg hk => by
  cases hb with
  | int i => cases hc with
    | int j => exact ⟨i, j, rfl, rfl, hk.fz hR hg (.bl _)⟩
    | _ => exact (hg : False).elim
  | _ => cases hc <;> exact (hg : False).elim
/-! data without own classes -/
mutual
def D.py : D → Option PyData
  | .non => some .none
  | .bl b => some (.bool b)
  | .int i => some (.int i)
  | .str z => some (.str z)
  | .lst xs => (pyL xs).map .list
  | .tup xs => (pyL xs).map .tuple
  | _ => none
def pyL : List D → Option (List PyData)
  | [] => some []
  | x :: xs => match x.py, pyL xs with
    | some d, some ds => some (d :: ds)
    | _, _ => none
end
mutual
theorem Den.dp {F : Hp} : ∀ (x : D) {v : V} {d : PyData}, Den K F x v → x.py = some d → Dp K F v d
  | .non, _, _, h, e => by cases h; cases e; exact .non
  | .bl b, _, _, h, e => by cases h; cases e; exact .bl b
  | .int i, _, _, h, e => by cases h; cases e; exact .int i
  | .str z, _, _, h, e => by cases h; cases e; exact .str z
  | .lst xs, _, _, h, e => by
    rw [D.py] at e
    cases h with
    | lst h1 l =>
      cases hp : pyL xs with
      | none => rw [hp] at e; cases e
      | some ds => rw [hp] at e; cases e; exact .lst (SqL.of h1) (DenL.dp xs l hp)
  | .tup xs, _, _, h, e => by
    rw [D.py] at e
    cases h with
    | tup h1 l =>
      cases hp : pyL xs with
      | none => rw [hp] at e; cases e
      | some ds => rw [hp] at e; cases e; exact .tup h1 (DenL.dp xs l hp)
  | .ty _, _, _, _, e => by rw [D.py] at e <;> first | cases e | (intros; contradiction)
  | .scr, _, _, _, e => by rw [D.py] at e <;> first | cases e | (intros; contradiction)
  | .cls _, _, _, _, e => by rw [D.py] at e <;> first | cases e | (intros; contradiction)
  | .opq _, _, _, _, e => by rw [D.py] at e <;> first | cases e | (intros; contradiction)
  | .dic _, _, _, _, e => by rw [D.py] at e <;> first | cases e | (intros; contradiction)
  | .ins _ _, _, _, _, e => by rw [D.py] at e <;> first | cases e | (intros; contradiction)
theorem DenL.dp {F : Hp} : ∀ (xs : List D) {vs : List V} {ds : List PyData}, DenL K F xs vs → pyL xs = some ds → DpAll K F vs ds
  | [], _, _, h, e => by rw [pyL] at e; cases h; cases e; exact .nil
  | x :: xs, _, _, h, e => by
    rw [pyL] at e
    cases h with
    | cons h1 l =>
      cases h2 : x.py with
      | none => rw [h2] at e; cases e
      | some d =>
        cases h3 : pyL xs with
        | none => rw [h2, h3] at e; cases e
        | some ds => rw [h2, h3] at e; cases e; exact .cons (Den.dp x h1 h2) (DenL.dp xs l h3)
end
/-- == of data; neg: != -/
def dEq (neg : Bool) (x y : D) (k : D → Prop) : Prop := match x, y with
  | .int i, .int j => k (.bl (neg != decide (i = j)))
  | .str i, .str j => k (.bl (neg != decide (i = j)))
  | .bl i, .bl j => k (.bl (neg != decide (i = j)))
  | .non, .non => k (.bl (neg != true))
  | .int _, .non => k (.bl neg) | .str _, .non => k (.bl neg) | .bl _, .non => k (.bl neg)
  | .non, .int _ => k (.bl neg) | .non, .str _ => k (.bl neg) | .non, .bl _ => k (.bl neg)
  | .int _, .str _ => k (.bl neg) | .str _, .int _ => k (.bl neg)
  | .bl _, .str _ => k (.bl neg) | .str _, .bl _ => k (.bl neg)
  | x, y => match x.py, y.py with
    | some d, some e => (SeqAt.shaped d = true ∧ SeqAt.shaped e = true) ∧ k (.bl (neg != PyData.eqv d e))
    | _, _ => False
def rEqA (K : PySem.W.Frag) : R2 := fun x y H Q => rEq x y H Q ∨ rEqD K x y H Q
def rNeA (K : PySem.W.Frag) : R2 := fun x y H Q => rNe x y H Q ∨ rNeD K x y H Q
theorem op_eqA {X : Cx} (hu : X.A.units + 64 < cLine) : OpR X (compareOp .Eq) (rEqA X.K) := op_eq.or (op_eqD hu)
theorem op_neA {X : Cx} (hu : X.A.units + 64 < cLine) : OpR X (compareOp .NotEq) (rNeA X.K) := op_ne.or (op_neD hu)
theorem dEq_py {neg : Bool} {x y : D} {k : D → Prop} (h : match x.py, y.py with
    | some d, some e => (SeqAt.shaped d = true ∧ SeqAt.shaped e = true) ∧ k (.bl (neg != PyData.eqv d e))
    | _, _ => False) : ∃ d e, x.py = some d ∧ y.py = some e ∧ (SeqAt.shaped d = true ∧ SeqAt.shaped e = true) ∧ k (.bl (neg != PyData.eqv d e)) := by
  cases h1 : x.py with
  | none => rw [h1] at h; exact h.elim
  | some d =>
    cases h2 : y.py with
    | none => rw [h1, h2] at h; exact h.elim
    | some e => rw [h1, h2] at h; exact ⟨d, e, rfl, rfl, h⟩
theorem Same.dp {F H : Hp} (s : Same F H) : ∀ (d : PyData) {v : V}, Dp K F v d → Dp K H v d := by
  intro d v h
  exact Dp.rec (motive_1 := fun v d _ => Dp K H v d) (motive_2 := fun vs ds _ => DpAll K H vs ds) .non .bl .int .str (fun h _ ih => .lst (sqL_same s h) ih) (fun h _ ih => .tup (sqT_same s h) ih) .nil (fun _ _ a b => .cons a b) h
theorem snd_eq : Snd2 K (rEqA K) (gD2 (dEq false)) := snd_D2 fun β S w x y v u R Q hR hb hc hg hk => by
  have deep : (match x.py, y.py with
    | some d, some e => (SeqAt.shaped d = true ∧ SeqAt.shaped e = true) ∧ R (.fz (.bl (false != PyData.eqv d e))) S
    | _, _ => False) → rEqA K v u w.H Q := fun h => by
    obtain ⟨d, e, h1, h2, ⟨s1, s2⟩, h⟩ := dEq_py (k := fun d => R (.fz d) S) h
    exact .inr ⟨d, e, Same.dp hR.fr d (Den.dp x hb h1), Same.dp hR.fr e (Den.dp y hc h2), s1, s2, hk.fz hR (by rw [Bool.false_bne] at h; exact h) (.bl _)⟩
  have flat : ∀ {k : Bool}, scal v u = true → decide (v = u) = k → R (.fz (.bl k)) S → rEqA K v u w.H Q := fun h e q => .inl ⟨h, by rw [e]; exact hk.fz hR q (.bl _)⟩
  cases hb <;> cases hc <;> first
    | exact deep hg
    | exact flat rfl (by simp) hg
theorem snd_ne : Snd2 K (rNeA K) (gD2 (dEq true)) := snd_D2 fun β S w x y v u R Q hR hb hc hg hk => by
  have deep : (match x.py, y.py with
    | some d, some e => (SeqAt.shaped d = true ∧ SeqAt.shaped e = true) ∧ R (.fz (.bl (true != PyData.eqv d e))) S
    | _, _ => False) → rNeA K v u w.H Q := fun h => by
    obtain ⟨d, e, h1, h2, ⟨s1, s2⟩, h⟩ := dEq_py (k := fun d => R (.fz d) S) h
    exact .inr ⟨d, e, Same.dp hR.fr d (Den.dp x hb h1), Same.dp hR.fr e (Den.dp y hc h2), s1, s2, hk.fz hR (by rw [Bool.true_bne] at h; exact h) (.bl _)⟩
  have flat : ∀ {k : Bool}, scal v u = true → (!decide (v = u)) = k → R (.fz (.bl k)) S → rNeA K v u w.H Q := fun h e q => .inl ⟨h, by rw [e]; exact hk.fz hR q (.bl _)⟩
  cases hb <;> cases hc <;> first
    | exact deep hg
    | exact flat rfl (by simp) hg
/-- is None -/
def dIsN : D → D → (D → Prop) → Prop
  | .non, .non, k => k (.bl true)
  | _, .non, k => k (.bl false)
  | _, _, _ => False
def dNotN : D → D → (D → Prop) → Prop
  | .non, .non, k => k (.bl false)
  | _, .non, k => k (.bl true)
  | _, _, _ => False
theorem snd_isN : Snd2 K (fun x y H Q => y = .non ∧ Q (.bl (decide (x = .non))) H) (gD2 dIsN) := snd_D2 fun β S w x y v u R Q hR hb hc hg hk => by
  cases hc with
  | non => cases hb <;> exact ⟨rfl, by first | exact hk.fz hR hg (.bl true) | exact hk.fz hR hg (.bl false)⟩
  | _ => cases hb <;> exact (hg : False).elim
theorem snd_notN : Snd2 K (fun x y H Q => y = .non ∧ Q (.bl (!decide (x = .non))) H) (gD2 dNotN) := snd_D2 fun β S w x y v u R Q hR hb hc hg hk => by
  cases hc with
  | non => cases hb <;> exact ⟨rfl, by first | exact hk.fz hR hg (.bl true) | exact hk.fz hR hg (.bl false)⟩
  | _ => cases hb <;> exact (hg : False).elim
end
end PL
namespace PL
open PySem L2
section
variable {X : Cx} {E : XK} {a b c e : Expr} {es : List Expr} {fa fb fc f : FE} {pos : Pos}
/-! ### tests -/
def dTruth : D → (Bool → Prop) → Prop
  | .non, k => k false
  | .bl b, k => k b
  | .int i, k => k (i != 0)
  | .str z, k => z.length ≤ sizeLine ∧ k ((z.length : Int) != 0)
  | .lst xs, k => k (!xs.isEmpty)
  | .tup xs, k => k (!xs.isEmpty)
  | _, _ => False
def truth (b : B) (S : Sto) (R : Bool → Prop) : Prop := match b with
  | .fz d => dTruth d R
  | .mt k => match S[k]? with
    | some (.lst bs) => R (!bs.isEmpty)
    | some (.dic bs) => R (!bs.isEmpty)
    | _ => False
theorem isEmpty_len {α γ : Type} {xs : List α} {ys : List γ} (h : xs.length = ys.length) : xs.isEmpty = ys.isEmpty := by
  cases xs <;> cases ys <;> first | rfl | cases h
theorem DenK.length {K : PySem.W.Frag} {F : Hp} : ∀ {ds : List (Key × D)} {vs : List (Key × V)}, DenK K F ds vs → ds.length = vs.length
  | _, _, .nil => rfl
  | _, _, .cons _ t => congrArg (· + 1) (DenK.length t)
theorem DenBK.length {K : PySem.W.Frag} {n : Nat} {w : Wd} : ∀ {ds : List (Key × B)} {vs : List (Key × V)}, DenBK K n w ds vs → ds.length = vs.length
  | _, _, .nil => rfl
  | _, _, .cons _ t => congrArg (· + 1) (DenBK.length t)
theorem truth_ok {K : PySem.W.Frag} {β : Base} {S : Sto} {w : Wd} {b : B} {v : V} {R : Bool → Prop} (hR : Rel K β S w) (hb : DenB K S.length w b v) (h : truth b S R) : ∃ k, TruV K v w.H k ∧ R k := by
  cases b with
  | fz d =>
    have hb : Den K w.F d v := hb
    cases hb with
    | non => exact ⟨false, rfl, h⟩
    | bl b => exact ⟨b, rfl, h⟩
    | int i => exact ⟨_, rfl, h⟩
    | str z => exact ⟨_, ⟨h.1, rfl⟩, h.2⟩
    | lst h1 l => exact ⟨_, .inl ⟨_, SqL.of (hR.fr _ _ h1), rfl⟩, by rw [← isEmpty_len l.length]; exact h⟩
    | tup h1 l => exact ⟨_, .inr (.inl ⟨_, sqT_same hR.fr h1, rfl⟩), by rw [← isEmpty_len l.length]; exact h⟩
    | _ => exact (show False from h).elim
  | mt k =>
    obtain ⟨hk, rfl⟩ := hb
    have h : match S[k]? with
      | some (.lst bs) => R (!bs.isEmpty)
      | some (.dic bs) => R (!bs.isEmpty)
      | _ => False := h
    cases hc : S[k]? with
    | none => rw [hc] at h; exact h.elim
    | some cl =>
      rw [hc] at h
      cases cl with
      | lst bs =>
        obtain ⟨vs, h1, h2⟩ := (hR.live k _ hc (by intro z; cases z)).ok
        exact ⟨_, .inl ⟨_, SqL.of h1, rfl⟩, by rw [← isEmpty_len h2.length]; exact h⟩
      | dic bs =>
        obtain ⟨vs, h1, h2⟩ := (hR.live k _ hc (by intro z; cases z)).ok
        exact ⟨_, .inr (.inr ⟨_, h1, rfl⟩), by rw [← isEmpty_len h2.length]; exact h⟩
      | _ => exact (show False from h).elim
def tOf (f : FE) : FT := fun Γ S Rx R => f Γ S Rx fun b S1 => truth b S1 fun k => R k S1
theorem xt_val (ha : XE X E a f) (he : ∀ whole, isTrue a X.env whole = (do let v ← whole; standAt a.pos; holding [v] (truthy v))) : XT X E a (tOf f) :=
  let ⟨_, p, s⟩ := ha.ex
  ⟨_, pt_truth p he, fun β S w σ Γ Rx R Q hR hG hf hk hx => s β S w σ Γ Rx _ _ hR hG hf (fun b S1 w1 v h1 R1 l1 d1 => by
    obtain ⟨k, h2, h3⟩ := truth_ok R1 d1 h1
    exact ⟨k, h2, hk k S1 w1 h3 R1 l1⟩) hx⟩
/-- a bool -/
def asBl (R : Bool → Sto → Prop) : RB := fun b S => match b with
  | .fz (.bl k) => R k S
  | _ => False
theorem asBl_ok {K : PySem.W.Frag} {n : Nat} {w : Wd} {b : B} {v : V} {S : Sto} {R : Bool → Sto → Prop} (h : asBl R b S) (hb : DenB K n w b v) : ∃ k, v = .bl k ∧ R k S := by
  cases b with
  | mt k => exact (show False from h).elim
  | fz d =>
    have hb : Den K w.F d v := hb
    cases hb <;> first | exact ⟨_, rfl, h⟩ | exact (show False from h).elim
def tBl (f : FE) : FT := fun Γ S Rx R => f Γ S Rx (asBl R)
theorem sndT_bl {K : PySem.W.Frag} {t : TE} (h : SndE K E t f) : SndT K E (tTest t) (tBl f) := fun β S w σ Γ Rx R Q hR hG hf hk hx =>
  h β S w σ Γ Rx _ _ hR hG hf (fun b S1 w1 v h1 R1 l1 d1 => by
    obtain ⟨k, rfl, h2⟩ := asBl_ok h1 d1
    exact ⟨k, rfl, hk k S1 w1 h2 R1 l1⟩) hx
theorem xt_cmp {op : CmpOp} {r : R2} {g : G2} (ho : OpR X (compareOp op) r) (hg : Snd2 X.K r g) (ha : XE X E a fa) (hb : XE X E b fb) (hm : behindInMarks op b = false) : XT X E (.Compare a [op] [b] pos) (tBl (eOp g fa fb)) :=
  let ⟨_, p, s⟩ := ha.ex; let ⟨_, q, t⟩ := hb.ex; ⟨_, pt_cmpR ho p q hm, sndT_bl (snd_op s t hg)⟩
def eChain (g g' : G2) (fa fb fc : FE) : FE := fun Γ S Rx R => fa Γ S Rx fun b S1 => fb Γ S1 Rx fun c S2 => g b c S2 (asBl fun k S3 => cnd k (fc Γ S3 Rx fun d S4 => g' c d S4 R) (R (.fz (.bl false)) S3))
theorem snd_chain {K : PySem.W.Frag} {ta tb tc : TE} {r r' : R2} {g g' : G2} (ha : SndE K E ta fa) (hb : SndE K E tb fb) (hc : SndE K E tc fc) (hg : Snd2 K r g) (hg' : Snd2 K r' g') : SndE K E (tChain r r' ta tb tc) (eChain g g' fa fb fc) :=
  fun β S w σ Γ Rx R Q hR hG hf hk hx => by
  refine ha β S w σ Γ Rx _ _ hR hG hf (fun b S1 w1 v h1 R1 l1 d1 => ?_) hx
  refine hb β S1 w1 σ Γ Rx _ _ R1 (hG.later l1) h1 (fun c S2 w2 u h2 R2 l2 d2 => ?_) (hx.later l1)
  refine hg β S2 w2 b c v u _ _ R2 (d1.later l2) d2 h2 fun d S3 w3 z h3 R3 l3 d3 => ?_
  have l03 := (l1.trans l2).trans l3
  obtain ⟨k, rfl, h4⟩ := asBl_ok h3 d3
  refine ⟨k, rfl, ?_⟩
  cases k with
  | true =>
    refine hc β S3 w3 σ Γ Rx _ _ R3 (hG.later l03) h4 (fun d S4 w4 u' h5 R4 l4 d4 => ?_) (hx.later l03)
    exact hg' β S4 w4 c d u u' R Q R4 (d2.later (l3.trans l4)) d4 h5 (hk.later (l03.trans l4))
  | false => exact hk _ S3 w3 (.bl false) h4 R3 l03 (.bl false)
theorem xchain {op op' : CmpOp} {r r' : R2} {g g' : G2} (ho : OpR X (compareOp op) r) (hg : Snd2 X.K r g) (ho' : OpR X (compareOp op') r') (hg' : Snd2 X.K r' g') (ha : XE X E a fa) (hb : XE X E b fb) (hc : XE X E c fc)
    (hm : lastMarks [op, op'] [b, c] = false := by with_unfolding_all rfl) : XE X E (.Compare a [op, op'] [b, c] pos) (eChain g g' fa fb fc) :=
  let ⟨_, p, s⟩ := ha.ex; let ⟨_, q, t⟩ := hb.ex; let ⟨_, o, u⟩ := hc.ex; ⟨_, pe_chain ho ho' p q o hm, snd_chain s t u hg hg'⟩
theorem xt_chain {op op' : CmpOp} {r r' : R2} {g g' : G2} (ho : OpR X (compareOp op) r) (hg : Snd2 X.K r g) (ho' : OpR X (compareOp op') r') (hg' : Snd2 X.K r' g') (ha : XE X E a fa) (hb : XE X E b fb) (hc : XE X E c fc)
    (hm : lastMarks [op, op'] [b, c] = false := by with_unfolding_all rfl) : XT X E (.Compare a [op, op'] [b, c] pos) (tBl (eChain g g' fa fb fc)) :=
  let ⟨_, p, s⟩ := ha.ex; let ⟨_, q, t⟩ := hb.ex; let ⟨_, o, u⟩ := hc.ex; ⟨_, pt_chain ho ho' p q o hm, sndT_bl (snd_chain s t u hg hg')⟩
/-! and, or, not: as tests -/
def tAndP (t u : FT) : FT := fun Γ S Rx R => t Γ S Rx fun k S1 => cnd k (u Γ S1 Rx R) (R false S1)
def tOrP (t u : FT) : FT := fun Γ S Rx R => t Γ S Rx fun k S1 => cnd k (R true S1) (u Γ S1 Rx R)
def tNotP (t : FT) : FT := fun Γ S Rx R => t Γ S Rx fun k S1 => R (!k) S1
variable {ft fu : FT} {rest : List Expr}
theorem xw_and1 (ha : XT X E a ft) : XW X E (.BoolOp .And [a] pos) ft := let ⟨_, p, s⟩ := ha.ex; ⟨_, pw_and1 p, s⟩
theorem xw_or1 (ha : XT X E a ft) : XW X E (.BoolOp .Or [a] pos) ft := let ⟨_, p, s⟩ := ha.ex; ⟨_, pw_or1 p, s⟩
theorem xw_and (ha : XT X E a ft) (hb : XW X E (.BoolOp .And (b :: rest) pos) fu) : XW X E (.BoolOp .And (a :: b :: rest) pos) (tAndP ft fu) :=
  let ⟨_, p, s⟩ := ha.ex; let ⟨_, q, t⟩ := hb.ex
  ⟨_, pw_and p q, fun β S w σ Γ Rx R Q hR hG hf hk hx => s β S w σ Γ Rx _ _ hR hG hf (fun k S1 w1 h1 R1 l1 => by
    cases k with
    | true => exact t β S1 w1 σ Γ Rx R Q R1 (hG.later l1) h1 (fun b S2 w2 h2 R2 l2 => hk b S2 w2 h2 R2 (l1.trans l2)) (hx.later l1)
    | false => exact hk false S1 w1 h1 R1 l1) hx⟩
theorem xw_or (ha : XT X E a ft) (hb : XW X E (.BoolOp .Or (b :: rest) pos) fu) : XW X E (.BoolOp .Or (a :: b :: rest) pos) (tOrP ft fu) :=
  let ⟨_, p, s⟩ := ha.ex; let ⟨_, q, t⟩ := hb.ex
  ⟨_, pw_or p q, fun β S w σ Γ Rx R Q hR hG hf hk hx => s β S w σ Γ Rx _ _ hR hG hf (fun k S1 w1 h1 R1 l1 => by
    cases k with
    | false => exact t β S1 w1 σ Γ Rx R Q R1 (hG.later l1) h1 (fun b S2 w2 h2 R2 l2 => hk b S2 w2 h2 R2 (l1.trans l2)) (hx.later l1)
    | true => exact hk true S1 w1 h1 R1 l1) hx⟩
theorem xt_w (h : XW X E a ft) : XT X E a ft := let ⟨_, p, s⟩ := h.ex; ⟨_, p.pt, s⟩
theorem xt_not (ha : XT X E a ft) : XT X E (.UnaryOp .Not a pos) (tNotP ft) :=
  let ⟨_, p, s⟩ := ha.ex
  ⟨_, pt_not p, fun β S w σ Γ Rx R Q hR hG hf hk hx => s β S w σ Γ Rx _ _ hR hG hf (fun k S1 w1 h1 R1 l1 => hk (!k) S1 w1 h1 R1 l1) hx⟩
/-! .. as values: bools -/
def eAnd (fa fb : FE) : FE := fun Γ S Rx R => fa Γ S Rx (asBl fun k S1 => cnd k (fb Γ S1 Rx R) (R (.fz (.bl false)) S1))
def eOr (fa fb : FE) : FE := fun Γ S Rx R => fa Γ S Rx (asBl fun k S1 => cnd k (R (.fz (.bl true)) S1) (fb Γ S1 Rx R))
def eNot (fa : FE) : FE := fun Γ S Rx R => fa Γ S Rx (asBl fun k S1 => R (.fz (.bl (!k))) S1)
theorem x_one {op} (ha : XE X E a fa) : XE X E (.BoolOp op [a] pos) fa := let ⟨_, p, s⟩ := ha.ex; ⟨_, pe_one p, s⟩
theorem x_and (ha : XE X E a fa) (hb : XE X E (.BoolOp .And (b :: rest) pos) fb) : XE X E (.BoolOp .And (a :: b :: rest) pos) (eAnd fa fb) :=
  let ⟨_, p, s⟩ := ha.ex; let ⟨_, q, t⟩ := hb.ex
  ⟨_, pe_and p q, fun β S w σ Γ Rx R Q hR hG hf hk hx => s β S w σ Γ Rx _ _ hR hG hf (fun b S1 w1 v h1 R1 l1 d1 => by
    obtain ⟨k, rfl, h2⟩ := asBl_ok h1 d1
    refine ⟨k, rfl, ?_⟩
    cases k with
    | true => exact t β S1 w1 σ Γ Rx R Q R1 (hG.later l1) h2 (hk.later l1) (hx.later l1)
    | false => exact hk _ S1 w1 (.bl false) h2 R1 l1 (.bl false)) hx⟩
theorem x_or (ha : XE X E a fa) (hb : XE X E (.BoolOp .Or (b :: rest) pos) fb) : XE X E (.BoolOp .Or (a :: b :: rest) pos) (eOr fa fb) :=
  let ⟨_, p, s⟩ := ha.ex; let ⟨_, q, t⟩ := hb.ex
  ⟨_, pe_or p q, fun β S w σ Γ Rx R Q hR hG hf hk hx => s β S w σ Γ Rx _ _ hR hG hf (fun b S1 w1 v h1 R1 l1 d1 => by
    obtain ⟨k, rfl, h2⟩ := asBl_ok h1 d1
    refine ⟨k, rfl, ?_⟩
    cases k with
    | false => exact t β S1 w1 σ Γ Rx R Q R1 (hG.later l1) h2 (hk.later l1) (hx.later l1)
    | true => exact hk _ S1 w1 (.bl true) h2 R1 l1 (.bl true)) hx⟩
theorem x_not (ha : XE X E a fa) : XE X E (.UnaryOp .Not a pos) (eNot fa) :=
  let ⟨_, p, s⟩ := ha.ex
  ⟨_, pe_not p, fun β S w σ Γ Rx R Q hR hG hf hk hx => s β S w σ Γ Rx _ _ hR hG hf (fun b S1 w1 v h1 R1 l1 d1 => by
    obtain ⟨k, rfl, h2⟩ := asBl_ok h1 d1
    exact ⟨k, rfl, hk _ S1 w1 (.bl _) h2 R1 l1 (.bl _)⟩) hx⟩
/-- a if t else b -/
def eIf (ft : FT) (fa fb : FE) : FE := fun Γ S Rx R => ft Γ S Rx fun k S1 => cnd k (fa Γ S1 Rx R) (fb Γ S1 Rx R)
theorem x_if (hc : XT X E c ft) (ha : XE X E a fa) (hb : XE X E b fb) : XE X E (.IfExp c a b pos) (eIf ft fa fb) :=
  let ⟨_, o, r⟩ := hc.ex; let ⟨_, p, s⟩ := ha.ex; let ⟨_, q, t⟩ := hb.ex
  ⟨_, pe_ifExp o p q, fun β S w σ Γ Rx R Q hR hG hf hk hx => r β S w σ Γ Rx _ _ hR hG hf (fun k S1 w1 h1 R1 l1 => by
    cases k with
    | true => exact s β S1 w1 σ Γ Rx R Q R1 (hG.later l1) h1 (hk.later l1) (hx.later l1)
    | false => exact t β S1 w1 σ Γ Rx R Q R1 (hG.later l1) h1 (hk.later l1) (hx.later l1)) hx⟩
/-! ### arguments, displays -/
def aNil : FA := fun _ S _ R => R [] S
def aCons (fe : FE) (fr : FA) : FA := fun Γ S Rx R => fe Γ S Rx fun b S1 => fr Γ S1 Rx fun bs S2 => R (b :: bs) S2
variable {fr : FA}
theorem xa_nil : XA X E [] aNil := ⟨_, pa_nil, fun β S w σ Γ Rx R Q hR hG hf hk hx => hk [] S w [] hf hR (.refl _ _) .nil⟩
theorem snd_cons {K : PySem.W.Frag} {t : TE} {u : TA} (s : SndE K E t fa) (r : SndA K E u fr) : SndA K E (tCons t u) (aCons fa fr) := fun β S w σ Γ Rx R Q hR hG hf hk hx =>
  s β S w σ Γ Rx _ _ hR hG hf (fun b S1 w1 v h1 R1 l1 d1 => r β S1 w1 σ Γ Rx _ _ R1 (hG.later l1) h1 (fun bs S2 w2 vs h2 R2 l2 d2 => hk _ S2 w2 _ h2 R2 (l1.trans l2) (.cons (d1.later l2) d2)) (hx.later l1)) hx
theorem xa_cons (ha : XE X E e fa) (hr : XA X E es fr) (hs : starEach (e :: es) X.env = (false, eval e X.env) :: starEach es X.env := by rfl) : XA X E (e :: es) (aCons fa fr) :=
  let ⟨_, p, s⟩ := ha.ex; let ⟨_, q, r⟩ := hr.ex
  ⟨_, pa_cons p q hs, snd_cons s r⟩
/-- all of these for good -/
def asDs : List B → (List D → Prop) → Prop
  | [], k => k []
  | .fz d :: bs, k => asDs bs fun ds => k (d :: ds)
  | _ :: _, _ => False
theorem asDs_ok {K : PySem.W.Frag} {n : Nat} {w : Wd} : ∀ {bs : List B} {vs : List V} {k : List D → Prop}, asDs bs k → DenBL K n w bs vs → ∃ ds, k ds ∧ DenL K w.F ds vs
  | [], _, _, h, .nil => ⟨[], h, .nil⟩
  | .fz d :: bs, _, _, h, .cons h1 t => by
    obtain ⟨ds, h2, h3⟩ := asDs_ok (bs := bs) h t
    exact ⟨d :: ds, h2, .cons h1 h3⟩
  | .mt _ :: _, _, _, h, _ => (show False from h).elim
theorem asDs_map {ds : List D} {k : List D → Prop} (h : k ds) : asDs (ds.map .fz) k := by
  induction ds generalizing k with
  | nil => exact h
  | cons d ds ih => exact ih (k := fun ds => k (d :: ds)) h
def eLst (fr : FA) : FE := fun Γ S Rx R => fr Γ S Rx fun bs S1 => bs.length ≤ sizeLine ∧ asDs bs fun ds => R (.fz (.lst ds)) S1
def eTup (fr : FA) : FE := fun Γ S Rx R => fr Γ S Rx fun bs S1 => bs.length ≤ sizeLine ∧ asDs bs fun ds => R (.fz (.tup ds)) S1
/-- a list that will change -/
def eLstM (fr : FA) : FE := fun Γ S Rx R => fr Γ S Rx fun bs S1 => bs.length ≤ sizeLine ∧ R (.mt S1.length) (S1 ++ [.lst bs])
theorem x_lst (ha : XA X E es fr) : XE X E (.List es pos) (eLst fr) :=
  let ⟨_, p, s⟩ := ha.ex
  ⟨_, pe_lst p, fun β S w σ Γ Rx R Q hR hG hf hk hx => s β S w σ Γ Rx _ _ hR hG hf (fun bs S1 w1 vs h1 R1 l1 d1 => ⟨by rw [← d1.length]; exact h1.1, fun p hp => by
    obtain ⟨ds, h2, h3⟩ := asDs_ok h1.2 d1
    exact (hk.later l1).newL R1 h2 h3 hp⟩) hx⟩
theorem x_tup {k1} (ha : XA X E es fr) : XE X E (.Tuple es k1 pos) (eTup fr) :=
  let ⟨_, p, s⟩ := ha.ex
  ⟨_, pe_tup p, fun β S w σ Γ Rx R Q hR hG hf hk hx => s β S w σ Γ Rx _ _ hR hG hf (fun bs S1 w1 vs h1 R1 l1 d1 => ⟨by rw [← d1.length]; exact h1.1, fun p hp => by
    obtain ⟨ds, h2, h3⟩ := asDs_ok h1.2 d1
    exact (hk.later l1).newT R1 h2 h3 hp⟩) hx⟩
/-- a new cell -/
theorem KOk.newM {K : PySem.W.Frag} {β : Base} {S : Sto} {w : Wd} {R : RB} {Q : VK} {bs : List B} {vs : List V} (hk : KOk K β S.length w R Q) (hR : Rel K β S w) (h : R (.mt S.length) (S ++ [.lst bs])) (hd : DenBL K S.length w bs vs) {p : Addr} (hp : w.H p = none) : Q (.ref p) (upd w.H p (.lst vs)) := by
  obtain ⟨R1, l1⟩ := hR.newC hp (.lst vs) (c := .lst bs) ⟨vs, upd_same, DenBL.later (n := S.length) (w := w) (n' := S.length) (w' := ⟨w.m, w.F, upd w.H p (.lst vs)⟩) ⟨Nat.le_refl _, fun _ _ => rfl, .refl w.F⟩ hd⟩
  exact hk _ _ _ (.ref p) h R1 l1 ⟨by rw [List.length_append]; exact Nat.lt_succ_self _, congrArg V.ref (if_pos rfl).symm⟩
theorem x_lstM (ha : XA X E es fr) : XE X E (.List es pos) (eLstM fr) :=
  let ⟨_, p, s⟩ := ha.ex
  ⟨_, pe_lst p, fun β S w σ Γ Rx R Q hR hG hf hk hx => s β S w σ Γ Rx _ _ hR hG hf (fun bs S1 w1 vs h1 R1 l1 d1 => ⟨by rw [← d1.length]; exact h1.1, fun p hp => (hk.later l1).newM R1 h1.2 d1 hp⟩) hx⟩
/-! ### subscripts, slices -/
theorem atI_len {α γ : Type} {xs : List α} {ys : List γ} (h : xs.length = ys.length) {i : Int} {x : α} (e : atI xs i = some x) : ∃ j : Nat, xs[j]? = some x ∧ ∀ y, ys[j]? = some y → atI ys i = some y := by
  unfold atI at e ⊢
  rw [h] at e
  cases hj : ixN ys.length i with
  | none => rw [hj] at e; cases e
  | some j => rw [hj] at e; exact ⟨j, e, fun y hy => hy⟩
def optK {α : Type} (o : Option α) (k : α → Prop) : Prop := match o with
  | some x => k x
  | none => False
theorem optK_ok {α : Type} {o : Option α} {k : α → Prop} (h : optK o k) : ∃ x, o = some x ∧ k x := by
  cases o with
  | none => exact (show False from h).elim
  | some x => exact ⟨x, rfl, h⟩
def gIx : G2 := fun b c S R => match c with
  | .fz (.int i) => (match b with
    | .fz (.lst ds) => optK (atI ds i) fun d => R (.fz d) S
    | .fz (.tup ds) => optK (atI ds i) fun d => R (.fz d) S
    | .fz (.str z) => z.length ≤ sizeLine ∧ optK (atI z.cps.toList i) fun c => R (.fz (.str ⟨#[c]⟩)) S
    | .mt k => (match S[k]? with
      | some (.lst bs) => optK (atI bs i) fun b => R b S
      | _ => False)
    | _ => False)
  | _ => False
theorem Rel.cellL {K : PySem.W.Frag} {β : Base} {S : Sto} {w : Wd} (hR : Rel K β S w) {k : Nat} {bs : List B} (h : S[k]? = some (.lst bs)) : ∃ vs, w.H (w.m k) = some (.lst vs) ∧ DenBL K S.length w bs vs := (hR.live k _ h (by intro z; cases z)).ok
theorem Rel.cellD {K : PySem.W.Frag} {β : Base} {S : Sto} {w : Wd} (hR : Rel K β S w) {k : Nat} {bs : List (Key × B)} (h : S[k]? = some (.dic bs)) : ∃ vs, w.H (w.m k) = some (.dK vs) ∧ DenBK K S.length w bs vs := (hR.live k _ h (by intro z; cases z)).ok
theorem Rel.cellI {K : PySem.W.Frag} {β : Base} {S : Sto} {w : Wd} (hR : Rel K β S w) {k : Nat} {C : Str} {bs : List (Str × B)} (h : S[k]? = some (.ins C bs)) : ∃ dx vs, w.H (w.m k) = some (.ins (clsAt K C) dx vs) ∧ DenBF K S.length w bs vs := (hR.live k _ h (by intro z; cases z)).ok
theorem cell_lst {S : Sto} {k : Nat} {f : List B → Prop} (h : match S[k]? with
    | some (.lst bs) => f bs
    | _ => False) : ∃ bs, S[k]? = some (.lst bs) ∧ f bs := by
  cases hc : S[k]? with
  | none => rw [hc] at h; exact h.elim
  | some cl =>
    rw [hc] at h
    cases cl with
    | lst bs => exact ⟨bs, rfl, h⟩
    | _ => exact (show False from h).elim
theorem snd_ix {K : PySem.W.Frag} : Snd2 K (rIx K) gIx := fun β S w b c v u R Q hR hb hc hg hk => by
  cases c with
  | mt k => exact (show False from hg).elim
  | fz x =>
    have hc : Den K w.F x u := hc
    cases hc with
    | int i =>
      cases b with
      | mt k =>
        obtain ⟨hk', rfl⟩ := hb
        obtain ⟨bs, e1, h1⟩ := cell_lst (f := fun bs => optK (atI bs i) fun b => R b S) hg
        obtain ⟨b, e2, h2⟩ := optK_ok h1
        obtain ⟨vs, h3, h4⟩ := hR.cellL e1
        obtain ⟨j, e3, e4⟩ := atI_len h4.length e2
        obtain ⟨v, e5, h5⟩ := h4.get e3
        exact .inl ⟨_, vs, i, v, rfl, rfl, SqL.of h3, e4 v e5, hk b S w v h2 hR (.refl _ _) h5⟩
      | fz y =>
        have hb : Den K w.F y v := hb
        cases hb with
        | lst h3 h4 =>
          obtain ⟨d, e2, h2⟩ := optK_ok hg
          obtain ⟨j, e3, e4⟩ := atI_len h4.length e2
          obtain ⟨v, e5, h5⟩ := h4.getD e3
          exact .inl ⟨_, _, i, v, rfl, rfl, SqL.of (hR.fr _ _ h3), e4 v e5, hk.fz hR h2 h5⟩
        | tup h3 h4 =>
          obtain ⟨d, e2, h2⟩ := optK_ok hg
          obtain ⟨j, e3, e4⟩ := atI_len h4.length e2
          obtain ⟨v, e5, h5⟩ := h4.getD e3
          exact .inr (.inl ⟨_, _, i, v, rfl, rfl, sqT_same hR.fr h3, e4 v e5, hk.fz hR h2 h5⟩)
        | str z =>
          obtain ⟨h0, h1⟩ := hg
          obtain ⟨c, e2, h2⟩ := optK_ok h1
          exact .inr (.inr ⟨z, i, c, rfl, rfl, h0, e2, hk.fz hR h2 (.str _)⟩)
        | _ => exact (show False from hg).elim
    | _ => cases b <;> exact (show False from hg).elim
abbrev FO := Ev → Sto → XP → (Option Int → Sto → Prop) → Prop
def SndO (K : PySem.W.Frag) (E : XK) (t : TO) (f : FO) : Prop :=
  ∀ β S w σ Γ Rx R (Q : Option Int → Hp → Prop), Rel K β S w → EvOk K S.length w Γ σ → f Γ S Rx R → (∀ o S' w', R o S' → Rel K β S' w' → Later S.length w S'.length w' → Q o w'.H) → XOk K E β S.length w Rx → t σ w.H Q
structure XO (X : Cx) (E : XK) (e : Option Expr) (f : FO) : Prop where
  ex : ∃ t, PO X e t ∧ SndO X.K E t f
def oNone : FO := fun _ S _ R => R none S
def asInt (R : Int → Sto → Prop) : RB := fun b S => match b with
  | .fz (.int i) => R i S
  | _ => False
theorem asInt_ok {K : PySem.W.Frag} {n : Nat} {w : Wd} {b : B} {v : V} {S : Sto} {R : Int → Sto → Prop} (h : asInt R b S) (hb : DenB K n w b v) : ∃ k, v = .int k ∧ R k S := by
  cases b with
  | mt k => exact (show False from h).elim
  | fz d =>
    have hb : Den K w.F d v := hb
    cases hb <;> first | exact ⟨_, rfl, h⟩ | exact (show False from h).elim
def oSome (f : FE) : FO := fun Γ S Rx R => f Γ S Rx (asInt fun i S1 => R (some i) S1)
theorem xo_none : XO X E none oNone := ⟨_, po_none, fun β S w σ Γ Rx R Q hR hG hf hk hx => hk none S w hf hR (.refl _ _)⟩
theorem xo_some (ha : XE X E e f) : XO X E (some e) (oSome f) :=
  let ⟨_, p, s⟩ := ha.ex
  ⟨_, po_some p, fun β S w σ Γ Rx R Q hR hG hf hk hx => s β S w σ Γ Rx _ _ hR hG hf (fun b S1 w1 v h1 R1 l1 d1 => by
    obtain ⟨i, rfl, h2⟩ := asInt_ok h1 d1
    exact ⟨i, rfl, hk _ S1 w1 h2 R1 l1⟩) hx⟩
def cutA {α : Type} (xs : List α) (lo hi : Option Int) : List α := (xs.drop (HT.sIx xs.length 0 lo)).take (HT.sIx xs.length xs.length hi - HT.sIx xs.length 0 lo)
def gSl (b : B) (lo hi : Option Int) (S : Sto) (R : RB) : Prop := match b with
  | .fz (.lst ds) => R (.fz (.lst (cutA ds lo hi))) S
  | .fz (.tup ds) => ¬ (HT.sIx ds.length 0 lo = 0 ∧ HT.sIx ds.length ds.length hi = ds.length) ∧ R (.fz (.tup (cutA ds lo hi))) S
  | .fz (.str z) => z.length ≤ sizeLine ∧ R (.fz (.str (cutS z lo hi))) S
  | .mt k => (match S[k]? with
    | some (.lst bs) => asDs bs fun ds => R (.fz (.lst (cutA ds lo hi))) S
    | _ => False)
  | _ => False
def rSlA (K : PySem.W.Frag) : V → Option Int → Option Int → Hp → VK → Prop := fun x lo hi H Q => rSlL K x lo hi H Q ∨ rSlT K x lo hi H Q ∨ rSlS x lo hi H Q
theorem sl_all : SlR X (rSlA X.K) := sl_list.or (sl_tup.or sl_str)
theorem DenL.cut {K : PySem.W.Frag} {F : Hp} {ds : List D} {vs : List V} (h : DenL K F ds vs) (lo hi : Option Int) : DenL K F (cutA ds lo hi) (cutV vs lo hi) := by
  unfold cutA cutV
  rw [h.length]
  exact (h.drop _).take _
theorem asDs_eq {bs : List B} {k : List D → Prop} (h : asDs bs k) : ∃ ds, bs = ds.map .fz ∧ k ds := by
  induction bs generalizing k with
  | nil => exact ⟨[], rfl, h⟩
  | cons b bs ih =>
    cases b with
    | mt k => exact (show False from h).elim
    | fz d =>
      obtain ⟨ds, e, h2⟩ := ih (k := fun ds => k (d :: ds)) h
      exact ⟨d :: ds, by rw [e]; rfl, h2⟩
theorem snd_sl {K : PySem.W.Frag} {β : Base} {S : Sto} {w : Wd} {b : B} {v : V} {lo hi : Option Int} {R : RB} {Q : VK} (hR : Rel K β S w) (hb : DenB K S.length w b v) (hg : gSl b lo hi S R) (hk : KOk K β S.length w R Q) : rSlA K v lo hi w.H Q := by
  cases b with
  | mt k =>
    obtain ⟨_, rfl⟩ := hb
    obtain ⟨bs, e1, h1⟩ := cell_lst (f := fun bs => asDs bs fun ds => R (.fz (.lst (cutA ds lo hi))) S) hg
    obtain ⟨vs, h3, h4⟩ := hR.cellL e1
    obtain ⟨ds, rfl, h2⟩ := asDs_eq h1
    have h5 := h4.fz
    exact .inl ⟨_, vs, rfl, SqL.of h3, fun p hp => hk.newL hR h2 (h5.cut lo hi) hp⟩
  | fz y =>
    have hb : Den K w.F y v := hb
    cases hb with
    | lst h3 h4 => exact .inl ⟨_, _, rfl, SqL.of (hR.fr _ _ h3), fun p hp => hk.newL hR hg (h4.cut lo hi) hp⟩
    | tup h3 h4 => exact .inr (.inl ⟨_, _, rfl, sqT_same hR.fr h3, by rw [← h4.length]; exact hg.1, fun p hp => hk.newT hR hg.2 (h4.cut lo hi) hp⟩)
    | str z => exact .inr (.inr ⟨z, rfl, hg.1, hk.fz hR hg.2 (.str _)⟩)
    | _ => exact (show False from hg).elim
def eSl (f : FE) (lo hi : FO) : FE := fun Γ S Rx R => f Γ S Rx fun b S1 => lo Γ S1 Rx fun l S2 => hi Γ S2 Rx fun h S3 => gSl b l h S3 R
theorem xsl {lo hi : Option Expr} {p2 : Pos} {fl fh : FO} (ha : XE X E e f) (hl : XO X E lo fl) (hh : XO X E hi fh) : XE X E (.Subscript e (.Slice lo hi none p2) pos) (eSl f fl fh) :=
  let ⟨_, p, s⟩ := ha.ex; let ⟨_, q, t⟩ := hl.ex; let ⟨_, r, u⟩ := hh.ex
  ⟨_, pe_slice sl_all p q r, fun β S w σ Γ Rx R Q hR hG hf hk hx => s β S w σ Γ Rx _ _ hR hG hf (fun b S1 w1 v h1 R1 l1 d1 =>
    t β S1 w1 σ Γ Rx _ _ R1 (hG.later l1) h1 (fun l S2 w2 h2 R2 l2 => u β S2 w2 σ Γ Rx _ _ R2 (hG.later (l1.trans l2)) h2 (fun h S3 w3 h3 R3 l3 => snd_sl R3 (d1.later (l2.trans l3)) h3 (hk.later ((l1.trans l2).trans l3))) (hx.later (l1.trans l2))) (hx.later l1)) hx⟩
/-! ### built-in functions -/
def eCall (g : GL) (fr : FA) : FE := fun Γ S Rx R => fr Γ S Rx fun bs S1 => g bs S1 R
theorem snd_call {K : PySem.W.Frag} {t : TA} {r : List V → Hp → VK → Prop} {g : GL} (s : SndA K E t fr) (hg : SndL K r g) : SndE K E (tCB r t) (eCall g fr) := fun β S w σ Γ Rx R Q hR hG hf hk hx =>
  s β S w σ Γ Rx _ _ hR hG hf (fun bs S1 w1 vs h1 R1 l1 d1 => hg β S1 w1 bs vs R Q R1 d1 h1 (hk.later l1)) hx
variable {x : Str} {p0 : Pos} {id T : String} {r : List V → Hp → VK → Prop} {g : GL}
theorem xcallB (hc : CallR X (.builtin id) r) (hs : SndL X.K r g) (hg : Gl X x) (hm : X.mg x = none) (hv : bootBuiltins x = some (.builtin id)) (ha : XA X E (e :: es) fr) (hn : x ≠ "__name__" := by decide) (hdb : (x == ("__debug__" : Str)) = false := by decide)
    (he : starEach (e :: es) X.env = (false, eval e X.env) :: starEach es X.env := by rfl) (hpl : (backTo pos (starEach es X.env)).any (·.1) = false := by rfl) : XE X E (.Call (.Name x p0) (e :: es) [] pos) (eCall g fr) :=
  let ⟨_, p, s⟩ := ha.ex; ⟨_, pe_callB hc hg hm hv p hn hdb he hpl, snd_call s hs⟩
theorem xcallTy (hc : CallR X (.type T) r) (hs : SndL X.K r g) (hg : Gl X x) (hm : X.mg x = none) (hv : bootBuiltins x = some (.type T)) (ha : XA X E (e :: es) fr) (hn : x ≠ "__name__" := by decide) (hdb : (x == ("__debug__" : Str)) = false := by decide)
    (he : starEach (e :: es) X.env = (false, eval e X.env) :: starEach es X.env := by rfl) (hpl : (backTo pos (starEach es X.env)).any (·.1) = false := by rfl) : XE X E (.Call (.Name x p0) (e :: es) [] pos) (eCall g fr) :=
  let ⟨_, p, s⟩ := ha.ex; ⟨_, pe_callTy hc hg hm hv p hn hdb he hpl, snd_call s hs⟩
def gLen : GL := fun bs S R => match bs with
  | [.fz (.lst ds)] => R (.fz (.int ds.length)) S
  | [.fz (.tup ds)] => R (.fz (.int ds.length)) S
  | [.fz (.str z)] => z.length ≤ sizeLine ∧ R (.fz (.int z.length)) S
  | [.mt k] => (match S[k]? with
    | some (.lst bs) => R (.fz (.int bs.length)) S
    | _ => False)
  | _ => False
theorem snd_len {K : PySem.W.Frag} : SndL K (fun xs H Q => ∃ x n, xs = [x] ∧ LenV K x H n ∧ Q (.int n) H) gLen := fun β S w bs vs R Q hR hb hg hk => by
  cases hb with
  | nil => exact (show False from hg).elim
  | @cons b v bs vs hb ht =>
    cases ht with
    | cons _ _ => cases b with
      | mt k => exact (show False from hg).elim
      | fz d => cases d <;> exact (show False from hg).elim
    | nil =>
      cases b with
      | mt k =>
        obtain ⟨_, rfl⟩ := hb
        obtain ⟨bs, e1, h1⟩ := cell_lst (f := fun bs => R (.fz (.int bs.length)) S) hg
        obtain ⟨vs, h3, h4⟩ := hR.cellL e1
        exact ⟨_, _, rfl, .inl ⟨vs, SqL.of h3, rfl⟩, hk.fz hR (by rw [← h4.length]; exact h1) (.int _)⟩
      | fz d =>
        have hb : Den K w.F d v := hb
        cases hb with
        | lst h3 h4 => exact ⟨_, _, rfl, .inl ⟨_, SqL.of (hR.fr _ _ h3), rfl⟩, hk.fz hR (by rw [← h4.length]; exact hg) (.int _)⟩
        | tup h3 h4 => exact ⟨_, _, rfl, .inr ⟨_, sqT_same hR.fr h3, rfl⟩, hk.fz hR (by rw [← h4.length]; exact hg) (.int _)⟩
        | str z => exact ⟨_, _, rfl, ⟨hg.1, rfl⟩, hk.fz hR hg.2 (.int _)⟩
        | _ => exact (show False from hg).elim
end
end PL
namespace PL
open PySem L2
/-! ### another entry -/
section
variable {K : PySem.W.Frag} {β : Base} {S S' : Sto} {w w' : Wd}
open Classical
/-- the entry here: all but the living cells is to stay -/
noncomputable def reb (S : Sto) (w : Wd) : Base := ⟨fun a => if ∃ k c, S[k]? = some c ∧ c ≠ Cell.dead ∧ w.m k = a then none else w.H a, w.F, w.m, S.length⟩
theorem reb_live {k : Nat} {c : Cell} (h : S[k]? = some c) (hd : c ≠ .dead) : (reb S w).H0 (w.m k) = none := if_pos ⟨k, c, h, hd, rfl⟩
theorem reb_some {a : Addr} {o : HO} (h : (reb S w).H0 a = some o) : w.H a = some o ∧ ∀ k c, S[k]? = some c → c ≠ .dead → w.m k ≠ a := by
  unfold reb at h
  by_cases z : ∃ k c, S[k]? = some c ∧ c ≠ Cell.dead ∧ w.m k = a
  · have h : (if ∃ k c, S[k]? = some c ∧ c ≠ Cell.dead ∧ w.m k = a then none else w.H a) = some o := h
    rw [if_pos z] at h
    cases h
  · have h : (if ∃ k c, S[k]? = some c ∧ c ≠ Cell.dead ∧ w.m k = a then none else w.H a) = some o := h
    rw [if_neg z] at h
    exact ⟨h, fun k c h1 h2 h3 => z ⟨k, c, h1, h2, h3⟩⟩
theorem reb_of {a : Addr} {o : HO} (h : w.H a = some o) (n : ∀ k c, S[k]? = some c → c ≠ .dead → w.m k ≠ a) : (reb S w).H0 a = some o :=
  (if_neg fun ⟨k, c, h1, h2, h3⟩ => n k c h1 h2 h3).trans h
theorem Rel.reb (R : Rel K β S w) : Rel K (reb S w) S w :=
  ⟨R.fr, fun a o h => (reb_some h).1, .refl _, fun a o h => .inl h, fun _ _ => rfl, Nat.le_refl _, fun k c h hd => let L := R.live k c h hd; ⟨L.nf, reb_live h hd, L.ok⟩, R.inj⟩
theorem reb_none (R : Rel K β S w) {a : Addr} (h : (PL.reb S w).H0 a = none) : β.H0 a = none := by
  by_cases z : ∃ k c, S[k]? = some c ∧ c ≠ Cell.dead ∧ w.m k = a
  · obtain ⟨k, c, h1, h2, rfl⟩ := z
    exact (R.live k c h1 h2).n0
  · have h : (if ∃ k c, S[k]? = some c ∧ c ≠ Cell.dead ∧ w.m k = a then none else w.H a) = none := h
    rw [if_neg z] at h
    exact R.keep.free h
theorem Rel.unreb (R : Rel K β S w) (R' : Rel K (PL.reb S w) S' w') : Rel K β S' w' ∧ Later S.length w S'.length w' := by
  have l : Later S.length w S'.length w' := ⟨R'.n0, fun k h => R'.m0 k h, R'.f0⟩
  refine ⟨⟨R'.fr, fun a o h => ?_, R.f0.trans R'.f0, fun a o h => ?_, fun k h => (R'.m0 k (Nat.lt_of_lt_of_le h R.n0)).trans (R.m0 k h), Nat.le_trans R.n0 R'.n0, fun k c h hd => ?_, R'.inj⟩, l⟩
  · refine R'.keep a o (reb_of (R.keep _ _ h) fun k c h1 h2 e => ?_)
    rw [← e, (R.live k c h1 h2).n0] at h
    cases h
  · rcases R'.fn a o h with q | q
    · exact R.fn a o q
    · exact .inr (reb_none R q)
  · have L := R'.live k c h hd
    exact ⟨L.nf, reb_none R L.n0, L.ok⟩
/-- a thing that nobody knows of changes -/
theorem Rel.updFree (R : Rel K β S w) {D : Addr} {o : HO} (hF : w.F D = none) (h0 : β.H0 D = none) (hl : ∀ k c, S[k]? = some c → c ≠ .dead → w.m k ≠ D) : Rel K β S ⟨w.m, w.F, upd w.H D o⟩ ∧ Later S.length w S.length ⟨w.m, w.F, upd w.H D o⟩ := by
  have lt : Later S.length w S.length ⟨w.m, w.F, upd w.H D o⟩ := ⟨Nat.le_refl _, fun _ _ => rfl, .refl _⟩
  refine ⟨⟨fun b u h => (upd_ne (ne_of_none h hF)).trans (R.fr _ _ h), fun b u h => (upd_ne (ne_of_none h h0)).trans (R.keep _ _ h), R.f0, R.fn, R.m0, R.n0, fun k c h hd => ?_, R.inj⟩, lt⟩
  have L := R.live k c h hd
  exact ⟨L.nf, L.n0, L.ok.later lt (upd_ne (hl k c h hd))⟩
theorem Rel.freshL (R : Rel K β S w) {D : Addr} (h : w.H D = none) : ∀ k c, S[k]? = some c → c ≠ .dead → w.m k ≠ D := fun k c h1 h2 => by
  obtain ⟨o, ho⟩ := (R.live k c h1 h2).ok.some h2
  exact ne_of_none ho h
end
/-! ### statements -/
structure EndsP where
  nx : Ev → Sto → Prop
  rt : B → Sto → Prop
  xe : XP
  bk : Ev → Sto → Prop := fun _ _ => False
  ct : Ev → Sto → Prop := fun _ _ => False
abbrev FS := Ev → Sto → EndsP → Prop
structure EndsOk (K : PySem.W.Frag) (E : XK) (β : Base) (P : EndsP) (D : Ends) : Prop where
  nx : ∀ Γ S w σ, P.nx Γ S → Rel K β S w → EvOk K S.length w Γ σ → D.nx σ w.H
  rt : ∀ b S w v, P.rt b S → Rel K β S w → DenB K S.length w b v → D.rt v w.H
  xe : ∀ C fs S w d vs, P.xe C fs S → Rel K β S w → w.F d = some (.xd vs) → DenF K w.F fs vs → E (.ref (clsAt K C)) (some d) w.H
  bk : ∀ Γ S w σ, P.bk Γ S → Rel K β S w → EvOk K S.length w Γ σ → D.bk σ w.H
  ct : ∀ Γ S w σ, P.ct Γ S → Rel K β S w → EvOk K S.length w Γ σ → D.ct σ w.H
theorem EndsOk.x {K : PySem.W.Frag} {E : XK} {β : Base} {P : EndsP} {D : Ends} (h : EndsOk K E β P D) {n : Nat} {w : Wd} : XOk K E β n w P.xe := fun C fs S' w' d vs r R _ hd hf => h.xe C fs S' w' d vs r R hd hf
def SndS (K : PySem.W.Frag) (E : XK) (t : TS) (f : FS) : Prop := ∀ β S w σ Γ P D, Rel K β S w → EvOk K S.length w Γ σ → f Γ S P → EndsOk K E β P D → t D σ w.H
structure XS (X : Cx) (E : XK) (st : Stmt) (f : FS) : Prop where
  ex : ∃ t, PS X st t ∧ SndS X.K E t f
structure XSs (X : Cx) (E : XK) (st : List Stmt) (f : FS) : Prop where
  ex : ∃ t, PSs X st t ∧ SndS X.K E t f
abbrev FG := B → Ev → Sto → (Ev → Sto → Prop) → Prop
/-- a target: the slots that it stores -/
def SndG (K : PySem.W.Frag) (t : TG) (g : FG) (is : List Nat) : Prop := ∀ β S w σ Γ b v R (Q : St → Hp → Prop), Rel K β S w → EvOk K S.length w Γ σ → DenB K S.length w b v → g b Γ S R →
  (∀ Γ' S' w' σ', R Γ' S' → Rel K β S' w' → Later S.length w S'.length w' → EvOk K S'.length w' Γ' σ' → (∀ vs : List Nat, (∀ i ∈ is, i ∈ vs) → wipe σ' vs = wipe σ vs) → Q σ' w'.H) → t v σ w.H Q
structure XG (X : Cx) (tg : Expr) (g : FG) (is : List Nat) : Prop where
  ex : ∃ t, PG X tg t ∧ SndG X.K t g is
section
variable {X : Cx} {E : XK} {st : Stmt} {rest : List Stmt} {f u : FS} {e : Expr} {fe : FE} {pos : Pos}
def sNext : FS := fun Γ S P => P.nx Γ S
def sSeq (f u : FS) : FS := fun Γ S P => f Γ S { P with nx := fun Γ1 S1 => u Γ1 S1 P }
theorem xss_nil : XSs X E [] sNext := ⟨_, pss_nil, fun β S w σ Γ P D hR hG hf hk => hk.nx Γ S w σ hf hR hG⟩
theorem xss_cons (h : XS X E st f) (hr : XSs X E rest u) : XSs X E (st :: rest) (sSeq f u) :=
  let ⟨_, p, s⟩ := h.ex; let ⟨_, q, r⟩ := hr.ex
  ⟨_, pss_cons p q, fun β S w σ Γ P D hR hG hf hk => s β S w σ Γ _ _ hR hG hf ⟨fun Γ1 S1 w1 σ1 h1 R1 G1 => r β S1 w1 σ1 Γ1 P D R1 G1 h1 hk, hk.rt, hk.xe, hk.bk, hk.ct⟩⟩
theorem xss_one (h : XS X E st f) : XSs X E [st] f := let ⟨_, p, s⟩ := h.ex; ⟨_, pss_one p, s⟩
def sBrk : FS := fun Γ S P => P.bk Γ S
def sCnt : FS := fun Γ S P => P.ct Γ S
theorem xs_pass : XS X E (.Pass pos) sNext := ⟨_, ps_pass, fun β S w σ Γ P D hR hG hf hk => hk.nx Γ S w σ hf hR hG⟩
theorem xs_break : XS X E (.Break pos) sBrk := ⟨_, ps_break, fun β S w σ Γ P D hR hG hf hk => hk.bk Γ S w σ hf hR hG⟩
theorem xs_cont : XS X E (.Continue pos) sCnt := ⟨_, ps_continue, fun β S w σ Γ P D hR hG hf hk => hk.ct Γ S w σ hf hR hG⟩
theorem xs_doc {z j pos'} : XS X E (.Expr (.Constant (.str z) j pos) pos') sNext := ⟨_, ps_doc, fun β S w σ Γ P D hR hG hf hk => hk.nx Γ S w σ hf hR hG⟩
def sExpr (fe : FE) : FS := fun Γ S P => fe Γ S P.xe fun _ S1 => P.nx Γ S1
theorem xs_expr (he : XE X E e fe) (hs : swapsWith e none pos.line X.env = pure false := by rfl) : XS X E (.Expr e pos) (sExpr fe) :=
  let ⟨_, p, s⟩ := he.ex
  ⟨_, ps_expr p hs, fun β S w σ Γ P D hR hG hf hk => s β S w σ Γ _ _ _ hR hG hf (fun b S1 w1 v h1 R1 l1 d1 => hk.nx Γ S1 w1 σ h1 R1 (hG.later l1)) hk.x⟩
def sRet (fe : FE) : FS := fun Γ S P => fe Γ S P.xe P.rt
theorem xs_ret (he : XE X E e fe) : XS X E (.Return (some e) pos) (sRet fe) :=
  let ⟨_, p, s⟩ := he.ex
  ⟨_, ps_ret p, fun β S w σ Γ P D hR hG hf hk => s β S w σ Γ _ _ _ hR hG hf (fun b S1 w1 v h1 R1 l1 d1 => hk.rt b S1 w1 v h1 R1 d1) hk.x⟩
def sRetN : FS := fun _ S P => P.rt (.fz .non) S
theorem xs_retN : XS X E (.Return none pos) sRetN := ⟨_, ps_retN, fun β S w σ Γ P D hR hG hf hk => hk.rt _ S w .non hf hR .non⟩
def sIf (c : FT) (f u : FS) : FS := fun Γ S P => c Γ S P.xe fun k S1 => cnd k (f Γ S1 P) (u Γ S1 P)
theorem xs_if {c : Expr} {a b : List Stmt} {fc : FT} (hc : XT X E c fc) (ha : XSs X E a f) (hb : XSs X E b u) : XS X E (.If c a b pos) (sIf fc f u) :=
  let ⟨_, o, r⟩ := hc.ex; let ⟨_, p, s⟩ := ha.ex; let ⟨_, q, t⟩ := hb.ex
  ⟨_, ps_if o p q, fun β S w σ Γ P D hR hG hf hk => r β S w σ Γ _ _ _ hR hG hf (fun k S1 w1 h1 R1 l1 => by
    cases k with
    | true => exact s β S1 w1 σ Γ P D R1 (hG.later l1) h1 hk
    | false => exact t β S1 w1 σ Γ P D R1 (hG.later l1) h1 hk) hk.x⟩
/-- code that is never come to -/
def sNever : FS := fun _ _ _ => False
theorem xs_never : XS X E st sNever := ⟨_, ps_never, fun β S w σ Γ P D hR hG hf hk => hf⟩
theorem xss_never {sts : List Stmt} : XSs X E sts sNever := ⟨_, pss_never, fun β S w σ Γ P D hR hG hf hk => hf⟩
/-! targets -/
theorem wipe_set {σ : St} {i : Nat} {x : Option V} : ∀ {vs : List Nat}, i ∈ vs → wipe (σ.set i x) vs = wipe σ vs
  | [], h => by cases h
  | v :: vs, h => by
    unfold wipe
    by_cases hi : i ∈ vs
    · rw [wipe_set hi]
    · have e : i = v := by
        rcases List.mem_cons.mp h with e | e
        · exact e
        · exact absurd e hi
      subst e
      have go : ∀ vs : List Nat, i ∉ vs → wipe (σ.set i x) vs = (wipe σ vs).set i x := by
        intro vs
        induction vs with
        | nil => intro _; rfl
        | cons v vs ih =>
          intro hn
          have h1 : i ≠ v := fun e => hn (e ▸ List.mem_cons_self)
          have h2 : i ∉ vs := fun e => hn (List.mem_cons_of_mem _ e)
          show (wipe (σ.set i x) vs).set v none = ((wipe σ vs).set v none).set i x
          rw [ih h2, List.set_comm _ _ h1]
      rw [go vs hi, List.set_set]
def gN (i : Nat) : FG := fun b Γ S R => R (Γ.set i (some b)) S
theorem xg_name {tg : Expr} {i : Nat} (h : PG X tg (gName i)) : XG X tg (gN i) [i] := ⟨_, h, fun β S w σ Γ b v R Q hR hG hb hg hk => hk _ S w _ hg hR (.refl _ _) (hG.set i hb) fun vs hm => wipe_set (hm i List.mem_cons_self)⟩
abbrev FGs := List D → Ev → Sto → (Ev → Sto → Prop) → Prop
def SndGs (K : PySem.W.Frag) (t : TGs) (g : FGs) (is : List Nat) : Prop := ∀ β S w σ Γ ds vs R (Q : St → Hp → Prop), Rel K β S w → EvOk K S.length w Γ σ → DenL K w.F ds vs → g ds Γ S R →
  (∀ Γ' S' w' σ', R Γ' S' → Rel K β S' w' → Later S.length w S'.length w' → EvOk K S'.length w' Γ' σ' → (∀ vs : List Nat, (∀ i ∈ is, i ∈ vs) → wipe σ' vs = wipe σ vs) → Q σ' w'.H) → t vs σ w.H Q
structure XGs (X : Cx) (ts : List Expr) (g : FGs) (is : List Nat) : Prop where
  ex : ∃ t, PGs X ts t ∧ SndGs X.K t g is
def gsN : FGs := fun ds Γ S R => match ds with
  | [] => R Γ S
  | _ => False
def gsC (g : FG) (gs : FGs) : FGs := fun ds Γ S R => match ds with
  | d :: ds => g (.fz d) Γ S fun Γ1 S1 => gs ds Γ1 S1 R
  | [] => False
theorem xgs_nil : XGs X [] gsN [] := ⟨_, pgs_nil, fun β S w σ Γ ds vs R Q hR hG hb hg hk => by
  cases hb with
  | nil => exact ⟨rfl, hk Γ S w σ hg hR (.refl _ _) hG fun _ _ => rfl⟩
  | cons _ _ => exact (show False from hg).elim⟩
theorem xgs_cons {es : List Expr} {g : FG} {gs : FGs} {is js : List Nat} (h1 : XG X e g is) (h2 : XGs X es gs js)
    (hs : (assignEach (e :: es) X.env).map (·.2) = assign e X.env :: (assignEach es X.env).map (·.2) := by rfl) : XGs X (e :: es) (gsC g gs) (is ++ js) :=
  let ⟨_, p, s⟩ := h1.ex; let ⟨_, q, t⟩ := h2.ex
  ⟨_, pgs_cons p q hs, fun β S w σ Γ ds vs R Q hR hG hb hg hk => by
    cases hb with
    | nil => exact (show False from hg).elim
    | cons hd hl => exact ⟨_, _, rfl, s β S w σ Γ (.fz _) _ _ _ hR hG hd hg fun Γ1 S1 w1 σ1 h1 R1 l1 G1 z1 => t β S1 w1 σ1 Γ1 _ _ R _ R1 G1 (DenL.mono l1.F hl) h1 fun Γ2 S2 w2 σ2 h2 R2 l2 G2 z2 =>
        hk Γ2 S2 w2 σ2 h2 R2 (l1.trans l2) G2 fun vs hm => (z2 vs fun i hi => hm i (List.mem_append_right _ hi)).trans (z1 vs fun i hi => hm i (List.mem_append_left _ hi))⟩⟩
/-- a tuple for good -/
def gT (n : Nat) (gs : FGs) : FG := fun b Γ S R => match b with
  | .fz (.tup ds) => ds.length = n ∧ gs ds Γ S R
  | _ => False
theorem xg_tup {es : List Expr} {k : Nat} {gs : FGs} {is : List Nat} {n : Nat} (hc : X.calm = true) (h : XGs X es gs is)
    (hn : (assignEach es X.env).length = n := by rfl) (hst : (assignEach es X.env).findIdx? (·.1) = none := by rfl) : XG X (.Tuple es k pos) (gT n gs) is :=
  let ⟨_, p, s⟩ := h.ex
  ⟨_, pg_tup hc p hn hst, fun β S w σ Γ b v R Q hR hG hb hg hk => by
    cases b with
    | mt k => exact (show False from hg).elim
    | fz d =>
      have hb : Den X.K w.F d v := hb
      cases hb with
      | tup h1 l => exact ⟨_, _, rfl, sqT_same hR.fr h1, l.length.symm.trans hg.1, s β S w σ Γ _ _ R Q hR hG l hg.2 hk⟩
      | _ => exact (show False from hg).elim⟩
def sAsg (fe : FE) (g : FG) : FS := fun Γ S P => fe Γ S P.xe fun b S1 => g b Γ S1 P.nx
theorem xs_asg {tg : Expr} {g : FG} {is : List Nat} (he : XE X E e fe) (hg : XG X tg g is) (hs : swapsWithSole [tg] e pos.line X.env = pure false := by rfl) (hw : swappedStores [tg] e X.env = pure none := by rfl)
    (h1 : (assignEach [tg] X.env).map (·.2) = [assign tg X.env] := by rfl) : XS X E (.Assign [tg] e pos) (sAsg fe g) :=
  let ⟨_, p, s⟩ := he.ex; let ⟨_, q, t⟩ := hg.ex
  ⟨_, ps_asg p q hs hw h1, fun β S w σ Γ P D hR hG hf hk => s β S w σ Γ _ _ _ hR hG hf (fun b S1 w1 v h1 R1 l1 d1 => t β S1 w1 σ Γ b v _ _ R1 (hG.later l1) d1 h1 fun Γ2 S2 w2 σ2 h2 R2 l2 G2 _ => hk.nx Γ2 S2 w2 σ2 h2 R2 G2) hk.x⟩
theorem xs_set {i : Nat} {x : Str} {pos' : Pos} (hN : X.N.Nodup) (hi : X.N[i]? = some x) (hx : Loc X.env.scope x) (he : XE X E e fe) (hs : swapsWith e (some (.Name x pos')) pos.line X.env = pure false := by rfl)
    (hf : X.fn x = true ∨ X.env.scope.names.lookup x = some .local := by first | exact .inl rfl | exact .inr rfl | assumption) : XS X E (.Assign [.Name x pos'] e pos) (sAsg fe (gN i)) :=
  let ⟨_, p, s⟩ := he.ex
  ⟨_, ps_set hN hi hx p hs hf, fun β S w σ Γ P D hR hG hf hk => s β S w σ Γ _ _ _ hR hG hf (fun b S1 w1 v h1 R1 l1 d1 => hk.nx _ S1 w1 _ h1 R1 ((hG.later l1).set i d1)) hk.x⟩
/-- a, b = x, y -/
def sPar (i j : Nat) (fa : FA) : FS := fun Γ S P => fa Γ S P.xe fun bs S1 => match bs with
  | [b, c] => P.nx ((Γ.set i (some b)).set j (some c)) S1
  | _ => False
theorem xs_par {i j : Nat} {a b : Expr} {ps : Stmt} {fa : FA} (h : ∀ {ta : TA}, PA X [a, b] ta → PS X ps (tPar i j ta)) (ha : XA X E [a, b] fa) : XS X E ps (sPar i j fa) :=
  let ⟨_, p, s⟩ := ha.ex
  ⟨_, h p, fun β S w σ Γ P D hR hG hf hk => s β S w σ Γ _ _ _ hR hG hf (fun bs S1 w1 vs h1 R1 l1 d1 => by
    cases d1 with
    | nil => exact (show False from h1).elim
    | cons a1 t1 => cases t1 with
      | nil => exact (show False from h1).elim
      | cons a2 t2 => cases t2 with
        | nil => exact ⟨_, _, rfl, hk.nx _ S1 w1 _ h1 R1 (((hG.later l1).set i a1).set j a2)⟩
        | cons _ _ => exact (show False from h1).elim) hk.x⟩
/-- name op= e -/
def sAug (i : Nat) (fe : FE) (g : G2) : FS := fun Γ S P => match Γ[i]? with
  | some (some b) => fe Γ S P.xe fun c S1 => g b c S1 fun d S2 => P.nx (Γ.set i (some d)) S2
  | _ => False
theorem xs_aug {i : Nat} {x : Str} {op : Operator} {ti : TIp} {g : G2} {pos' : Pos} (hN : X.N.Nodup) (hi : X.N[i]? = some x) (hx : Loc X.env.scope x) (he : XE X E e fe) (ho : PIp X op ti) (hg : Snd2 X.K ti g)
    (hf : X.fn x = true ∨ X.env.scope.names.lookup x = some .local := by first | exact .inl rfl | exact .inr rfl | assumption) : XS X E (.AugAssign (.Name x pos') op e pos) (sAug i fe g) :=
  let ⟨_, p, s⟩ := he.ex
  ⟨_, ps_aug hN hi hx p ho hf, fun β S w σ Γ P D hR hG hf hk => by
    unfold sAug at hf
    cases hb : Γ[i]? with
    | none => rw [hb] at hf; exact hf.elim
    | some o =>
      cases o with
      | none => rw [hb] at hf; exact hf.elim
      | some b =>
        rw [hb] at hf
        obtain ⟨v, h1, h2⟩ := hG.at_ i b hb
        exact ⟨v, h1, s β S w σ Γ _ _ _ hR hG hf (fun c S1 w1 u h3 R1 l1 d1 => hg β S1 w1 b c v u _ _ R1 (h2.later l1) d1 h3 fun d S2 w2 z h4 R2 l2 d2 => hk.nx _ S2 w2 _ h4 R2 ((hG.later (l1.trans l2)).set i d2)) hk.x⟩⟩
/-! while -/
def sWhile (c : FT) (f : FS) : FS := fun Γ S P => ∃ W : Nat → Ev → Sto → Prop, (∃ m, W m Γ S) ∧ ∀ m Γ S, W m Γ S → c Γ S P.xe fun k S1 => cnd k (f Γ S1 { P with nx := fun Γ' S' => ∃ m', m' < m ∧ W m' Γ' S', ct := fun Γ' S' => ∃ m', m' < m ∧ W m' Γ' S', bk := P.nx }) (P.nx Γ S1)
theorem xs_while {c : Expr} {body : List Stmt} {fc : FT} (hp : PassesOwn (model X.prog X.w) X.A X.env X.xe) (hc : XT X E c fc) (hb : XSs X E body f) : XS X E (.While c body [] pos) (sWhile fc f) :=
  let ⟨_, o, r⟩ := hc.ex; let ⟨_, p, s⟩ := hb.ex
  ⟨_, ps_while hp o p, fun β S w σ Γ P D hR hG hf hk => by
    obtain ⟨W, ⟨m, h0⟩, turn⟩ := hf
    refine ⟨fun m σ H => ∃ Γ S w, w.H = H ∧ W m Γ S ∧ Rel X.K β S w ∧ EvOk X.K S.length w Γ σ, ⟨m, Γ, S, w, rfl, h0, hR, hG⟩, ?_⟩
    rintro m σ _ ⟨Γ, S, w, rfl, hW, hR, hG⟩
    refine r β S w σ Γ _ _ _ hR hG (turn m Γ S hW) (fun k S1 w1 h1 R1 l1 => ?_) hk.x
    cases k with
    | false => exact hk.nx Γ S1 w1 σ h1 R1 (hG.later l1)
    | true =>
      refine ⟨fun σ' H' => ∃ Γ' S' w', w'.H = H' ∧ (∃ m', m' < m ∧ W m' Γ' S') ∧ Rel X.K β S' w' ∧ EvOk X.K S'.length w' Γ' σ', fun σ' H' ⟨Γ', S', w', e, ⟨m', lt, hW'⟩, q⟩ => ⟨m', lt, Γ', S', w', e, hW', q⟩, ?_⟩
      have again : ∀ Γ' S' (w' : Wd) σ', (∃ m', m' < m ∧ W m' Γ' S') → Rel X.K β S' w' → EvOk X.K S'.length w' Γ' σ' → ∃ Γ2 S2 w2, w2.H = w'.H ∧ (∃ m', m' < m ∧ W m' Γ2 S2) ∧ Rel X.K β S2 w2 ∧ EvOk X.K S2.length w2 Γ2 σ' := fun Γ' S' w' σ' q R' G' => ⟨Γ', S', w', rfl, q, R', G'⟩
      exact s β S1 w1 σ Γ _ _ R1 (hG.later l1) h1 ⟨again, hk.rt, hk.xe, hk.nx, again⟩⟩
/-! ### what is walked: items for good -/
abbrev FI := Ev → Sto → XP → (List D → Sto → Prop) → Prop
/-- things may be new, nothing else -/
def NewW (w w2 : Wd) : Prop := (∀ D o, w.H D = some o → w2.H D = some o) ∧ ∀ D o, w2.F D = some o → w.F D = some o ∨ w.H D = none
theorem NewW.refl (w : Wd) : NewW w w := ⟨fun _ _ h => h, fun _ _ h => .inl h⟩
/-- .. at each turn: what comes -/
structure ItOk (K : PySem.W.Frag) (β : Base) (ds : List D) (J : It) (n : Nat) (w : Wd) : Prop where
  go : ∀ S' w', Rel K β S' w' → Later n w S'.length w' → ∀ (i : Nat) (d : D), ds[i]? = some d → J.go i w'.H ∧ ∀ x H', J.yld i w'.H x H' → ∃ w2, w2.H = H' ∧ Rel K β S' w2 ∧ Later S'.length w' S'.length w2 ∧ NewW w' w2 ∧ Den K w2.F d x
  stop : ∀ S' w', Rel K β S' w' → Later n w S'.length w' → ∀ i : Nat, ds.length ≤ i → J.stop i w'.H
def SndI (K : PySem.W.Frag) (E : XK) (t : TI) (f : FI) : Prop := ∀ β S w σ Γ Rx R (Q : It → Hp → Prop), Rel K β S w → EvOk K S.length w Γ σ → f Γ S Rx R →
  (∀ ds S' w' J, R ds S' → Rel K β S' w' → Later S.length w S'.length w' → ds.length ≤ sizeLine → ItOk K β ds J S'.length w' → Q J w'.H) → XOk K E β S.length w Rx → t σ w.H Q
structure XI (X : Cx) (E : XK) (tg iter : Expr) (f : FI) : Prop where
  ex : ∃ t, PI X tg iter t ∧ SndI X.K E t f
variable {tg : Expr}
/-- a list for good -/
def iLst (fe : FE) : FI := fun Γ S Rx R => fe Γ S Rx fun b S1 => match b with
  | .fz (.lst ds) => R ds S1
  | _ => False
def iTp (fe : FE) : FI := fun Γ S Rx R => fe Γ S Rx fun b S1 => match b with
  | .fz (.tup ds) => R ds S1
  | _ => False
theorem get_lt {α : Type} {xs : List α} {i : Nat} {x : α} (h : xs[i]? = some x) : i < xs.length := by
  by_cases z : i < xs.length
  · exact z
  · rw [List.getElem?_eq_none (Nat.le_of_not_lt z)] at h
    cases h
end
end PL
namespace PL
open PySem L2
section
variable {X : Cx} {E : XK} {e : Expr} {fe : FE} {pos : Pos} {tg : Expr}
/-- the lengths of what comes -/
def tSz (K : PySem.W.Frag) (t : TE) : TE := fun σ H Q => t σ H fun x H1 => (∀ a xs, x = .ref a → SqL K H1 a xs → xs.length ≤ sizeLine) → (∀ a xs, x = .ref a → SqT K H1 a xs → xs.length ≤ sizeLine) → Q x H1
theorem pe_sz {t : TE} (h : PE X e t) : PE X e (tSz X.K t) := ⟨fun pins s σ H Q I hw => thn (h.run pins s σ H _ I hw) fun v s1 ⟨x, H1, I1, r1, q1⟩ =>
  ⟨x, H1, I1, r1, q1 (fun a xs _ h => let ⟨_, _, _, z⟩ := I1.list h; z) (fun a xs _ h => let ⟨_, _, _, z⟩ := I1.tuple h; z)⟩⟩
/-- .. of what comes, as a premise of what follows -/
def SndZ (K : PySem.W.Frag) (E : XK) (t : TE) (f : FE) : Prop :=
  ∀ β S w σ Γ Rx R (Q : VK), Rel K β S w → EvOk K S.length w Γ σ → f Γ S Rx R → (∀ b S' w' v, R b S' → Rel K β S' w' → Later S.length w S'.length w' → DenB K S'.length w' b v → (∀ ds, b = .fz (.lst ds) → ds.length ≤ sizeLine) → (∀ ds, b = .fz (.tup ds) → ds.length ≤ sizeLine) → Q v w'.H) → XOk K E β S.length w Rx → tSz K t σ w.H Q
theorem sndZ {K : PySem.W.Frag} {t : TE} {f : FE} (s : SndE K E t f) : SndZ K E t f := fun β S w σ Γ Rx R Q hR hG hf hk hx =>
  s β S w σ Γ Rx _ _ hR hG hf (fun b S1 w1 v h1 R1 l1 d1 z1 z2 => hk b S1 w1 v h1 R1 l1 d1 (fun ds e => by
      subst e
      cases (show Den K w1.F _ v from d1) with
      | lst h2 h3 => rw [h3.length]; exact z1 _ _ rfl (SqL.of (R1.fr _ _ h2))) fun ds e => by
      subst e
      cases (show Den K w1.F _ v from d1) with
      | tup h2 h3 => rw [h3.length]; exact z2 _ _ rfl (sqT_same R1.fr h2)) hx
/-! ### what is walked -/
theorem it_list {K : PySem.W.Frag} {β : Base} {n : Nat} {w : Wd} {a : Addr} {ds : List D} {vs : List V} (h : w.F a = some (.lst vs)) (l : DenL K w.F ds vs) : ItOk K β ds (Itl K a) n w where
  go := fun S' w' R' l' i d hd => by
    have h1 := SqL.of (K := K) (R'.fr _ _ (l'.F _ _ h))
    obtain ⟨v, hv, dv⟩ := (DenL.mono l'.F l).getD hd
    exact ⟨⟨vs, v, h1, hv⟩, fun x H' ⟨e, y⟩ => by
      have e2 : x = v := Option.some.inj ((y vs h1).symm.trans hv)
      subst e2
      exact ⟨w', e.symm, R', .refl _ _, NewW.refl _, dv⟩⟩
  stop := fun S' w' R' l' i hi => ⟨vs, SqL.of (R'.fr _ _ (l'.F _ _ h)), by rw [← l.length]; exact hi⟩
theorem it_tup {K : PySem.W.Frag} {β : Base} {n : Nat} {w : Wd} {a : Addr} {ds : List D} {vs : List V} (h : SqT K w.F a vs) (l : DenL K w.F ds vs) : ItOk K β ds (Itt K a) n w where
  go := fun S' w' R' l' i d hd => by
    have h1 := sqT_same R'.fr (sqT_same l'.F h)
    obtain ⟨v, hv, dv⟩ := (DenL.mono l'.F l).getD hd
    exact ⟨⟨vs, v, h1, hv⟩, fun x H' ⟨e, y⟩ => by
      have e2 : x = v := Option.some.inj ((y vs h1).symm.trans hv)
      subst e2
      exact ⟨w', e.symm, R', .refl _ _, NewW.refl _, dv⟩⟩
  stop := fun S' w' R' l' i hi => ⟨vs, sqT_same R'.fr (sqT_same l'.F h), by rw [← l.length]; exact hi⟩
theorem xi_list (he : XE X E e fe) : XI X E tg e (iLst fe) :=
  let ⟨_, p, s⟩ := he.ex
  ⟨_, pi_list (pe_sz p), fun β S w σ Γ Rx R Q hR hG hf hk hx => sndZ s β S w σ Γ Rx _ _ hR hG hf (fun b S1 w1 v h1 R1 l1 d1 z1 z2 => by
    cases b with
    | mt k => exact (show False from h1).elim
    | fz d =>
      have d1 : Den X.K w1.F d v := d1
      cases d1 with
      | lst h2 h3 => exact ⟨_, rfl, ⟨_, SqL.of (R1.fr _ _ h2)⟩, hk _ S1 w1 _ h1 R1 l1 (z1 _ rfl) (it_list h2 h3)⟩
      | _ => exact (show False from h1).elim) hx⟩
theorem xi_tup (he : XE X E e fe) : XI X E tg e (iTp fe) :=
  let ⟨_, p, s⟩ := he.ex
  ⟨_, pi_tup (pe_sz p), fun β S w σ Γ Rx R Q hR hG hf hk hx => sndZ s β S w σ Γ Rx _ _ hR hG hf (fun b S1 w1 v h1 R1 l1 d1 z1 z2 => by
    cases b with
    | mt k => exact (show False from h1).elim
    | fz d =>
      have d1 : Den X.K w1.F d v := d1
      cases d1 with
      | tup h2 h3 => exact ⟨_, rfl, ⟨_, sqT_same R1.fr h2⟩, hk _ S1 w1 _ h1 R1 l1 (z2 _ rfl) (it_tup h2 h3)⟩
      | _ => exact (show False from h1).elim) hx⟩
/-- the signs of a text -/
def chars (z : Str) : List D := z.cps.toList.map fun c => .str ⟨#[c]⟩
def iTxt (fe : FE) : FI := fun Γ S Rx R => fe Γ S Rx fun b S1 => match b with
  | .fz (.str z) => z.length ≤ sizeLine ∧ R (chars z) S1
  | _ => False
theorem chars_at {z : Str} {i : Nat} {d : D} (h : (chars z)[i]? = some d) : ∃ c, z.cps[i]? = some c ∧ d = .str ⟨#[c]⟩ := by
  unfold chars at h
  rw [List.getElem?_map, Array.getElem?_toList] at h
  cases e : z.cps[i]? with
  | none => rw [e] at h; cases h
  | some c => rw [e] at h; cases h; exact ⟨c, rfl, rfl⟩
theorem chars_len {z : Str} : (chars z).length = z.cps.size := by
  unfold chars
  rw [List.length_map, Array.length_toList]
theorem xi_str (he : XE X E e fe) : XI X E tg e (iTxt fe) :=
  let ⟨_, p, s⟩ := he.ex
  ⟨_, pi_str p, fun β S w σ Γ Rx R Q hR hG hf hk hx => s β S w σ Γ Rx _ _ hR hG hf (fun b S1 w1 v h1 R1 l1 d1 => by
    cases b with
    | mt k => exact (show False from h1).elim
    | fz d =>
      have d1 : Den X.K w1.F d v := d1
      cases d1 with
      | str z =>
        refine ⟨z, rfl, hk _ S1 w1 _ h1.2 R1 l1 (by rw [chars_len]; exact h1.1) ⟨fun S' w' R' l' i d hd => ?_, fun S' w' R' l' i hi => by rw [chars_len] at hi; exact hi⟩⟩
        obtain ⟨c, hc, rfl⟩ := chars_at hd
        refine ⟨?_, fun x H' ⟨e, c', hc', ex⟩ => ⟨w', e.symm, R', .refl _ _, NewW.refl _, ?_⟩⟩
        · show i < z.cps.size
          by_cases q : i < z.cps.size
          · exact q
          · rw [Array.getElem?_eq_none (Nat.le_of_not_lt q)] at hc
            cases hc
        · rw [ex, show c' = c from Option.some.inj (hc'.symm.trans hc)]
          exact .str _
      | _ => exact (show False from h1).elim) hx⟩
/-- lo, lo + 1, .. -/
def rangeD (lo : Int) (n : Nat) : List D := (List.range n).map fun k => .int (lo + (k : Nat))
theorem range_at {lo : Int} {n i : Nat} {d : D} (h : (rangeD lo n)[i]? = some d) : i < n ∧ d = .int (lo + i) := by
  unfold rangeD at h
  rw [List.getElem?_map] at h
  by_cases q : i < n
  · rw [List.getElem?_range q] at h
    cases h
    exact ⟨q, rfl⟩
  · rw [List.getElem?_eq_none (by rw [List.length_range]; omega)] at h
    cases h
theorem range_len {lo : Int} {n : Nat} : (rangeD lo n).length = n := by
  unfold rangeD
  rw [List.length_map, List.length_range]
theorem it_range {K : PySem.W.Frag} {β : Base} {n : Nat} {w : Wd} {lo : Int} {k : Nat} : ItOk K β (rangeD lo k) (Itr lo k) n w where
  go := fun S' w' R' l' i d hd => by
    obtain ⟨hi, rfl⟩ := range_at hd
    exact ⟨hi, fun x H' ⟨e, ex⟩ => ⟨w', e.symm, R', .refl _ _, NewW.refl _, by rw [ex]; exact .int _⟩⟩
  stop := fun S' w' R' l' i hi => by rw [range_len] at hi; exact hi
variable {fa : FA} {a b : Expr} {p0 : Pos}
def iRng1P (fa : FA) : FI := fun Γ S Rx R => fa Γ S Rx fun bs S1 => match bs with
  | [.fz (.int j)] => (-(2 ^ 62) ≤ j ∧ j ≤ sizeLine) ∧ R (rangeD 0 j.toNat) S1
  | _ => False
def iRng2P (fa : FA) : FI := fun Γ S Rx R => fa Γ S Rx fun bs S1 => match bs with
  | [.fz (.int i), .fz (.int j)] => (-(2 ^ 62) ≤ i ∧ i < 2 ^ 62 ∧ -(2 ^ 62) ≤ j ∧ j < 2 ^ 62 ∧ j - i ≤ sizeLine) ∧ R (rangeD i (j - i).toNat) S1
  | _ => False
theorem DenBL.one {K : PySem.W.Frag} {n : Nat} {w : Wd} {vs : List V} {b : B} (h : DenBL K n w [b] vs) : ∃ v, vs = [v] ∧ DenB K n w b v := by
  cases h with
  | cons h t => cases t; exact ⟨_, rfl, h⟩
theorem DenBL.two {K : PySem.W.Frag} {n : Nat} {w : Wd} {vs : List V} {b c : B} (h : DenBL K n w [b, c] vs) : ∃ v u, vs = [v, u] ∧ DenB K n w b v ∧ DenB K n w c u := by
  cases h with
  | cons h t => obtain ⟨u, rfl, h2⟩ := t.one; exact ⟨_, u, rfl, h, h2⟩
theorem denInt {K : PySem.W.Frag} {n : Nat} {w : Wd} {i : Int} {v : V} (h : DenB K n w (.fz (.int i)) v) : v = .int i := by
  cases (show Den K w.F (.int i) v from h); rfl
theorem line62 : (sizeLine : Int) < 2 ^ 62 := by rw [sizeLine_eq]; decide
theorem xi_range1 (hg : Gl X "range") (hm : X.mg "range" = none) (ha : XA X E [a] fa) (hs : starEach [a] X.env = [(false, eval a X.env)] := by rfl) : XI X E tg (.Call (.Name "range" p0) [a] [] pos) (iRng1P fa) :=
  let ⟨_, p, s⟩ := ha.ex
  ⟨_, pi_range1 hg hm p hs, fun β S w σ Γ Rx R Q hR hG hf hk hx => s β S w σ Γ Rx _ _ hR hG hf (fun bs S1 w1 vs h1 R1 l1 d1 => by
    match bs, h1, d1 with
    | [.fz (.int j)], h1, d1 =>
      obtain ⟨v, rfl, hv⟩ := d1.one
      have e := denInt hv
      subst e
      have l62 := line62
      obtain ⟨⟨j1, j2⟩, h2⟩ := h1
      exact ⟨j, rfl, j1, by omega, hk _ S1 w1 _ h2 R1 l1 (by rw [range_len]; omega) it_range⟩) hx⟩
theorem xi_range2 (hg : Gl X "range") (hm : X.mg "range" = none) (ha : XA X E [a, b] fa) (hs : starEach [a, b] X.env = [(false, eval a X.env), (false, eval b X.env)] := by rfl) (hs2 : starEach [b] X.env = [(false, eval b X.env)] := by rfl) : XI X E tg (.Call (.Name "range" p0) [a, b] [] pos) (iRng2P fa) :=
  let ⟨_, p, s⟩ := ha.ex
  ⟨_, pi_range2 hg hm p hs hs2, fun β S w σ Γ Rx R Q hR hG hf hk hx => s β S w σ Γ Rx _ _ hR hG hf (fun bs S1 w1 vs h1 R1 l1 d1 => by
    match bs, h1, d1 with
    | [.fz (.int i), .fz (.int j)], h1, d1 =>
      obtain ⟨v, u, rfl, hv, hu⟩ := d1.two
      have e := denInt hv
      subst e
      have e := denInt hu
      subst e
      obtain ⟨⟨j1, j2, j3, j4, j5⟩, h2⟩ := h1
      exact ⟨i, j, rfl, ⟨j1, j2, j3, j4⟩, hk _ S1 w1 _ h2 R1 l1 (by rw [range_len]; omega) it_range⟩) hx⟩
/-- the items with their numbers -/
def enumD : Nat → List D → List D
  | _, [] => []
  | n, d :: ds => .tup [.int (n : Nat), d] :: enumD (n + 1) ds
theorem enum_len : ∀ (n : Nat) (ds : List D), (enumD n ds).length = ds.length
  | _, [] => rfl
  | n, _ :: ds => congrArg (· + 1) (enum_len (n + 1) ds)
theorem enum_at : ∀ {n : Nat} {ds : List D} {i : Nat} {x : D}, (enumD n ds)[i]? = some x → ∃ d, ds[i]? = some d ∧ x = .tup [.int ((n + i : Nat) : Int), d]
  | _, [], i, _, h => by unfold enumD at h; cases h
  | n, d :: ds, 0, _, h => by unfold enumD at h; cases h; exact ⟨d, rfl, rfl⟩
  | n, d :: ds, i + 1, _, h => by
    unfold enumD at h
    obtain ⟨d', h1, h2⟩ := enum_at (n := n + 1) (ds := ds) (i := i) h
    exact ⟨d', h1, by rw [h2]; congr 4; omega⟩
/-- a new pair at a turn -/
theorem new_pair {K : PySem.W.Frag} {β : Base} {S : Sto} {w : Wd} (R : Rel K β S w) {T : Addr} {x y : V} {d e : D} (hT : w.H T = none) (hd : Den K w.F d x) (he : Den K w.F e y) :
    ∃ w2 : Wd, w2.H = upd w.H T (.tup [x, y]) ∧ Rel K β S w2 ∧ Later S.length w S.length w2 ∧ NewW w w2 ∧ Den K w2.F (.tup [d, e]) (.ref T) := by
  obtain ⟨R2, l2⟩ := R.newF hT (.tup [x, y])
  exact ⟨_, rfl, R2, l2, ⟨fun D o q => (upd_ne (ne_of_none q hT)).trans q, fun D o q => by
    by_cases e : D = T
    · subst e; exact .inr hT
    · exact .inl ((upd_ne e).symm.trans q)⟩, .tup (SqT.of upd_same) (.cons (Den.mono l2.F hd) (.cons (Den.mono l2.F he) .nil))⟩
def iEnumP (fa : FA) : FI := fun Γ S Rx R => fa Γ S Rx fun bs S1 => match bs with
  | [.fz (.lst ds)] => R (enumD 0 ds) S1
  | _ => False
/-- lengths of arguments -/
def tSzA (K : PySem.W.Frag) (t : TA) : TA := fun σ H Q => t σ H fun vs H1 => (∀ a xs, V.ref a ∈ vs → SqL K H1 a xs → xs.length ≤ sizeLine) → (∀ a xs, V.ref a ∈ vs → SqT K H1 a xs → xs.length ≤ sizeLine) → Q vs H1
theorem pa_sz {es : List Expr} {t : TA} (h : PA X es t) : PA X es (tSzA X.K t) := ⟨fun pos pins s σ H Q I hw => thn (h.run pos pins s σ H _ I hw) fun v s1 ⟨x, H1, I1, r1, q1⟩ =>
  ⟨x, H1, I1, r1, q1 (fun a xs _ h => let ⟨_, _, _, z⟩ := I1.list h; z) (fun a xs _ h => let ⟨_, _, _, z⟩ := I1.tuple h; z)⟩⟩
theorem xi_enum {elts : List Expr} {kk : Nat} {tpos : Pos} (hg : Gl X "enumerate") (hm : X.mg "enumerate" = none) (ha : XA X E [a] fa) (hs : starEach [a] X.env = [(false, eval a X.env)] := by rfl) : XI X E (.Tuple elts kk tpos) (.Call (.Name "enumerate" p0) [a] [] pos) (iEnumP fa) :=
  let ⟨_, p, s⟩ := ha.ex
  ⟨_, pi_enum hg hm (pa_sz p) hs, fun β S w σ Γ Rx R Q hR hG hf hk hx => s β S w σ Γ Rx _ _ hR hG hf (fun bs S1 w1 vs h1 R1 l1 d1 z1 z2 => by
    match bs, h1, d1 with
    | [.fz (.lst ds)], h1, d1 =>
      obtain ⟨v, rfl, hv⟩ := d1.one
      cases (show Den X.K w1.F (.lst ds) v from hv) with
      | @lst q _ vs h2 h3 =>
        refine ⟨_, _, rfl, SqL.of (R1.fr _ _ h2), hk _ S1 w1 _ h1 R1 l1 (by rw [enum_len, h3.length]; exact z1 _ _ List.mem_cons_self (SqL.of (R1.fr _ _ h2))) ⟨fun S' w' R' l' i d hd => ?_, fun S' w' R' l' i hi => ⟨vs, SqL.of (R'.fr _ _ (l'.F _ _ h2)), by rw [enum_len] at hi; rw [← h3.length]; exact hi⟩⟩⟩
        have h4 := SqL.of (K := X.K) (R'.fr _ _ (l'.F _ _ h2))
        obtain ⟨d', hd', rfl⟩ := enum_at hd
        obtain ⟨v, hv, dv⟩ := (DenL.mono l'.F h3).getD hd'
        refine ⟨⟨vs, v, h4, hv⟩, fun x H' ⟨T, x', e1, e2, e3, y⟩ => ?_⟩
        have e4 : x' = v := Option.some.inj ((y vs h4).symm.trans hv)
        subst e1 e3 e4
        rw [Nat.zero_add]
        exact new_pair R' e2 (.int _) dv) hx⟩
/-- pairs -/
def zipD : List D → List D → List D
  | d :: ds, e :: es => .tup [d, e] :: zipD ds es
  | _, _ => []
theorem zip_at : ∀ {ds es : List D} {i : Nat} {x : D}, (zipD ds es)[i]? = some x → ∃ d e, ds[i]? = some d ∧ es[i]? = some e ∧ x = .tup [d, e]
  | [], _, _, _, h => by unfold zipD at h; cases h
  | _ :: _, [], _, _, h => by unfold zipD at h; cases h
  | d :: ds, e :: es, 0, _, h => by unfold zipD at h; cases h; exact ⟨d, e, rfl, rfl, rfl⟩
  | d :: ds, e :: es, i + 1, _, h => by unfold zipD at h; exact zip_at (ds := ds) (es := es) (i := i) h
theorem zip_len : ∀ (ds es : List D), (zipD ds es).length = min ds.length es.length
  | [], _ => by unfold zipD; exact (Nat.zero_min _).symm
  | _ :: _, [] => by unfold zipD; exact (Nat.min_zero _).symm
  | d :: ds, e :: es => by unfold zipD; rw [List.length_cons, List.length_cons, List.length_cons, zip_len ds es]; omega
def iZipP (fa : FA) : FI := fun Γ S Rx R => fa Γ S Rx fun bs S1 => match bs with
  | [.fz (.lst ds), .fz (.lst es)] => R (zipD ds es) S1
  | [.fz (.tup ds), .fz (.tup es)] => R (zipD ds es) S1
  | _ => False
theorem xi_zip {elts : List Expr} {kk : Nat} {tpos : Pos} (hg : Gl X "zip") (hm : X.mg "zip" = none) (ha : XA X E [a, b] fa) (hs : starEach [a, b] X.env = (false, eval a X.env) :: starEach [b] X.env := by rfl) (hpl : (backTo pos (starEach [b] X.env)).any (·.1) = false := by rfl) :
    XI X E (.Tuple elts kk tpos) (.Call (.Name "zip" p0) [a, b] [] pos) (iZipP fa) :=
  let ⟨_, p, s⟩ := ha.ex
  ⟨_, RZ.pi_zipA hg hm (pa_sz p) hs hpl, fun β S w σ Γ Rx R Q hR hG hf hk hx => s β S w σ Γ Rx _ _ hR hG hf (fun bs S1 w1 vs h1 R1 l1 d1 z1 z2 => by
    match bs, h1, d1 with
    | [.fz (.lst ds), .fz (.lst es)], h1, d1 =>
      obtain ⟨v, u, rfl, hv, hu⟩ := d1.two
      cases (show Den X.K w1.F (.lst ds) v from hv) with
      | @lst q _ vs h2 h3 =>
        cases (show Den X.K w1.F (.lst es) u from hu) with
        | @lst q' _ us h4 h5 =>
          refine ⟨_, _, _, _, rfl, .inl ⟨SqL.of (R1.fr _ _ h2), SqL.of (R1.fr _ _ h4), hk _ S1 w1 _ h1 R1 l1 (by rw [zip_len, h3.length]; have := z1 _ _ List.mem_cons_self (SqL.of (R1.fr _ _ h2)); omega) ⟨fun S' w' R' l' i d hd => ?_, fun S' w' R' l' i hi => ⟨vs, us, SqL.of (R'.fr _ _ (l'.F _ _ h2)), SqL.of (R'.fr _ _ (l'.F _ _ h4)), by rw [zip_len] at hi; rw [← h3.length, ← h5.length]; omega⟩⟩⟩⟩
          have h6 := SqL.of (K := X.K) (R'.fr _ _ (l'.F _ _ h2))
          have h7 := SqL.of (K := X.K) (R'.fr _ _ (l'.F _ _ h4))
          obtain ⟨d', e', hd', he', rfl⟩ := zip_at hd
          obtain ⟨v, hv, dv⟩ := (DenL.mono l'.F h3).getD hd'
          obtain ⟨u, hu, du⟩ := (DenL.mono l'.F h5).getD he'
          refine ⟨⟨vs, us, v, u, h6, h7, hv, hu⟩, fun x H' ⟨T, x', y', e1, e2, e3, y1, y2⟩ => ?_⟩
          have e4 : x' = v := Option.some.inj ((y1 vs h6).symm.trans hv)
          have e5 : y' = u := Option.some.inj ((y2 us h7).symm.trans hu)
          subst e1 e3 e4 e5
          exact new_pair R' e2 dv du
    | [.fz (.tup ds), .fz (.tup es)], h1, d1 =>
      obtain ⟨v, u, rfl, hv, hu⟩ := d1.two
      cases (show Den X.K w1.F (.tup ds) v from hv) with
      | @tup q _ vs h2 h3 =>
        cases (show Den X.K w1.F (.tup es) u from hu) with
        | @tup q' _ us h4 h5 =>
          refine ⟨_, _, _, _, rfl, .inr ⟨sqT_same R1.fr h2, sqT_same R1.fr h4, hk _ S1 w1 _ h1 R1 l1 (by rw [zip_len, h3.length]; have := z2 _ _ List.mem_cons_self (sqT_same R1.fr h2); omega) ⟨fun S' w' R' l' i d hd => ?_, fun S' w' R' l' i hi => ⟨vs, us, sqT_same R'.fr (sqT_same l'.F h2), sqT_same R'.fr (sqT_same l'.F h4), by rw [zip_len] at hi; rw [← h3.length, ← h5.length]; omega⟩⟩⟩⟩
          have h6 := sqT_same R'.fr (sqT_same l'.F h2)
          have h7 := sqT_same R'.fr (sqT_same l'.F h4)
          obtain ⟨d', e', hd', he', rfl⟩ := zip_at hd
          obtain ⟨v, hv, dv⟩ := (DenL.mono l'.F h3).getD hd'
          obtain ⟨u, hu, du⟩ := (DenL.mono l'.F h5).getD he'
          refine ⟨⟨vs, us, v, u, h6, h7, hv, hu⟩, fun x H' ⟨T, x', y', e1, e2, e3, y1, y2⟩ => ?_⟩
          have e4 : x' = v := Option.some.inj ((y1 vs h6).symm.trans hv)
          have e5 : y' = u := Option.some.inj ((y2 us h7).symm.trans hu)
          subst e1 e3 e4 e5
          exact new_pair R' e2 dv du) hx⟩
/-! ### for -/
def forW (g : FG) (f : FS) : List D → Ev → Sto → EndsP → Prop
  | [], Γ, S, P => P.nx Γ S
  | d :: ds, Γ, S, P => g (.fz d) Γ S fun Γ1 S1 => f Γ1 S1 { P with nx := fun Γ2 S2 => forW g f ds Γ2 S2 P, ct := fun Γ2 S2 => forW g f ds Γ2 S2 P, bk := P.nx }
def sFor (fi : FI) (g : FG) (f : FS) : FS := fun Γ S P => fi Γ S P.xe fun ds S1 => forW g f ds Γ S1 P
theorem drop_at {α : Type} {xs : List α} {i : Nat} {x : α} {r : List α} (h : xs.drop i = x :: r) : xs[i]? = some x ∧ xs.drop (i + 1) = r := by
  refine ⟨?_, ?_⟩
  · have := List.getElem?_drop (xs := xs) (i := i) (j := 0)
    rw [h, Nat.add_zero] at this
    exact this.symm
  · rw [← List.drop_drop, h]
    rfl
theorem xs_for {iter : Expr} {body : List Stmt} {fi : FI} {g : FG} {f : FS} {is : List Nat} (hp : PassesOwn (model X.prog X.w) X.A X.env X.xe) (hc : X.calm = true) (hi : XI X E tg iter fi) (hg : XG X tg g is) (hb : XSs X E body f)
    (hs : ∀ x, foldedSetIterable iter X.env x = pure x := by intro _; rfl) : XS X E (.For tg iter body [] pos) (sFor fi g f) :=
  let ⟨_, o, r⟩ := hi.ex; let ⟨_, p, s⟩ := hg.ex; let ⟨_, q, t⟩ := hb.ex
  ⟨_, ps_for hp hc o p q hs, fun β S w σ Γ P De hR hG hf hk => r β S w σ Γ _ _ _ hR hG hf (fun ds S1 w1 J h1 R1 l1 _ it => by
    refine ⟨fun i m σ H => m = ds.length - i ∧ i ≤ ds.length ∧ ∃ Γ S w, w.H = H ∧ Rel X.K β S w ∧ EvOk X.K S.length w Γ σ ∧ Later S1.length w1 S.length w ∧ forW g f (ds.drop i) Γ S P, ⟨ds.length, rfl, Nat.zero_le _, Γ, S1, w1, rfl, R1, hG.later l1, .refl _ _, h1⟩, ?_⟩
    rintro i m σ _ ⟨rfl, hi, Γ, S, w, rfl, hR, hG, l, h⟩
    cases hd : ds.drop i with
    | nil =>
      rw [hd] at h
      have hle : ds.length ≤ i := by
        have := congrArg List.length hd
        rw [List.length_drop] at this
        have z : ([] : List D).length = 0 := rfl
        omega
      exact .inl ⟨it.stop S w hR l i hle, hk.nx Γ S w σ h hR hG⟩
    | cons d r =>
      rw [hd] at h
      obtain ⟨hx, hr⟩ := drop_at hd
      obtain ⟨go, y⟩ := it.go S w hR l i d hx
      have hlt := get_lt hx
      have again : ∀ Γ' S' (w' : Wd) σ', (Later S1.length w1 S'.length w' ∧ forW g f r Γ' S' P) → Rel X.K β S' w' → EvOk X.K S'.length w' Γ' σ' → ∃ Γ2 S2 w2, w2.H = w'.H ∧ Rel X.K β S2 w2 ∧ EvOk X.K S2.length w2 Γ2 σ' ∧ Later S1.length w1 S2.length w2 ∧ forW g f r Γ2 S2 P :=
        fun Γ' S' w' σ' ⟨q1, q2⟩ R' G' => ⟨Γ', S', w', rfl, R', G', q1, q2⟩
      refine .inr ⟨go, fun σ' H' => ∃ Γ2 S2 w2, w2.H = H' ∧ Rel X.K β S2 w2 ∧ EvOk X.K S2.length w2 Γ2 σ' ∧ Later S1.length w1 S2.length w2 ∧ forW g f r Γ2 S2 P, fun σ' H' ⟨Γ2, S2, w2, q1, q2, q3, q4, q5⟩ => ⟨ds.length - (i + 1), by omega, rfl, hlt, Γ2, S2, w2, q1, q2, q3, q4, by rw [hr]; exact q5⟩, fun x H' hy => ?_⟩
      obtain ⟨w2, rfl, R2, l2, _, d2⟩ := y x H' hy
      have h : g (.fz d) Γ S fun Γ1 S1 => f Γ1 S1 { P with nx := fun Γ2 S2 => forW g f r Γ2 S2 P, ct := fun Γ2 S2 => forW g f r Γ2 S2 P, bk := P.nx } := h
      refine s β S w2 σ Γ (.fz d) x _ _ R2 (hG.later l2) d2 h fun Γ3 S3 w3 σ3 h3 R3 l3 G3 _ => ?_
      -- the body, from an entry of its own: what is for good stays
      have back : ∀ {S' : Sto} {w' : Wd}, Rel X.K (reb S3 w3) S' w' → Rel X.K β S' w' ∧ Later S1.length w1 S'.length w' := fun R' => by
        obtain ⟨a1, a2⟩ := R3.unreb R'
        exact ⟨a1, ((l.trans l2).trans l3).trans a2⟩
      exact t (reb S3 w3) S3 w3 σ3 Γ3 _ _ R3.reb G3 h3 ⟨fun Γ' S' w' σ' q R' G' => again Γ' S' w' σ' ⟨(back R').2, q⟩ (back R').1 G', fun b S' w' v q R' d => hk.rt b S' w' v q (back R').1 d,
        fun C fs S' w' d vs q R' z1 z2 => hk.xe C fs S' w' d vs q (back R').1 z1 z2, fun Γ' S' w' σ' q R' G' => hk.nx Γ' S' w' σ' q (back R').1 G', fun Γ' S' w' σ' q R' G' => again Γ' S' w' σ' ⟨(back R').2, q⟩ (back R').1 G'⟩) hk.x⟩
end
end PL
namespace PL
open PySem L2
/-! ### one reading for all contexts -/
theorem allE {ι : Type} {Xf : ι → Cx} {K : PySem.W.Frag} {E : XK} {e : Expr} {f : FE} (hK : ∀ c, (Xf c).K = K) (h : ∀ c, XE (Xf c) E e f) : ∃ t, (∀ c, PE (Xf c) e t) ∧ SndE K E t f := by
  have h' : ∀ c, ∃ t, PE (Xf c) e t ∧ SndE K E t f := fun c => by
    have q := (h c).ex
    rw [hK c] at q
    exact q
  exact ⟨fun σ H Q => ∀ c, (h' c).choose σ H Q, fun c => ⟨fun pins s σ H Q I hw => (h' c).choose_spec.1.run pins s σ H Q I (hw c)⟩, fun β S w σ Γ Rx R Q hR hG hf hk hx c => (h' c).choose_spec.2 β S w σ Γ Rx R Q hR hG hf hk hx⟩
theorem allG {ι : Type} {Xf : ι → Cx} {K : PySem.W.Frag} {tg : Expr} {g : FG} {is : List Nat} (hK : ∀ c, (Xf c).K = K) (h : ∀ c, XG (Xf c) tg g is) : ∃ t, (∀ c, PG (Xf c) tg t) ∧ SndG K t g is := by
  have h' : ∀ c, ∃ t, PG (Xf c) tg t ∧ SndG K t g is := fun c => by
    have q := (h c).ex
    rw [hK c] at q
    exact q
  exact ⟨fun v σ H Q => ∀ c, (h' c).choose v σ H Q, fun c => ⟨fun pins s σ H v u Q I r hw => (h' c).choose_spec.1.run pins s σ H v u Q I r (hw c)⟩, fun β S w σ Γ b v R Q hR hG hb hg hk c => (h' c).choose_spec.2 β S w σ Γ b v R Q hR hG hb hg hk⟩
/-- the tests of a comprehension -/
structure XIfs (X : Cx) (ifs : List Expr) (f : FT) : Prop where
  ex : ∃ t, PTs X ifs t ∧ SndT X.K (fun _ _ _ => False) t f
def tYesP : FT := fun _ S _ R => R true S
theorem xifs_nil {X : Cx} : XIfs X [] tYesP := ⟨_, pts_nil, fun β S w σ Γ Rx R Q hR hG hf hk hx => hk true S w hf hR (.refl _ _)⟩
theorem xifs_one {X : Cx} {c : Expr} {f : FT} (h : XT X (fun _ _ _ => False) c f) : XIfs X [c] f := let ⟨_, p, s⟩ := h.ex; ⟨_, pts_one p, s⟩
theorem allIf {ι : Type} {Xf : ι → Cx} {K : PySem.W.Frag} {ifs : List Expr} {f : FT} (hK : ∀ c, (Xf c).K = K) (h : ∀ c, XIfs (Xf c) ifs f) : ∃ t, (∀ c, PTs (Xf c) ifs t) ∧ SndT K (fun _ _ _ => False) t f := by
  have h' : ∀ c, ∃ t, PTs (Xf c) ifs t ∧ SndT K (fun _ _ _ => False) t f := fun c => by
    have q := (h c).ex
    rw [hK c] at q
    exact q
  exact ⟨fun σ H Q => ∀ c, (h' c).choose σ H Q, fun c => ⟨fun pins s σ H Q I hw => (h' c).choose_spec.1.run pins s σ H Q I (hw c)⟩, fun β S w σ Γ Rx R Q hR hG hf hk hx c => (h' c).choose_spec.2 β S w σ Γ Rx R Q hR hG hf hk hx⟩
abbrev noX : XP := fun _ _ _ => False
theorem xok_no {K : PySem.W.Frag} {E : XK} {β : Base} {n : Nat} {w : Wd} : XOk K E β n w noX := fun _ _ _ _ _ _ h => h.elim
/-! ### comprehensions -/
def lcW (g : FG) (ft : FT) (fe : FE) (Γ0 : Ev) : List D → List B → Sto → (List B → Sto → Prop) → Prop
  | [], acc, S, R => R acc S
  | d :: ds, acc, S, R => g (.fz d) Γ0 S fun Γ1 S1 => ft Γ1 S1 noX fun k S2 => cnd k (fe Γ1 S2 noX fun b S3 => lcW g ft fe Γ0 ds (acc ++ [b]) S3 R) (lcW g ft fe Γ0 ds acc S2 R)
def eLc (fi : FI) (g : FG) (ft : FT) (fe : FE) (is : List Nat) : FE := fun Γ S Rx R => fi Γ S Rx fun ds S1 => lcW g ft fe (EvWipe Γ is) ds [] S1 fun out S2 => asDs out fun os => R (.fz (.lst os)) S2
/-- .. the list will change -/
def eLcM (fi : FI) (g : FG) (ft : FT) (fe : FE) (is : List Nat) : FE := fun Γ S Rx R => fi Γ S Rx fun ds S1 => lcW g ft fe (EvWipe Γ is) ds [] S1 fun out S2 => R (.mt S2.length) (S2 ++ [.lst out])
theorem wipe_in (σ : St) (i : Nat) : ∀ {vs : List Nat}, i ∈ vs → (wipe σ vs).set i none = wipe σ vs
  | [], h => by cases h
  | v :: vs, h => by
    show ((wipe σ vs).set v none).set i none = (wipe σ vs).set v none
    by_cases e : i = v
    · rw [e, List.set_set]
    · have h2 : i ∈ vs := (List.mem_cons.mp h).resolve_left e
      rw [List.set_comm none none (Ne.symm e), wipe_in σ i h2]
theorem wipe_sub (σ : St) (vs : List Nat) : ∀ us : List Nat, (∀ i ∈ us, i ∈ vs) → wipe (wipe σ vs) us = wipe σ vs
  | [], _ => rfl
  | u :: us, h => by
    show (wipe (wipe σ vs) us).set u none = wipe σ vs
    rw [wipe_sub σ vs us fun i hi => h i (List.mem_cons_of_mem _ hi), wipe_in σ u (h u List.mem_cons_self)]
section
variable {K : PySem.W.Frag} {β : Base} {S : Sto} {w : Wd}
theorem Rel.adoptF (R : Rel K β S w) {D : Addr} {o : HO} (hD : w.H D = some o) (hF : w.F D = none) (h0 : β.H0 D = none) (hl : ∀ k c, S[k]? = some c → c ≠ .dead → w.m k ≠ D) :
    Rel K β S ⟨w.m, upd w.F D o, w.H⟩ ∧ Later S.length w S.length ⟨w.m, upd w.F D o, w.H⟩ := by
  have lt : Later S.length w S.length ⟨w.m, upd w.F D o, w.H⟩ := ⟨Nat.le_refl _, fun _ _ => rfl, fun b u h => (upd_ne (ne_of_none h hF)).trans h⟩
  refine ⟨⟨fun b u h => ?_, R.keep, fun b u h => lt.F _ _ (R.f0 _ _ h), fun b u h => ?_, R.m0, R.n0, fun k c h hd => ?_, R.inj⟩, lt⟩
  · by_cases e : b = D
    · subst e
      have h : upd w.F b o b = some u := h
      rw [upd_same] at h
      exact h ▸ hD
    · exact R.fr _ _ ((upd_ne e).symm.trans h)
  · by_cases e : b = D
    · subst e; exact .inr h0
    · exact R.fn _ _ ((upd_ne e).symm.trans h)
  · have L := R.live k c h hd
    exact ⟨(upd_ne (hl k c h hd)).trans L.nf, L.n0, L.ok.later lt rfl⟩
theorem Rel.adoptC (R : Rel K β S w) {D : Addr} {c : Cell} (hc : CellOk K S.length w D c) (hd : c ≠ .dead) (hF : w.F D = none) (h0 : β.H0 D = none) (hl : ∀ k c, S[k]? = some c → c ≠ .dead → w.m k ≠ D) :
    Rel K β (S ++ [c]) ⟨fun k => if k = S.length then D else w.m k, w.F, w.H⟩ ∧ Later S.length w (S ++ [c]).length ⟨fun k => if k = S.length then D else w.m k, w.F, w.H⟩ := by
  have lt : Later S.length w (S ++ [c]).length ⟨fun k => if k = S.length then D else w.m k, w.F, w.H⟩ :=
    ⟨by rw [List.length_append]; exact Nat.le_add_right _ _, fun k h => if_neg (Nat.ne_of_lt h), .refl _⟩
  have get : ∀ {k : Nat} {c' : Cell}, (S ++ [c])[k]? = some c' → (k < S.length ∧ S[k]? = some c') ∨ (k = S.length ∧ c' = c) := fun {k c'} h => by
    by_cases e : k < S.length
    · rw [List.getElem?_append_left e] at h
      exact .inl ⟨e, h⟩
    · rw [List.getElem?_append_right (Nat.le_of_not_lt e)] at h
      by_cases e2 : k - S.length = 0
      · rw [e2] at h
        cases h
        exact .inr ⟨by omega, rfl⟩
      · rw [List.getElem?_eq_none (by simp only [List.length_cons, List.length_nil]; omega)] at h
        cases h
  refine ⟨⟨R.fr, R.keep, R.f0, R.fn, fun k h => (if_neg (Nat.ne_of_lt (Nat.lt_of_lt_of_le h R.n0))).trans (R.m0 k h), Nat.le_trans R.n0 lt.le, fun k c' h hc' => ?_, fun i j ci cj hi hj di dj e => ?_⟩, lt⟩
  · rcases get h with ⟨e, h⟩ | ⟨e, rfl⟩
    · have L := R.live k c' h hc'
      have em : (if k = S.length then D else w.m k) = w.m k := if_neg (Nat.ne_of_lt e)
      show Live K _ _ _ (if k = S.length then D else w.m k) c'
      rw [em]
      exact ⟨L.nf, L.n0, L.ok.later lt rfl⟩
    · have em : (if k = S.length then D else w.m k) = D := if_pos e
      show Live K _ _ _ (if k = S.length then D else w.m k) c'
      rw [em]
      exact ⟨hF, h0, hc.later lt rfl⟩
  · have e : (if i = S.length then D else w.m i) = (if j = S.length then D else w.m j) := e
    rcases get hi with ⟨li, hi'⟩ | ⟨li, _⟩ <;> rcases get hj with ⟨lj, hj'⟩ | ⟨lj, _⟩
    · rw [if_neg (Nat.ne_of_lt li), if_neg (Nat.ne_of_lt lj)] at e
      exact R.inj i j ci cj hi' hj' di dj e
    · rw [if_neg (Nat.ne_of_lt li), if_pos lj] at e
      exact absurd e (hl i ci hi' di)
    · rw [if_pos li, if_neg (Nat.ne_of_lt lj)] at e
      exact absurd e.symm (hl j cj hj' dj)
    · exact li.trans lj.symm
end
section
variable {X : Cx} {E : XK} {e elt tg iter : Expr} {ifs : List Expr} {scope : Scope} {own : List (Str × Nat)} {fi : FI} {g : FG} {ft : FT} {fe : FE} {pos : Pos} {is : List Nat}
/-- the list's walk; fin: what becomes of the new list -/
theorem lc_snd {K : PySem.W.Frag} {E : XK} {wi : TI} {tgt : TG} {tt : TT} {te : TE} {vs : List Nat} {fin : List B → Sto → RB → Prop}
    (hi : SndI K E wi fi) (hg : SndG K tgt g is) (hin : ∀ i ∈ is, i ∈ vs) (ht : SndT K (fun _ _ _ => False) tt ft) (he : SndE K (fun _ _ _ => False) te fe)
    (hfin : ∀ β S w out R Q D us, Rel K β S w → fin out S R → DenBL K S.length w out us → w.H D = some (.lst us) → w.F D = none → β.H0 D = none → (∀ k c, S[k]? = some c → c ≠ .dead → w.m k ≠ D) → KOk K β S.length w R Q → Q (.ref D) w.H) :
    SndE K E (tLc wi tgt tt te vs) (fun Γ S Rx R => fi Γ S Rx fun ds S1 => lcW g ft fe (EvWipe Γ vs) ds [] S1 fun out S2 => fin out S2 R) := fun β S w σ Γ Rx R Q hR hG hf hk hx =>
  hi β S w σ Γ Rx _ _ hR hG hf (fun ds S1 w1 J h1 R1 l1 zs it D hD => by
    have G1 := (hG.later l1).wipe vs
    obtain ⟨R2, l2⟩ := R1.updFree (o := .lst []) (R1.fr.free hD) (R1.keep.free hD) (R1.freshL hD)
    refine ⟨fun i m H => m = ds.length - i ∧ i ≤ ds.length ∧ ∃ S w acc us, w.H = H ∧ Rel K β S w ∧ Later S1.length w1 S.length w ∧ w.H D = some (.lst us) ∧ DenBL K S.length w acc us ∧ w.F D = none ∧ β.H0 D = none ∧ (∀ k c, S[k]? = some c → c ≠ .dead → w.m k ≠ D) ∧ acc.length ≤ i ∧ lcW g ft fe (EvWipe Γ vs) (ds.drop i) acc S fun out S2 => fin out S2 R,
      ⟨ds.length, rfl, Nat.zero_le _, S1, _, [], [], rfl, R2, l2, upd_same, .nil, R1.fr.free hD, R1.keep.free hD, R1.freshL hD, Nat.le_refl _, h1⟩, ?_⟩
    rintro i m _ ⟨rfl, hi, S, w, acc, us, rfl, hR, l, hw, hacc, hF, h0, hl, hn, h⟩
    cases hd : ds.drop i with
    | nil =>
      rw [hd] at h
      have hle : ds.length ≤ i := by
        have := congrArg List.length hd
        rw [List.length_drop] at this
        have z : ([] : List PL.D).length = 0 := rfl
        omega
      exact .inl ⟨it.stop S w hR l i hle, hfin β S w acc R Q D us hR h hacc hw hF h0 hl (hk.later (l1.trans l))⟩
    | cons d r =>
      rw [hd] at h
      obtain ⟨hx, hr⟩ := drop_at hd
      obtain ⟨go, y⟩ := it.go S w hR l i d hx
      have hlt := get_lt hx
      refine .inr ⟨go, fun H' => ∃ S w acc us, w.H = H' ∧ Rel K β S w ∧ Later S1.length w1 S.length w ∧ w.H D = some (.lst us) ∧ DenBL K S.length w acc us ∧ w.F D = none ∧ β.H0 D = none ∧ (∀ k c, S[k]? = some c → c ≠ .dead → w.m k ≠ D) ∧ acc.length ≤ i + 1 ∧ lcW g ft fe (EvWipe Γ vs) r acc S fun out S2 => fin out S2 R,
        fun H' ⟨S, w, acc, us, q1, q2, q3, q4, q5, q6, q7, q8, q9, q10⟩ => ⟨ds.length - (i + 1), by omega, rfl, hlt, S, w, acc, us, q1, q2, q3, q4, q5, q6, q7, q8, q9, by rw [hr]; exact q10⟩, fun x H' hy => ?_⟩
      obtain ⟨w2, rfl, R2, l2, sm, d2⟩ := y x H' hy
      have hw2 := sm.1 _ _ hw
      have hF2 : w2.F D = none := by
        cases q : w2.F D with
        | none => rfl
        | some o =>
          rcases sm.2 D o q with z | z
          · rw [hF] at z; cases z
          · rw [hw] at z; cases z
      have hl2 : ∀ k c, S[k]? = some c → c ≠ .dead → w2.m k ≠ D := fun k c h1 h2 e => by
        rw [l2.m k (get_lt h1)] at e
        exact hl k c h1 h2 e
      have G2 := ((hG.later (l1.trans l)).later l2).wipe vs
      have kept : ∀ {S' : Sto} {w' : Wd}, Rel K (reb S w2) S' w' → w'.H D = some (.lst us) ∧ w'.F D = none ∧ (∀ k c, S'[k]? = some c → c ≠ .dead → w'.m k ≠ D) := fun {S' w'} R' => by
        have hD0 : (reb S w2).H0 D = some (.lst us) := reb_of hw2 hl2
        refine ⟨R'.keep _ _ hD0, ?_, fun k c h1 h2 e => ?_⟩
        · cases q : w'.F D with
          | none => rfl
          | some o =>
            rcases R'.fn D o q with z | z
            · have z : w2.F D = some o := z
              rw [hF2] at z; cases z
            · rw [hD0] at z; cases z
        · have := (R'.live k c h1 h2).n0
          rw [e, hD0] at this
          cases this
      have back : ∀ {S' : Sto} {w' : Wd}, Rel K (reb S w2) S' w' → Rel K β S' w' ∧ Later S.length w S'.length w' := fun R' => by
        obtain ⟨a1, a2⟩ := R2.unreb R'
        exact ⟨a1, l2.trans a2⟩
      refine hg (reb S w2) S w2 _ (EvWipe Γ vs) (.fz d) x _ _ R2.reb G2 d2 h fun Γ3 S3 w3 σ3 h3 R3 l3 G3 wp => ⟨(wp vs hin).trans (wipe_sub σ vs vs fun _ h => h), ?_⟩
      refine ht (reb S w2) S3 w3 σ3 Γ3 noX _ _ R3 G3 h3 (fun k S4 w4 h4 R4 l4 => ?_) xok_no
      cases k with
      | false =>
        obtain ⟨k1, k2, k3⟩ := kept R4
        obtain ⟨b1, b2⟩ := back R4
        exact ⟨S4, w4, acc, us, rfl, b1, l.trans b2, k1, hacc.later b2, k2, h0, k3, Nat.le_succ_of_le hn, h4⟩
      | true =>
        refine he (reb S w2) S4 w4 σ3 Γ3 noX _ _ R4 (G3.later l4) h4 (fun b S5 w5 v h5 R5 l5 d5 => ?_) xok_no
        obtain ⟨k1, k2, k3⟩ := kept R5
        obtain ⟨b1, b2⟩ := back R5
        have la := hacc.length
        obtain ⟨R6, l6⟩ := b1.updFree (o := .lst (us ++ [v])) k2 h0 k3
        exact ⟨us, k1, by omega, S5, _, acc ++ [b], us ++ [v], rfl, R6, l.trans (b2.trans l6), upd_same, ((hacc.later b2).later l6).app (.cons (d5.later l6) .nil), k2, h0, k3, by rw [List.length_append]; exact Nat.succ_le_succ hn, h5⟩) hx
abbrev Ctx5 := Shared × Hp × Addr × List (Str × Addr) × List Addr
theorem x_lcG {E : XK} {fin : List B → Sto → RB → Prop} (hc : X.calm = true) (hN : X.N.Nodup) (hi : XI X E tg iter fi) (ok : BlkOk X.N X.env.scope scope own) (hin : ∀ i ∈ is, i ∈ own.map (·.2))
    (hg : ∀ c : Ctx5, XG (X.blk c.1 c.2.1 scope (compEnvC scope c.2.2.2.1 c.2.2.1 X.env) c.2.2.2.2) tg g is)
    (ht : ∀ c : Ctx5, XIfs (X.blk c.1 c.2.1 scope (compEnvC scope c.2.2.2.1 c.2.2.1 X.env) c.2.2.2.2) ifs ft)
    (he : ∀ c : Ctx5, XE (X.blk c.1 c.2.1 scope (compEnvC scope c.2.2.2.1 c.2.2.1 X.env) c.2.2.2.2) (fun _ _ _ => False) elt fe)
    (hfin : ∀ β S w out R Q D us, Rel X.K β S w → fin out S R → DenBL X.K S.length w out us → w.H D = some (.lst us) → w.F D = none → β.H0 D = none → (∀ k c, S[k]? = some c → c ≠ .dead → w.m k ≠ D) → KOk X.K β S.length w R Q → Q (.ref D) w.H)
    (hs : ∀ x, foldedSetIterable iter X.env x = pure x := by intro _; rfl) :
    XE X E (.ListComp elt [⟨tg, iter, ifs, 0⟩] scope pos) (fun Γ S Rx R => fi Γ S Rx fun ds S1 => lcW g ft fe (EvWipe Γ (own.map (·.2))) ds [] S1 fun out S2 => fin out S2 R) :=
  let ⟨_, o, r⟩ := hi.ex
  let ⟨_, p, s⟩ := allG (Xf := fun c : Ctx5 => X.blk c.1 c.2.1 scope (compEnvC scope c.2.2.2.1 c.2.2.1 X.env) c.2.2.2.2) (K := X.K) (fun _ => rfl) hg
  let ⟨_, q, t⟩ := allIf (Xf := fun c : Ctx5 => X.blk c.1 c.2.1 scope (compEnvC scope c.2.2.2.1 c.2.2.1 X.env) c.2.2.2.2) (K := X.K) (fun _ => rfl) ht
  let ⟨_, u, v⟩ := allE (Xf := fun c : Ctx5 => X.blk c.1 c.2.1 scope (compEnvC scope c.2.2.2.1 c.2.2.1 X.env) c.2.2.2.2) (K := X.K) (fun _ => rfl) he
  ⟨_, pe_lc hc hN o ok (fun s H C cl fp => p (s, H, C, cl, fp)) (fun s H C cl fp => q (s, H, C, cl, fp)) (fun s H C cl fp => u (s, H, C, cl, fp)) hs, lc_snd r s hin t v hfin⟩
theorem x_lc (hc : X.calm = true) (hN : X.N.Nodup) (hi : XI X E tg iter fi) (ok : BlkOk X.N X.env.scope scope own) (hin : ∀ i ∈ is, i ∈ own.map (·.2))
    (hg : ∀ c : Ctx5, XG (X.blk c.1 c.2.1 scope (compEnvC scope c.2.2.2.1 c.2.2.1 X.env) c.2.2.2.2) tg g is)
    (ht : ∀ c : Ctx5, XIfs (X.blk c.1 c.2.1 scope (compEnvC scope c.2.2.2.1 c.2.2.1 X.env) c.2.2.2.2) ifs ft)
    (he : ∀ c : Ctx5, XE (X.blk c.1 c.2.1 scope (compEnvC scope c.2.2.2.1 c.2.2.1 X.env) c.2.2.2.2) (fun _ _ _ => False) elt fe)
    (hs : ∀ x, foldedSetIterable iter X.env x = pure x := by intro _; rfl) : XE X E (.ListComp elt [⟨tg, iter, ifs, 0⟩] scope pos) (eLc fi g ft fe (own.map (·.2))) :=
  x_lcG (fin := fun out S2 R => asDs out fun os => R (.fz (.lst os)) S2) hc hN hi ok hin hg ht he (fun β S w out R Q D us hR h hacc hw hF h0 hl hk => by
    obtain ⟨os, h2, h3⟩ := asDs_ok h hacc
    obtain ⟨R2, l2⟩ := hR.adoptF hw hF h0 hl
    exact hk _ S ⟨w.m, upd w.F D (.lst us), w.H⟩ (.ref D) h2 R2 l2 (Den.lst (vs := us) upd_same (DenL.mono l2.F h3))) hs
theorem x_lcM (hc : X.calm = true) (hN : X.N.Nodup) (hi : XI X E tg iter fi) (ok : BlkOk X.N X.env.scope scope own) (hin : ∀ i ∈ is, i ∈ own.map (·.2))
    (hg : ∀ c : Ctx5, XG (X.blk c.1 c.2.1 scope (compEnvC scope c.2.2.2.1 c.2.2.1 X.env) c.2.2.2.2) tg g is)
    (ht : ∀ c : Ctx5, XIfs (X.blk c.1 c.2.1 scope (compEnvC scope c.2.2.2.1 c.2.2.1 X.env) c.2.2.2.2) ifs ft)
    (he : ∀ c : Ctx5, XE (X.blk c.1 c.2.1 scope (compEnvC scope c.2.2.2.1 c.2.2.1 X.env) c.2.2.2.2) (fun _ _ _ => False) elt fe)
    (hs : ∀ x, foldedSetIterable iter X.env x = pure x := by intro _; rfl) : XE X E (.ListComp elt [⟨tg, iter, ifs, 0⟩] scope pos) (eLcM fi g ft fe (own.map (·.2))) :=
  x_lcG (fin := fun out S2 R => R (.mt S2.length) (S2 ++ [.lst out])) hc hN hi ok hin hg ht he (fun β S w out R Q D us hR h hacc hw hF h0 hl hk => by
    obtain ⟨R2, l2⟩ := hR.adoptC (c := .lst out) ⟨us, hw, hacc⟩ (by intro z; cases z) hF h0 hl
    exact hk _ _ ⟨fun k => if k = S.length then D else w.m k, w.F, w.H⟩ (.ref D) h R2 l2 ⟨by rw [List.length_append]; exact Nat.lt_succ_self _, congrArg V.ref (if_pos rfl).symm⟩) hs
end
end PL
namespace PL
open PySem L2
/-! ### defs -/
/-- what a def does: the arguments, the cells, what is wanted of an exception, of the value -/
abbrev FW := List B → Sto → XP → RB → Prop
/-- the promise of a def that may raise; of one that does not -/
def spX (K : PySem.W.Frag) (W : FW) : Sp := fun vs H Q E => ∃ β S w bs Rx R, w.H = H ∧ Rel K β S w ∧ DenBL K S.length w bs vs ∧ W bs S Rx R ∧ KOk K β S.length w R Q ∧ XOk K E β S.length w Rx
def spP (K : PySem.W.Frag) (W : FW) : Sp := fun vs H Q _ => ∃ β S w bs R, w.H = H ∧ Rel K β S w ∧ DenBL K S.length w bs vs ∧ W bs S noX R ∧ KOk K β S.length w R Q
/-- a def of n parameters and m further names -/
def defW (n m : Nat) (f : FS) : FW := fun bs S Rx R => bs.length = n ∧ f (bs.map some ++ List.replicate m none) S { nx := fun _ S' => R (.fz .non) S', rt := R, xe := Rx }
theorem start_ok {K : PySem.W.Frag} {n : Nat} {w : Wd} {N : List Str} {m : Nat} : ∀ {bs : List B} {vs : List V}, DenBL K n w bs vs → N.length = bs.length + m → EvOk K n w (bs.map some ++ List.replicate m none) (L2.start N vs) := fun {bs vs} h hN => by
  refine ⟨?_, fun i b e => ?_⟩
  · unfold L2.start
    rw [List.length_append, List.length_map, List.length_replicate, List.length_append, List.length_map, List.length_replicate, h.length]
    have := h.length
    omega
  · by_cases hi : i < bs.length
    · rw [List.getElem?_append_left (by rw [List.length_map]; exact hi), List.getElem?_map] at e
      cases hb : bs[i]? with
      | none => rw [hb] at e; cases e
      | some b' =>
        rw [hb] at e
        cases e
        obtain ⟨v, h1, h2⟩ := h.get hb
        refine ⟨v, ?_, h2⟩
        unfold L2.start
        rw [List.getElem?_append_left (by rw [List.length_map, ← h.length]; exact hi), List.getElem?_map, h1]
        rfl
    · rw [List.getElem?_append_right (by rw [List.length_map]; omega), List.getElem?_replicate] at e
      split at e <;> cases e
section
variable {P : Program} {w : World} {K : PySem.W.Frag} {mg : Str → Option Value} {base : Heap}
theorem okP {x qual : Str} {st : Stmt} {f : Addr} {fd : FuncData} {N ps : List Str} {k n m : Nat} {fb : FS} (F : Fun K x qual st f fd) (S : FnScope N ps (defScope st)) (hn : ps.length = n) (hm : N.length = n + m)
    (hbody : ∀ (cdv : Value) (A : Around) (outer : List Env) (s : Shared) (H : Hp) (E : XK), Room k (A.deeper (PyProof.Rows.envOfC qual (defScope st) s.heap.objs.size f cdv)) → XSs (cxOf CX0 P w K mg base N qual (defScope st) f cdv A outer s H E).nox E0 (defBody st) fb) :
    FnOk P w K mg base CX0 (k + 1) f fd ps (spP K (defW n m fb)) :=
  F.ok S (fun vs H Q E ⟨β, S, w, bs, R, _, _, hb, hW, _⟩ => by rw [← hb.length, hW.1, hn]) fun cdv A outer s H vs Q E hr ⟨β, S, w1, bs, R, e, hR, hb, hW, hk⟩ => by
    obtain ⟨t, p, q⟩ := (hbody cdv A outer s H E hr).ex
    subst e
    have RR := hR.reb
    have back : ∀ {S' : Sto} {w' : Wd}, Rel K (reb S w1) S' w' → Rel K β S' w' ∧ Later S.length w1 S'.length w' := fun R' => hR.unreb R'
    exact ⟨t, p, q (reb S w1) S w1 _ _ _ _ RR (start_ok hb (by rw [hW.1]; exact hm)) hW.2 ⟨fun Γ S' w' σ h R' _ => hk _ S' w' .non h (back R').1 (back R').2 .non, fun b S' w' v h R' d => hk b S' w' v h (back R').1 (back R').2 d,
      fun C fs S' w' d vs h => h.elim, fun _ _ _ _ h => h.elim, fun _ _ _ _ h => h.elim⟩⟩
theorem okX {x qual : Str} {st : Stmt} {f : Addr} {fd : FuncData} {N ps : List Str} {k n m : Nat} {fb : FS} (F : Fun K x qual st f fd) (S : FnScope N ps (defScope st)) (hn : ps.length = n) (hm : N.length = n + m)
    (hbody : ∀ (cdv : Value) (A : Around) (outer : List Env) (s : Shared) (H : Hp) (E : XK), Room k (A.deeper (PyProof.Rows.envOfC qual (defScope st) s.heap.objs.size f cdv)) → XSs (cxOf (L2.CX P w) P w K mg base N qual (defScope st) f cdv A outer s H E) E (defBody st) fb) :
    FnOk P w K mg base (L2.CX P w) (k + 1) f fd ps (spX K (defW n m fb)) :=
  F.okX S (fun vs H Q E ⟨β, S, w, bs, Rx, R, _, _, hb, hW, _⟩ => by rw [← hb.length, hW.1, hn]) fun cdv A outer s H vs Q E hr ⟨β, S, w1, bs, Rx, R, e, hR, hb, hW, hk, hx⟩ => by
    obtain ⟨t, p, q⟩ := (hbody cdv A outer s H E hr).ex
    subst e
    have RR := hR.reb
    have back : ∀ {S' : Sto} {w' : Wd}, Rel K (reb S w1) S' w' → Rel K β S' w' ∧ Later S.length w1 S'.length w' := fun R' => hR.unreb R'
    exact ⟨t, p, q (reb S w1) S w1 _ _ _ _ RR (start_ok hb (by rw [hW.1]; exact hm)) hW.2 ⟨fun Γ S' w' σ h R' _ => hk _ S' w' .non h (back R').1 (back R').2 .non, fun b S' w' v h R' d => hk b S' w' v h (back R').1 (back R').2 d,
      fun C fs S' w' d vs h R' z1 z2 => hx C fs S' w' d vs h (back R').1 (back R').2 z1 z2, fun _ _ _ _ h => h.elim, fun _ _ _ _ h => h.elim⟩⟩
/-- a def that may raise, where it does not -/
theorem calmX {f : Addr} {fd : FuncData} {ps : List Str} {k : Nat} {W : FW} (F : FnOk P w K mg base (L2.CX P w) k f fd ps (spX K W)) : FnOk P w K mg base CX0 k f fd ps (spP K W) where
  len := fun vs H Q E ⟨β, S, w, bs, R, e, hR, hb, hW, hk⟩ => F.len vs H Q E0 ⟨β, S, w, bs, noX, R, e, hR, hb, hW, hk, xok_no⟩
  run := fun A outer s H args us vs Q E hr e0 hb hv ⟨β, S, w, bs, R, e, hR, hb', hW, hk⟩ => codeAny_mono (F.run A outer s H args us vs Q E0 hr e0 hb hv ⟨β, S, w, bs, noX, R, e, hR, hb', hW, hk, xok_no⟩) fun r s' q => by
    cases r with
    | ok fl => cases fl <;> exact q
    | error e =>
      obtain ⟨_, _, _, _, _, _, _, _, _, _, _, _, z⟩ := (show L2.CX P _ outer H s E0 e s' from q)
      exact z.elim
end
/-! ### calls -/
/-- of arguments for good; what the def makes is for good -/
def gPure (W : FW) (dds : List D) : List B → Sto → XP → RB → Prop := fun bs S Rx R => asDs bs fun ds => W ((ds ++ dds).map B.fz) [] (fun C fs _ => Rx C fs S) fun b _ => match b with
  | .fz d => R (.fz d) S
  | .mt _ => False
/-- .. what it makes is a list that will change -/
def gPureM (W : FW) (dds : List D) : List B → Sto → XP → RB → Prop := fun bs S Rx R => asDs bs fun ds => W ((ds ++ dds).map B.fz) [] (fun C fs _ => Rx C fs S) fun b S1 => match b with
  | .mt j => (match S1[j]? with
    | some (.lst cs) => asDs cs fun _ => R (.mt S.length) (S ++ [.lst cs])
    | _ => False)
  | .fz _ => False
/-- .. with all cells -/
def gAll (W : FW) (dds : List D) : List B → Sto → XP → RB → Prop := fun bs S Rx R => W (bs ++ dds.map B.fz) S Rx R
abbrev GW := List B → Sto → XP → RB → Prop
def SndW (K : PySem.W.Frag) (W : FW) (dvs : List V) (g : GW) : Prop := ∀ β S w bs vs Rx R Q E, Rel K β S w → DenBL K S.length w bs vs → g bs S Rx R → KOk K β S.length w R Q → XOk K E β S.length w Rx → spX K W (vs ++ dvs) w.H Q E
theorem asDs_den {K : PySem.W.Frag} {n : Nat} {w : Wd} {bs : List B} {vs : List V} {k : List D → Prop} (h : asDs bs k) (hb : DenBL K n w bs vs) : ∃ ds, k ds ∧ DenL K w.F ds vs := asDs_ok h hb
theorem Rel.drop {K : PySem.W.Frag} {β : Base} {S : Sto} {w : Wd} (R : Rel K β S w) : Rel K (PL.reb [] w) [] w := by
  refine ⟨R.fr, fun a o h => (reb_some h).1, .refl _, fun a o h => .inl h, fun _ _ => rfl, Nat.le_refl _, fun k c h => (by cases h), fun i j ci cj h => (by cases h)⟩
/-- behind a call that was handed nothing that changes -/
theorem Rel.undrop {K : PySem.W.Frag} {β : Base} {S S' : Sto} {w w' : Wd} (R : Rel K β S w) (R' : Rel K (PL.reb [] w) S' w') : Rel K β S ⟨w.m, w'.F, w'.H⟩ ∧ Later S.length w S.length ⟨w.m, w'.F, w'.H⟩ ∧ ∀ j c, S'[j]? = some c → c ≠ .dead → w.H (w'.m j) = none := by
  have sm : Same w.H w'.H := fun a o h => R'.keep a o (reb_of h fun k c h => by cases h)
  have hn : ∀ {a : Addr}, (PL.reb [] w).H0 a = none → w.H a = none := fun {a} h => by
    cases q : w.H a with
    | none => rfl
    | some o => rw [reb_of q fun k c h => by cases h] at h; cases h
  have lt : Later S.length w S.length ⟨w.m, w'.F, w'.H⟩ := ⟨Nat.le_refl _, fun _ _ => rfl, R'.f0⟩
  refine ⟨⟨R'.fr, fun a o h => sm _ _ (R.keep _ _ h), R.f0.trans R'.f0, fun a o h => ?_, R.m0, R.n0, fun k c h hd => ?_, R.inj⟩, lt, fun j c h hd => hn (R'.live j c h hd).n0⟩
  · rcases R'.fn a o h with q | q
    · exact R.fn a o q
    · exact .inr (R.keep.free (hn q))
  · have L := R.live k c h hd
    obtain ⟨o, ho⟩ := L.ok.some hd
    refine ⟨?_, L.n0, L.ok.later lt ((sm _ _ ho).trans ho.symm)⟩
    cases q : w'.F (w.m k) with
    | none => rfl
    | some u =>
      rcases R'.fn _ _ q with z | z
      · have z : w.F (w.m k) = some u := z
        rw [L.nf] at z; cases z
      · rw [hn z] at ho; cases ho
theorem DenL.den {K : PySem.W.Frag} {F : Hp} : ∀ {dds : List D} {dvs : List V}, Paired (fun d v => ∀ F, Den K F d v) dds dvs → DenL K F dds dvs
  | _, _, .nil => .nil
  | _, _, .cons h t => .cons (h F) (DenL.den t)
theorem snd_pure {K : PySem.W.Frag} {W : FW} {dds : List D} {dvs : List V} (hd : Paired (fun d v => ∀ F, Den K F d v) dds dvs) : SndW K W dvs (gPure W dds) := fun β S w bs vs Rx R Q E hR hb hg hk hx => by
  obtain ⟨ds, h, dl⟩ := asDs_den hg hb
  refine ⟨_, [], w, _, _, _, rfl, hR.drop, (DenL.app dl (DenL.den hd)).bz, h, fun b S' w' v q R' l' d => ?_, fun C fs S' w' d vs q R' l' z1 z2 => ?_⟩
  · cases b with
    | mt _ => exact (show False from q).elim
    | fz x =>
      obtain ⟨R2, l2, _⟩ := hR.undrop R'
      exact hk _ S ⟨w.m, w'.F, w'.H⟩ v q R2 l2 d
  · obtain ⟨R2, l2, _⟩ := hR.undrop R'
    exact hx C fs S ⟨w.m, w'.F, w'.H⟩ d vs q R2 l2 z1 z2
theorem snd_pureM {K : PySem.W.Frag} {W : FW} {dds : List D} {dvs : List V} (hd : Paired (fun d v => ∀ F, Den K F d v) dds dvs) : SndW K W dvs (gPureM W dds) := fun β S w bs vs Rx R Q E hR hb hg hk hx => by
  obtain ⟨ds, h, dl⟩ := asDs_den hg hb
  refine ⟨_, [], w, _, _, _, rfl, hR.drop, (DenL.app dl (DenL.den hd)).bz, h, fun b S' w' v q R' l' d => ?_, fun C fs S' w' d vs q R' l' z1 z2 => ?_⟩
  · cases b with
    | fz _ => exact (show False from q).elim
    | mt j =>
      obtain ⟨R2, l2, fr⟩ := hR.undrop R'
      obtain ⟨_, rfl⟩ := (show j < S'.length ∧ v = .ref (w'.m j) from d)
      obtain ⟨cs, e1, h1⟩ := cell_lst (f := fun cs => asDs cs fun _ => R (.mt S.length) (S ++ [.lst cs])) q
      obtain ⟨us, h3, h4⟩ := R'.cellL e1
      obtain ⟨es, rfl, h2⟩ := asDs_eq h1
      have L := R'.live j _ e1 (by intro z; cases z)
      have wn := fr j _ e1 (by intro z; cases z)
      obtain ⟨R3, l3⟩ := R2.adoptC (D := w'.m j) (c := .lst (es.map .fz)) ⟨us, h3, DenL.bz (w := ⟨w.m, w'.F, w'.H⟩) h4.fz⟩ (by intro z; cases z) L.nf (hR.keep.free wn) fun k c h1 h2 e => by
        obtain ⟨o, ho⟩ := (hR.live k c h1 h2).ok.some h2
        have e : w.m k = w'.m j := e
        rw [e, wn] at ho
        cases ho
      exact hk _ _ ⟨fun k => if k = S.length then w'.m j else w.m k, w'.F, w'.H⟩ (.ref (w'.m j)) h2 R3 (l2.trans l3) ⟨by rw [List.length_append]; exact Nat.lt_succ_self _, congrArg V.ref (if_pos rfl).symm⟩
  · obtain ⟨R2, l2, _⟩ := hR.undrop R'
    exact hx C fs S ⟨w.m, w'.F, w'.H⟩ d vs q R2 l2 z1 z2
theorem snd_all {K : PySem.W.Frag} {W : FW} {dds : List D} {dvs : List V} (hd : Paired (fun d v => ∀ F, Den K F d v) dds dvs) : SndW K W dvs (gAll W dds) := fun β S w bs vs Rx R Q E hR hb hg hk hx =>
  ⟨β, S, w, _, Rx, R, rfl, hR, hb.app (DenL.den hd).bz, hg, hk, hx⟩
/-- .. where nothing is raised -/
theorem SndW.calm {K : PySem.W.Frag} {W : FW} {dvs : List V} {g : GW} (h : SndW K W dvs g) (hW : ∀ bs S Rx R, W bs S Rx R → W bs S noX R := by intros; assumption) {β : Base} {S : Sto} {w : Wd} {bs : List B} {vs : List V} {R : RB} {Q : VK} {E : XK} (hR : Rel K β S w) (hb : DenBL K S.length w bs vs) (hg : g bs S noX R) (hk : KOk K β S.length w R Q) : spX K W (vs ++ dvs) w.H Q E :=
  h β S w bs vs noX R Q E hR hb hg hk xok_no
end PL
namespace PL
open PySem L2
section
variable {X : Cx} {E : XK} {a b c e o : Expr} {es : List Expr} {fa fb fc f fo fe : FE} {fr : FA} {pos p0 : Pos} {CX : CXT} {k : Nat} {C g : Addr} {cn : Str} {fd : FuncData} {ps : List Str} {dvs : List V} {ds : List Value} {x m : Str} {W : FW} {gw : GW}
def SndW0 (K : PySem.W.Frag) (W : FW) (dvs : List V) (g : GW) : Prop := ∀ β S w bs vs R Q E, Rel K β S w → DenBL K S.length w bs vs → g bs S noX R → KOk K β S.length w R Q → spP K W (vs ++ dvs) w.H Q E
theorem snd_pure0 {K : PySem.W.Frag} {W : FW} {dds : List D} {dvs : List V} (hd : Paired (fun d v => ∀ F, Den K F d v) dds dvs) : SndW0 K W dvs (gPure W dds) := fun β S w bs vs R Q E hR hb hg hk => by
  obtain ⟨ds, h, dl⟩ := asDs_den hg hb
  refine ⟨_, [], w, _, _, rfl, hR.drop, (DenL.app dl (DenL.den hd)).bz, h, fun b S' w' v q R' l' d => ?_⟩
  cases b with
  | mt _ => exact (show False from q).elim
  | fz x =>
    obtain ⟨R2, l2, _⟩ := hR.undrop R'
    exact hk _ S ⟨w.m, w'.F, w'.H⟩ v q R2 l2 d
theorem snd_pureM0 {K : PySem.W.Frag} {W : FW} {dds : List D} {dvs : List V} (hd : Paired (fun d v => ∀ F, Den K F d v) dds dvs) : SndW0 K W dvs (gPureM W dds) := fun β S w bs vs R Q E hR hb hg hk => by
  obtain ⟨ds, h, dl⟩ := asDs_den hg hb
  refine ⟨_, [], w, _, _, rfl, hR.drop, (DenL.app dl (DenL.den hd)).bz, h, fun b S' w' v q R' l' d => ?_⟩
  cases b with
  | fz _ => exact (show False from q).elim
  | mt j =>
    obtain ⟨R2, l2, fr⟩ := hR.undrop R'
    obtain ⟨_, rfl⟩ := (show j < S'.length ∧ v = .ref (w'.m j) from d)
    obtain ⟨cs, e1, h1⟩ := cell_lst (f := fun cs => asDs cs fun _ => R (.mt S.length) (S ++ [.lst cs])) q
    obtain ⟨us, h3, h4⟩ := R'.cellL e1
    obtain ⟨es, rfl, h2⟩ := asDs_eq h1
    have L := R'.live j _ e1 (by intro z; cases z)
    have wn := fr j _ e1 (by intro z; cases z)
    obtain ⟨R3, l3⟩ := R2.adoptC (D := w'.m j) (c := .lst (es.map .fz)) ⟨us, h3, DenL.bz (w := ⟨w.m, w'.F, w'.H⟩) h4.fz⟩ (by intro z; cases z) L.nf (hR.keep.free wn) fun k c h1 h2 e => by
      obtain ⟨o, ho⟩ := (hR.live k c h1 h2).ok.some h2
      have e : w.m k = w'.m j := e
      rw [e, wn] at ho
      cases ho
    exact hk _ _ ⟨fun k => if k = S.length then w'.m j else w.m k, w'.F, w'.H⟩ (.ref (w'.m j)) h2 R3 (l2.trans l3) ⟨by rw [List.length_append]; exact Nat.lt_succ_self _, congrArg V.ref (if_pos rfl).symm⟩
theorem snd_all0 {K : PySem.W.Frag} {W : FW} {dds : List D} {dvs : List V} (hd : Paired (fun d v => ∀ F, Den K F d v) dds dvs) : SndW0 K W dvs (gAll W dds) := fun β S w bs vs R Q E hR hb hg hk =>
  ⟨β, S, w, _, R, rfl, hR, hb.app (DenL.den hd).bz, hg, hk⟩
/-! ### f(..) -/
def eCallX (gw : GW) (fr : FA) : FE := fun Γ S Rx R => fr Γ S Rx fun bs S1 => gw bs S1 Rx R
def eCallC (gw : GW) (fr : FA) : FE := fun Γ S Rx R => fr Γ S Rx fun bs S1 => gw bs S1 noX R
theorem snd_callX {K : PySem.W.Frag} {t : TA} (s : SndA K E t fr) (hw : SndW K W dvs gw) : SndE K E (tCall (spX K W) dvs E t) (eCallX gw fr) := fun β S w σ Γ Rx R Q hR hG hf hk hx =>
  s β S w σ Γ Rx _ _ hR hG hf (fun bs S1 w1 vs h1 R1 l1 d1 => hw β S1 w1 bs vs Rx R Q E R1 d1 h1 (hk.later l1) (hx.later l1)) hx
theorem snd_callC {K : PySem.W.Frag} {t : TA} {E' : XK} (s : SndA K E t fr) (hw : SndW0 K W dvs gw) : SndE K E (tCall (spP K W) dvs E' t) (eCallC gw fr) := fun β S w σ Γ Rx R Q hR hG hf hk hx =>
  s β S w σ Γ Rx _ _ hR hG hf (fun bs S1 w1 vs h1 R1 l1 d1 => hw β S1 w1 bs vs R Q E' R1 d1 h1 (hk.later l1)) hx
theorem snd_nil {K : PySem.W.Frag} : SndA K E tNil aNil := fun β S w σ Γ Rx R Q hR hG hf hk hx => hk [] S w [] hf hR (.refl _ _) .nil
theorem xcallX (F : FnOk X.prog X.w X.K X.mg X.base CX k g fd ps (spX X.K W)) (hw : SndW X.K W dvs gw) (hr : Room k X.A) (hg : Gl X x) (hm : X.mg x = some (.ref g)) (hk : PySem.W.keepIn X.K (.ref g) = true) (hb : Binds X.K fd ps ds) (hd : Vals dvs ds) (hx : Passes CX X E) (ha : XA X E (e :: es) fr)
    (hpe : ∀ {t : TA}, PA X (e :: es) t → PE X (.Call (.Name x p0) (e :: es) [] pos) (tCall (spX X.K W) dvs E t)) : XE X E (.Call (.Name x p0) (e :: es) [] pos) (eCallX gw fr) :=
  let ⟨_, p, s⟩ := ha.ex; ⟨_, hpe p, snd_callX s hw⟩
theorem xcallX0 (hw : SndW X.K W dvs gw) (hpe : PE X e (tCall (spX X.K W) dvs E tNil)) : XE X E e (eCallX gw aNil) := ⟨_, hpe, snd_callX snd_nil hw⟩
theorem xcallC (hw : SndW0 X.K W dvs gw) (ha : XA X E es fr) {E' : XK} (hpe : ∀ {t : TA}, PA X es t → PE X e (tCall (spP X.K W) dvs E' t)) : XE X E e (eCallC gw fr) :=
  let ⟨_, p, s⟩ := ha.ex; ⟨_, hpe p, snd_callC s hw⟩
theorem xcallC0 (hw : SndW0 X.K W dvs gw) {E' : XK} (hpe : PE X e (tCall (spP X.K W) dvs E' tNil)) : XE X E e (eCallC gw aNil) := ⟨_, hpe, snd_callC snd_nil hw⟩
/-! ### objects -/
/-- an instance of the class at C, without an attribute m of its own -/
def isIns (C : Str) (m : Str) (b : B) (S : Sto) : Prop := match b with
  | .fz (.ins C' fs) => C' = C ∧ fs.lookup m = none
  | .mt k => (match S[k]? with
    | some (.ins C' fs) => C' = C ∧ fs.lookup m = none
    | _ => False)
  | _ => False
theorem DenF.look {K : PySem.W.Frag} {F : Hp} {m : Str} : ∀ {fs : List (Str × D)} {vs : List (Str × V)}, DenF K F fs vs → (∀ d, fs.lookup m = some d → ∃ v, vs.lookup m = some v ∧ Den K F d v) ∧ (fs.lookup m = none → vs.lookup m = none)
  | _, _, .nil => ⟨fun d h => (by cases h), fun _ => rfl⟩
  | _, _, @DenF.cons _ _ n d v fs vs h t => by
    have ih := DenF.look (m := m) t
    cases e : m == n with
    | true => exact ⟨fun d' h' => by
        rw [List.lookup_cons, e] at h'
        cases h'
        exact ⟨v, by rw [List.lookup_cons, e], h⟩, fun h' => by rw [List.lookup_cons, e] at h'; cases h'⟩
    | false => exact ⟨fun d' h' => by
        rw [List.lookup_cons, e] at h'
        obtain ⟨v', h1, h2⟩ := ih.1 d' h'
        exact ⟨v', by rw [List.lookup_cons, e]; exact h1, h2⟩, fun h' => by rw [List.lookup_cons, e] at h' ⊢; exact ih.2 h'⟩
theorem DenBF.look {K : PySem.W.Frag} {n : Nat} {w : Wd} {m : Str} : ∀ {fs : List (Str × B)} {vs : List (Str × V)}, DenBF K n w fs vs → (∀ d, fs.lookup m = some d → ∃ v, vs.lookup m = some v ∧ DenB K n w d v) ∧ (fs.lookup m = none → vs.lookup m = none)
  | _, _, .nil => ⟨fun d h => (by cases h), fun _ => rfl⟩
  | _, _, @DenBF.cons _ _ _ n d v fs vs h t => by
    have ih := DenBF.look (m := m) t
    cases e : m == n with
    | true => exact ⟨fun d' h' => by
        rw [List.lookup_cons, e] at h'
        cases h'
        exact ⟨v, by rw [List.lookup_cons, e], h⟩, fun h' => by rw [List.lookup_cons, e] at h'; cases h'⟩
    | false => exact ⟨fun d' h' => by
        rw [List.lookup_cons, e] at h'
        obtain ⟨v', h1, h2⟩ := ih.1 d' h'
        exact ⟨v', by rw [List.lookup_cons, e]; exact h1, h2⟩, fun h' => by rw [List.lookup_cons, e] at h' ⊢; exact ih.2 h'⟩
theorem cell_ins {S : Sto} {k : Nat} {f : Str → List (Str × B) → Prop} (h : match S[k]? with
    | some (.ins C fs) => f C fs
    | _ => False) : ∃ C fs, S[k]? = some (.ins C fs) ∧ f C fs := by
  cases hc : S[k]? with
  | none => rw [hc] at h; exact h.elim
  | some cl =>
    rw [hc] at h
    cases cl with
    | ins C fs => exact ⟨C, fs, rfl, h⟩
    | _ => exact (show False from h).elim
theorem isIns_ok {K : PySem.W.Frag} {β : Base} {S : Sto} {w : Wd} {b : B} {v : V} (hR : Rel K β S w) (hb : DenB K S.length w b v) (h : isIns cn m b S) : ∃ a dx fs, v = .ref a ∧ w.H a = some (.ins (clsAt K cn) dx fs) ∧ fs.lookup m = none := by
  cases b with
  | fz d =>
    have hb : Den K w.F d v := hb
    cases hb with
    | ins h1 h2 =>
      obtain ⟨rfl, h3⟩ := h
      exact ⟨_, _, _, rfl, hR.fr _ _ h1, h2.look.2 h3⟩
    | _ => exact (show False from h).elim
  | mt k =>
    obtain ⟨_, rfl⟩ := hb
    obtain ⟨C', fs, e1, rfl, h3⟩ := cell_ins (f := fun C' fs => C' = cn ∧ fs.lookup m = none) h
    obtain ⟨dx, vs, h4, h5⟩ := hR.cellI e1
    exact ⟨_, dx, vs, rfl, h4, h5.look.2 h3⟩
def eMethX (C : Str) (m : Str) (gw : GW) (fo : FE) (fr : FA) : FE := fun Γ S Rx R => fo Γ S Rx fun b S1 => isIns C m b S1 ∧ fr Γ S1 Rx fun bs S2 => gw (b :: bs) S2 Rx R
def eMethC (C : Str) (m : Str) (gw : GW) (fo : FE) (fr : FA) : FE := fun Γ S Rx R => fo Γ S Rx fun b S1 => isIns C m b S1 ∧ fr Γ S1 Rx fun bs S2 => gw (b :: bs) S2 noX R
theorem snd_methX {K : PySem.W.Frag} {to : TE} {t : TA} (so : SndE K E to fo) (s : SndA K E t fr) (hw : SndW K W dvs gw) : SndE K E (tMeth (clsAt K cn) m (spX K W) dvs E to t) (eMethX cn m gw fo fr) := fun β S w σ Γ Rx R Q hR hG hf hk hx =>
  so β S w σ Γ Rx _ _ hR hG hf (fun b S1 w1 v h1 R1 l1 d1 => by
    obtain ⟨h0, h1⟩ := h1
    obtain ⟨a, dx, fs, rfl, h2, h3⟩ := isIns_ok R1 d1 h0
    exact ⟨a, dx, fs, rfl, h2, h3, s β S1 w1 σ Γ Rx _ _ R1 (hG.later l1) h1 (fun bs S2 w2 vs h4 R2 l2 d2 => hw β S2 w2 (b :: bs) (.ref a :: vs) Rx R Q E R2 (.cons (d1.later l2) d2) h4 (hk.later (l1.trans l2)) (hx.later (l1.trans l2))) (hx.later l1)⟩) hx
theorem snd_methC {K : PySem.W.Frag} {to : TE} {t : TA} {E' : XK} (so : SndE K E to fo) (s : SndA K E t fr) (hw : SndW0 K W dvs gw) : SndE K E (tMeth (clsAt K cn) m (spP K W) dvs E' to t) (eMethC cn m gw fo fr) := fun β S w σ Γ Rx R Q hR hG hf hk hx =>
  so β S w σ Γ Rx _ _ hR hG hf (fun b S1 w1 v h1 R1 l1 d1 => by
    obtain ⟨h0, h1⟩ := h1
    obtain ⟨a, dx, fs, rfl, h2, h3⟩ := isIns_ok R1 d1 h0
    exact ⟨a, dx, fs, rfl, h2, h3, s β S1 w1 σ Γ Rx _ _ R1 (hG.later l1) h1 (fun bs S2 w2 vs h4 R2 l2 d2 => hw β S2 w2 (b :: bs) (.ref a :: vs) R Q E' R2 (.cons (d1.later l2) d2) h4 (hk.later (l1.trans l2))) (hx.later l1)⟩) hx
theorem xmethX (hw : SndW X.K W dvs gw) (ho : XE X E o fo) (ha : XA X E es fr) (hpe : ∀ {to : TE} {t : TA}, PE X o to → PA X es t → PE X e (tMeth (clsAt X.K cn) m (spX X.K W) dvs E to t)) : XE X E e (eMethX cn m gw fo fr) :=
  let ⟨_, q, u⟩ := ho.ex; let ⟨_, p, s⟩ := ha.ex; ⟨_, hpe q p, snd_methX u s hw⟩
theorem xmethX0 (hw : SndW X.K W dvs gw) (ho : XE X E o fo) (hpe : ∀ {to : TE}, PE X o to → PE X e (tMeth (clsAt X.K cn) m (spX X.K W) dvs E to tNil)) : XE X E e (eMethX cn m gw fo aNil) :=
  let ⟨_, q, u⟩ := ho.ex; ⟨_, hpe q, snd_methX u snd_nil hw⟩
theorem xmethC {E' : XK} (hw : SndW0 X.K W dvs gw) (ho : XE X E o fo) (ha : XA X E es fr) (hpe : ∀ {to : TE} {t : TA}, PE X o to → PA X es t → PE X e (tMeth (clsAt X.K cn) m (spP X.K W) dvs E' to t)) : XE X E e (eMethC cn m gw fo fr) :=
  let ⟨_, q, u⟩ := ho.ex; let ⟨_, p, s⟩ := ha.ex; ⟨_, hpe q p, snd_methC u s hw⟩
theorem xmethC0 {E' : XK} (hw : SndW0 X.K W dvs gw) (ho : XE X E o fo) (hpe : ∀ {to : TE}, PE X o to → PE X e (tMeth (clsAt X.K cn) m (spP X.K W) dvs E' to tNil)) : XE X E e (eMethC cn m gw fo aNil) :=
  let ⟨_, q, u⟩ := ho.ex; ⟨_, hpe q, snd_methC u snd_nil hw⟩
/-- a property -/
def isObj (C : Str) (b : B) (S : Sto) : Prop := match b with
  | .fz (.ins C' _) => C' = C
  | .mt k => (match S[k]? with
    | some (.ins C' _) => C' = C
    | _ => False)
  | _ => False
theorem isObj_ok {K : PySem.W.Frag} {β : Base} {S : Sto} {w : Wd} {b : B} {v : V} (hR : Rel K β S w) (hb : DenB K S.length w b v) (h : isObj cn b S) : ∃ a dx fs, v = .ref a ∧ w.H a = some (.ins (clsAt K cn) dx fs) := by
  cases b with
  | fz d =>
    have hb : Den K w.F d v := hb
    cases hb with
    | ins h1 h2 => exact ⟨_, _, _, rfl, (show _ = cn from h) ▸ hR.fr _ _ h1⟩
    | _ => exact (show False from h).elim
  | mt k =>
    obtain ⟨_, rfl⟩ := hb
    obtain ⟨C', fs, e1, rfl⟩ := cell_ins (f := fun C' fs => C' = cn) h
    obtain ⟨dx, vs, h4, h5⟩ := hR.cellI e1
    exact ⟨_, dx, vs, rfl, h4⟩
def eProp (C : Str) (gw : GW) (fo : FE) : FE := fun Γ S Rx R => fo Γ S Rx fun b S1 => isObj C b S1 ∧ gw [b] S1 noX R
theorem xprop {E' : XK} (hw : SndW0 X.K W dvs gw) (ho : XE X E o fo) (hpe : ∀ {to : TE}, PE X o to → PE X e (tProp (clsAt X.K cn) (spP X.K W) dvs E' to)) : XE X E e (eProp cn gw fo) :=
  let ⟨_, q, u⟩ := ho.ex
  ⟨_, hpe q, fun β S w σ Γ Rx R Q hR hG hf hk hx => u β S w σ Γ Rx _ _ hR hG hf (fun b S1 w1 v h1 R1 l1 d1 => by
    obtain ⟨h0, h1⟩ := h1
    obtain ⟨a, dx, fs, rfl, h2⟩ := isObj_ok R1 d1 h0
    exact ⟨a, dx, fs, rfl, h2, hw β S1 w1 [b] [.ref a] R Q E' R1 (.cons d1 .nil) h1 (hk.later l1)⟩) hx⟩
/-- o.f -/
def gFld (C : Str) (m : Str) : G1 := fun b S R => match b with
  | .fz (.ins C' fs) => C' = C ∧ optK (fs.lookup m) fun d => R (.fz d) S
  | .mt k => (match S[k]? with
    | some (.ins C' fs) => C' = C ∧ optK (fs.lookup m) fun b => R b S
    | _ => False)
  | _ => False
theorem gFld_ok {K : PySem.W.Frag} {β : Base} {S : Sto} {w : Wd} {b : B} {v : V} {R : RB} (hR : Rel K β S w) (hb : DenB K S.length w b v) (h : gFld cn m b S R) : ∃ a dx fs u c, v = .ref a ∧ w.H a = some (.ins (clsAt K cn) dx fs) ∧ fs.lookup m = some u ∧ DenB K S.length w c u ∧ R c S := by
  cases b with
  | fz d =>
    have hb : Den K w.F d v := hb
    cases hb with
    | ins h1 h2 =>
      obtain ⟨rfl, h3⟩ := h
      obtain ⟨d, e, h4⟩ := optK_ok h3
      obtain ⟨u, h5, h6⟩ := h2.look.1 d e
      exact ⟨_, _, _, u, .fz d, rfl, hR.fr _ _ h1, h5, h6, h4⟩
    | _ => exact (show False from h).elim
  | mt k =>
    obtain ⟨_, rfl⟩ := hb
    obtain ⟨C', fs, e1, rfl, h3⟩ := cell_ins (f := fun C' fs => C' = cn ∧ optK (fs.lookup m) fun b => R b S) h
    obtain ⟨dx, vs, h4, h5⟩ := hR.cellI e1
    obtain ⟨d, e, h7⟩ := optK_ok h3
    obtain ⟨u, h8, h9⟩ := h5.look.1 d e
    exact ⟨_, dx, vs, u, d, rfl, h4, h8, h9, h7⟩
theorem xfld (hc : clsAt X.K cn = C) (hC : Cls X.K C) (hN : NoAttr X.K C m) (he : XE X E e fe) (hb : attributeBase e m X.env (eval e X.env) = eval e X.env) : XE X E (.Attribute e m pos) (eUn (gFld cn m) fe) :=
  let ⟨_, p, s⟩ := he.ex
  ⟨_, pe_fld p hb, fun β S w σ Γ Rx R Q hR hG hf hk hx => s β S w σ Γ Rx _ _ hR hG hf (fun b S1 w1 v h1 R1 l1 d1 => by
    obtain ⟨a, dx, fs, u, c, rfl, h2, h3, h4, h5⟩ := gFld_ok R1 d1 h1
    exact ⟨a, C, dx, fs, u, rfl, hc ▸ h2, hC, hN, h3, hk c S1 w1 u h5 R1 l1 h4⟩) hx⟩
/-- o.f = e, o a cell -/
def putB (f : Str) (v : B) : List (Str × B) → List (Str × B)
  | [] => [(f, v)]
  | (g, x) :: r => if g = f then (g, v) :: r else (g, x) :: putB f v r
theorem DenBF.put {K : PySem.W.Frag} {n : Nat} {w : Wd} {m : Str} {b : B} {v : V} (h : DenB K n w b v) : ∀ {fs : List (Str × B)} {vs : List (Str × V)}, DenBF K n w fs vs → DenBF K n w (putB m b fs) (putF m v vs)
  | _, _, .nil => .cons h .nil
  | _, _, @DenBF.cons _ _ _ n d v fs vs h1 t => by
    unfold putB putF
    by_cases e : n = m
    · rw [if_pos e, if_pos e]; exact .cons h t
    · rw [if_neg e, if_neg e]; exact .cons h1 (DenBF.put h t)
theorem DenBF.length {K : PySem.W.Frag} {n : Nat} {w : Wd} : ∀ {ds : List (Str × B)} {vs : List (Str × V)}, DenBF K n w ds vs → ds.length = vs.length
  | _, _, .nil => rfl
  | _, _, .cons _ t => congrArg (· + 1) (DenBF.length t)
def sFldP (C : Str) (m : Str) (fo fv : FE) : FS := fun Γ S P => fv Γ S P.xe fun c S1 => fo Γ S1 P.xe fun b S2 => match b with
  | .mt k => (match S2[k]? with
    | some (.ins C' fs) => (C' = C ∧ fs.length < 1000) ∧ P.nx Γ (S2.set k (.ins C' (putB m c fs)))
    | _ => False)
  | _ => False
theorem xs_fld {value : Expr} {fv : FE} {pos' : Pos} (hc : clsAt X.K cn = C) (hC : Cls X.K C) (hN : NoAttr X.K C m) (ho : XE X E o fo) (hv : XE X E value fv) (hs : swapsWith value (some (.Attribute o m pos')) pos.line X.env = pure false) : XS X E (.Assign [.Attribute o m pos'] value pos) (sFldP cn m fo fv) :=
  let ⟨_, p, s⟩ := ho.ex; let ⟨_, q, t⟩ := hv.ex
  ⟨_, ps_fld p q hs, fun β S w σ Γ P De hR hG hf hk => t β S w σ Γ _ _ _ hR hG hf (fun c S1 w1 u h1 R1 l1 d1 => s β S1 w1 σ Γ _ _ _ R1 (hG.later l1) h1 (fun b S2 w2 v h2 R2 l2 d2 => by
    cases b with
    | fz _ => exact (show False from h2).elim
    | mt k =>
      obtain ⟨_, rfl⟩ := d2
      obtain ⟨C', fs, e1, ⟨rfl, h3⟩, h4⟩ := cell_ins (f := fun C' fs => (C' = cn ∧ fs.length < 1000) ∧ P.nx Γ (S2.set k (.ins C' (putB m c fs)))) h2
      obtain ⟨dx, vs, h5, h6⟩ := R2.cellI e1
      have lt : Later S2.length w2 S2.length ⟨w2.m, w2.F, upd w2.H (w2.m k) (.ins C dx (putF m u vs))⟩ := ⟨Nat.le_refl _, fun _ _ => rfl, .refl _⟩
      obtain ⟨R3, l3⟩ := R2.setC e1 (by intro z; cases z) (o := .ins C dx (putF m u vs)) (c' := .ins C' (putB m c fs)) ⟨dx, _, by rw [hc]; exact upd_same, (h6.later lt).put ((d1.later l2).later lt)⟩
      exact ⟨_, C, dx, vs, rfl, hc ▸ h5, hC, hN, by rw [← h6.length]; exact h3, hk.nx Γ _ _ σ h4 R3 (hG.later ((l1.trans l2).trans l3))⟩) hk.x) hk.x⟩
/-! ### C(..): an object for good -/
def asFs : List (Str × B) → (List (Str × D) → Prop) → Prop
  | [], k => k []
  | (n, .fz d) :: bs, k => asFs bs fun ds => k ((n, d) :: ds)
  | _ :: _, _ => False
theorem asFs_ok {K : PySem.W.Frag} {n : Nat} {w : Wd} : ∀ {bs : List (Str × B)} {vs : List (Str × V)} {k : List (Str × D) → Prop}, asFs bs k → DenBF K n w bs vs → ∃ ds, k ds ∧ DenF K w.F ds vs
  | [], _, _, h, .nil => ⟨[], h, .nil⟩
  | (n, .fz d) :: bs, _, _, h, .cons h1 t => by
    obtain ⟨ds, h2, h3⟩ := asFs_ok (bs := bs) h t
    exact ⟨(n, d) :: ds, h2, .cons h1 h3⟩
  | (_, .mt _) :: _, _, _, h, _ => (show False from h).elim
def gMake (C : Str) (W : FW) (dds : List D) : GW := fun bs S Rx R => asDs bs fun ds => W (.mt 0 :: (ds ++ dds).map B.fz) [.ins C []] (fun C fs _ => Rx C fs S) fun b S1 => match b with
  | .fz .non => (match (S1[0]? : Option Cell) with
    | some (.ins C' fs) => asFs fs fun fds => R (.fz (.ins C' fds)) S
    | _ => False)
  | _ => False
theorem make_start {K : PySem.W.Frag} {β : Base} {S : Sto} {w : Wd} (hR : Rel K β S w) {y dx : Addr} (hy : w.H y = none) (hx : w.H dx = none) (ne : dx ≠ y) :
    Rel K (reb [] w) [.ins cn []] ⟨fun _ => y, w.F, upd (upd w.H dx (.own y)) y (.ins (clsAt K cn) dx [])⟩ := by
  have sm : Same w.H (upd (upd w.H dx (.own y)) y (.ins (clsAt K cn) dx [])) := fun a o h => (upd_ne (ne_of_none h hy)).trans ((upd_ne (ne_of_none h hx)).trans h)
  refine ⟨fun a o h => sm _ _ (hR.fr _ _ h), fun a o h => sm _ _ (reb_some h).1, .refl _, fun a o h => .inl h, fun k h => absurd h (Nat.not_lt_zero _), Nat.zero_le _, fun k c h hd => ?_, fun i j ci cj hi hj _ _ _ => ?_⟩
  · cases k with
    | zero =>
      cases h
      refine ⟨hR.fr.free hy, ?_, dx, [], upd_same, .nil⟩
      show (reb [] w).H0 y = none
      cases q : (reb [] w).H0 y with
      | none => rfl
      | some o => rw [(reb_some q).1] at hy; cases hy
    | succ k => cases h
  · cases i with
    | zero => cases j with
      | zero => rfl
      | succ j => cases hj
    | succ i => cases hi
theorem Rel.unmake {K : PySem.W.Frag} {β : Base} {S S' : Sto} {w w' : Wd} (R : Rel K β S w) (R' : Rel K (PL.reb [] w) S' w') : Rel K β S ⟨w.m, w'.F, w'.H⟩ ∧ Later S.length w S.length ⟨w.m, w'.F, w'.H⟩ ∧ ∀ j c, S'[j]? = some c → c ≠ .dead → w.H (w'.m j) = none := R.undrop R'
theorem snd_make {K : PySem.W.Frag} {t : TA} {dds : List D} (hd : Paired (fun d v => ∀ F, Den K F d v) dds dvs) (s : SndA K E t fr) : SndE K E (tMake (clsAt K cn) (spX K W) dvs E t) (eCallX (gMake cn W dds) fr) := fun β S w σ Γ Rx R Q hR hG hf hk hx =>
  s β S w σ Γ Rx _ _ hR hG hf (fun bs S1 w1 vs h1 R1 l1 d1 y dx hy hdx ne => by
    obtain ⟨ds, h, dl⟩ := asDs_den h1 d1
    have sm : Same w1.F w1.F := .refl _
    refine ⟨_, _, ⟨fun _ => y, w1.F, upd (upd w1.H dx (.own y)) y (.ins (clsAt K cn) dx [])⟩, _, _, _, rfl, make_start R1 hy hdx ne, .cons (b := .mt 0) ⟨Nat.zero_lt_one, rfl⟩ (DenL.bz (w := ⟨fun _ => y, w1.F, upd (upd w1.H dx (.own y)) y (.ins (clsAt K cn) dx [])⟩) (DenL.app dl (DenL.den hd))), h, fun b S' w' v q R' l' d => ?_, fun C fs S' w' d vs q R' l' z1 z2 => ?_⟩
    · cases b with
      | mt _ => exact (show False from q).elim
      | fz x =>
        cases x with
        | non =>
          cases (show Den K w'.F .non v from d)
          refine ⟨rfl, ?_⟩
          obtain ⟨C', fs, e1, h3⟩ := cell_ins (f := fun C' fs => asFs fs fun fds => R (.fz (.ins C' fds)) S1) q
          obtain ⟨R2, l2, fr⟩ := R1.undrop R'
          obtain ⟨dx', us, h4, h5⟩ := R'.cellI e1
          obtain ⟨fds, h6, h7⟩ := asFs_ok h3 h5
          have em : w'.m 0 = y := l'.m 0 Nat.zero_lt_one
          rw [em] at h4
          have L := R'.live 0 _ e1 (by intro z; cases z)
          rw [em] at L
          obtain ⟨R3, l3⟩ := R2.adoptF (D := y) (o := .ins (clsAt K C') dx' us) h4 L.nf (R1.keep.free hy) fun k c h1 h2 e => by
            obtain ⟨o, ho⟩ := (R1.live k c h1 h2).ok.some h2
            have e : w1.m k = y := e
            rw [e, hy] at ho
            cases ho
          exact (hk.later l1) _ S1 ⟨w1.m, upd w'.F y (.ins (clsAt K C') dx' us), w'.H⟩ (.ref y) h6 R3 (l2.trans l3) (Den.ins upd_same (DenF.mono l3.F h7))
        | _ => exact (show False from q).elim
    · obtain ⟨R2, l2, _⟩ := R1.undrop R'
      exact (hx.later l1) C fs S1 ⟨w1.m, w'.F, w'.H⟩ d vs q R2 l2 z1 z2) hx
theorem xmake {dds : List D} (hd : Paired (fun d v => ∀ F, Den X.K F d v) dds dvs) (ha : XA X E es fr) (hpe : ∀ {t : TA}, PA X es t → PE X e (tMake (clsAt X.K cn) (spX X.K W) dvs E t)) : XE X E e (eCallX (gMake cn W dds) fr) :=
  let ⟨_, p, s⟩ := ha.ex; ⟨_, hpe p, snd_make hd s⟩
theorem xmake0 {dds : List D} (hd : Paired (fun d v => ∀ F, Den X.K F d v) dds dvs) (hpe : PE X e (tMake (clsAt X.K cn) (spX X.K W) dvs E tNil)) : XE X E e (eCallX (gMake cn W dds) aNil) := ⟨_, hpe, snd_make hd snd_nil⟩
theorem make_coreC {K : PySem.W.Frag} {E' : XK} {dds : List D} (hd : Paired (fun d v => ∀ F, Den K F d v) dds dvs) {β : Base} {S1 : Sto} {w1 : Wd} {bs : List B} {vs : List V} {R : RB} {Q : VK} (R1 : Rel K β S1 w1) (d1 : DenBL K S1.length w1 bs vs) (h1 : gMake cn W dds bs S1 noX R) (hk : KOk K β S1.length w1 R Q) {y dx : Addr} (hy : w1.H y = none) (hdx : w1.H dx = none) (ne : dx ≠ y) :
    spP K W (.ref y :: (vs ++ dvs)) (upd (upd w1.H dx (.own y)) y (.ins (clsAt K cn) dx [])) (fun v H2 => v = .non ∧ Q (.ref y) H2) E' := by
  obtain ⟨ds, h, dl⟩ := asDs_den h1 d1
  refine ⟨_, _, ⟨fun _ => y, w1.F, upd (upd w1.H dx (.own y)) y (.ins (clsAt K cn) dx [])⟩, _, _, rfl, make_start R1 hy hdx ne, .cons (b := .mt 0) ⟨Nat.zero_lt_one, rfl⟩ (DenL.bz (w := ⟨fun _ => y, w1.F, upd (upd w1.H dx (.own y)) y (.ins (clsAt K cn) dx [])⟩) (DenL.app dl (DenL.den hd))), h, fun b S' w' v q R' l' d => ?_⟩
  cases b with
  | mt _ => exact (show False from q).elim
  | fz x =>
    cases x with
    | non =>
      cases (show Den K w'.F .non v from d)
      refine ⟨rfl, ?_⟩
      obtain ⟨C', fs, e1, h3⟩ := cell_ins (f := fun C' fs => asFs fs fun fds => R (.fz (.ins C' fds)) S1) q
      obtain ⟨R2, l2, fr⟩ := R1.undrop R'
      obtain ⟨dx', us, h4, h5⟩ := R'.cellI e1
      obtain ⟨fds, h6, h7⟩ := asFs_ok h3 h5
      have em : w'.m 0 = y := l'.m 0 Nat.zero_lt_one
      rw [em] at h4
      have L := R'.live 0 _ e1 (by intro z; cases z)
      rw [em] at L
      obtain ⟨R3, l3⟩ := R2.adoptF (D := y) (o := .ins (clsAt K C') dx' us) h4 L.nf (R1.keep.free hy) fun k c h1 h2 e => by
        obtain ⟨o, ho⟩ := (R1.live k c h1 h2).ok.some h2
        have e : w1.m k = y := e
        rw [e, hy] at ho
        cases ho
      exact hk _ S1 ⟨w1.m, upd w'.F y (.ins (clsAt K C') dx' us), w'.H⟩ (.ref y) h6 R3 (l2.trans l3) (Den.ins upd_same (DenF.mono l3.F h7))
    | _ => exact (show False from q).elim
theorem snd_makeC {K : PySem.W.Frag} {t : TA} {E' : XK} {dds : List D} (hd : Paired (fun d v => ∀ F, Den K F d v) dds dvs) (s : SndA K E t fr) : SndE K E (tMake (clsAt K cn) (spP K W) dvs E' t) (eCallC (gMake cn W dds) fr) := fun β S w σ Γ Rx R Q hR hG hf hk hx =>
  s β S w σ Γ Rx _ _ hR hG hf (fun bs S1 w1 vs h1 R1 l1 d1 y dx hy hdx ne => make_coreC hd R1 d1 h1 (hk.later l1) hy hdx ne) hx
theorem xmakeC {E' : XK} {dds : List D} (hd : Paired (fun d v => ∀ F, Den X.K F d v) dds dvs) (ha : XA X E es fr) (hpe : ∀ {t : TA}, PA X es t → PE X e (tMake (clsAt X.K cn) (spP X.K W) dvs E' t)) : XE X E e (eCallC (gMake cn W dds) fr) :=
  let ⟨_, p, s⟩ := ha.ex; ⟨_, hpe p, snd_makeC hd s⟩
theorem xmakeC0 {E' : XK} {dds : List D} (hd : Paired (fun d v => ∀ F, Den X.K F d v) dds dvs) (hpe : PE X e (tMake (clsAt X.K cn) (spP X.K W) dvs E' tNil)) : XE X E e (eCallC (gMake cn W dds) aNil) := ⟨_, hpe, snd_makeC hd snd_nil⟩
end
end PL
namespace PL
open PySem L2
section
variable {K : PySem.W.Frag}
/-! ### isinstance -/
/-- by a table: the answer for a value and a class -/
def IsaOk (K : PySem.W.Frag) (ι : D → D → Option Bool) : Prop := ∀ (F H : Hp) (x : D) (v : V), Same F H → Den K F x v → ∀ c0 b0, ι x c0 = some b0 → ∃ t, TyX K H v t ∧ ∀ (c : D) (u : V) (b : Bool), Den K F c u → ι x c = some b → ∃ cu, ClsV u cu ∧ PySem.W.kitOne K t cu = some b
def gIsi (ι : D → D → Option Bool) : GL := fun bs S R => match bs with
  | [.fz x, .fz c] => optK (ι x c) fun b => R (.fz (.bl b)) S
  | _ => False
theorem snd_isi {ι : D → D → Option Bool} (hι : IsaOk K ι) : SndL K (rIsi K) (gIsi ι) := fun β S w bs vs R Q hR hb hg hk => by
  match bs, hg, hb with
  | [.fz x, .fz c], hg, hb =>
    obtain ⟨v, u, rfl, h1, h2⟩ := hb.two
    obtain ⟨b, e, h3⟩ := optK_ok hg
    obtain ⟨t, q2, q⟩ := hι w.F w.H x v hR.fr h1 c b e
    obtain ⟨cu, q1, q3⟩ := q c u b h2 e
    exact ⟨v, u, t, cu, b, rfl, q1, q2, q3, hk.fz hR h3 (.bl _)⟩
/-- .. several classes, in a tuple that is written there -/
def anyIs (ι : D → D → Option Bool) (x : D) : List D → Option Bool
  | [] => some false
  | c :: cs => match ι x c with
    | some true => some true
    | some false => anyIs ι x cs
    | none => none
theorem kitAny_nil' {t : Value} : PySem.W.kitAny K t [] = some false := by first | rfl | simp [PySem.W.kitAny]
/-- names of the built-in types -/
def tyName : D → Option String
  | .non => some "NoneType" | .bl _ => some "bool" | .int _ => some "int" | .str _ => some "str" | .lst _ => some "list" | .tup _ => some "tuple" | .dic _ => some "dict"
  | _ => none
theorem tyX_of {F H : Hp} {x : D} {v : V} {n : String} (s : Same F H) (h : Den K F x v) (e : tyName x = some n) : TyX K H v (.type n) := by
  cases h with
  | non => cases e; exact .base .non
  | bl b => cases e; exact .base (.bl b)
  | int i => cases e; exact .base (.int i)
  | str z => cases e; exact .base (.str z)
  | lst h1 _ => cases e; exact .base (.lst (s _ _ h1))
  | tup h1 _ =>
    cases e
    rcases h1 with (h1 | ⟨o, h1⟩) | ⟨o, its, k, h1, h2, h3⟩
    · exact .base (.tup (s _ _ h1))
    · exact .fTuple (s _ _ h1)
    · exact .kTuple h1 h2
  | dic h1 _ => cases e; exact .fDict (s _ _ h1)
  | _ => cases e
/-- .. of built-in types alone -/
def isa0 (x c : D) : Option Bool := match c with
  | .ty n => (match tyName x with
    | some t => kitB t n
    | none => none)
  | _ => none
theorem isa0_ok : IsaOk K isa0 := fun F H x v s hx c0 b0 e0 => by
  cases ht : tyName x with
  | none => cases c0 <;> simp only [isa0, ht] at e0 <;> cases e0
  | some t =>
    refine ⟨_, tyX_of s hx ht, fun c u b hc e => ?_⟩
    cases hc with
    | ty n =>
      simp only [isa0, ht] at e
      exact ⟨_, .ty n, kit_ty e⟩
    | _ => cases e
/-! ### in, not in -/
def flatD : D → Bool
  | .non => true | .bl _ => true | .int _ => true | .str _ => true | _ => false
def eqFl : D → D → Bool
  | .non, .non => true
  | .bl a, .bl b => a == b
  | .bl a, .int b => (if a then 1 else 0) == b
  | .int a, .bl b => a == (if b then 1 else 0)
  | .int a, .int b => a == b
  | .str a, .str b => a == b
  | _, _ => false
def inD (x : D) (xs : List D) : Bool := xs.any fun y => eqFl y x
theorem flat_den {F : Hp} {x : D} {v : V} (h : Den K F x v) (f : flatD x = true) : flatV v = true := by
  cases h <;> first | rfl | cases f
theorem eqFl_den {F : Hp} {x y : D} {v u : V} (h : Den K F x v) (h2 : Den K F y u) (f : flatD x = true) (f2 : flatD y = true) : eqV v u = eqFl x y := by
  cases h <;> cases h2 <;> first | rfl | cases f | cases f2
theorem flats_den {F : Hp} : ∀ {xs : List D} {vs : List V}, DenL K F xs vs → xs.all flatD = true → vs.all flatV = true
  | _, _, .nil, _ => rfl
  | _, _, .cons h t, f => by
    rw [List.all_cons, Bool.and_eq_true] at f ⊢
    exact ⟨flat_den h f.1, flats_den t f.2⟩
theorem inD_den {F : Hp} {x : D} {v : V} (h : Den K F x v) (f : flatD x = true) : ∀ {xs : List D} {vs : List V}, DenL K F xs vs → xs.all flatD = true → inV v vs = inD x xs
  | _, _, .nil, _ => rfl
  | _, _, @DenL.cons _ _ y u ds us h1 t, g => by
    rw [List.all_cons, Bool.and_eq_true] at g
    have ih := inD_den h f t g.2
    show (eqV u v || us.any fun y => eqV y v) = (eqFl y x || ds.any fun y => eqFl y x)
    rw [eqFl_den h1 h g.1 f]
    exact congrArg _ ih
def gIn (neg : Bool) : G2 := fun b c S R => match b with
  | .fz x => (match c with
    | .fz (.lst xs) => (flatD x = true ∧ xs.all flatD = true) ∧ R (.fz (.bl (neg != inD x xs))) S
    | .fz (.tup xs) => (flatD x = true ∧ xs.all flatD = true) ∧ R (.fz (.bl (neg != inD x xs))) S
    | .mt k => (match S[k]? with
      | some (.lst bs) => asDs bs fun xs => (flatD x = true ∧ xs.all flatD = true) ∧ R (.fz (.bl (neg != inD x xs))) S
      | _ => False)
    | _ => False)
  | _ => False
theorem snd_in {neg : Bool} : Snd2 K (rIn K neg) (gIn neg) := fun β S w b c v u R Q hR hb hc hg hk => by
  have fin : ∀ {x : D} {xs : List D} {a : Addr} {vs : List V}, Den K w.F x v → u = .ref a → (SqL K w.H a vs ∨ SqT K w.H a vs) → DenL K w.F xs vs → (flatD x = true ∧ xs.all flatD = true) ∧ R (.fz (.bl (neg != inD x xs))) S → rIn K neg v u w.H Q := fun {x xs a vs} hx e hs hl h =>
    ⟨a, vs, e, hs, flat_den hx h.1.1, flats_den hl h.1.2, by
      rw [inD_den hx h.1.1 hl h.1.2]
      have q := h.2
      cases neg with
      | false => exact hk.fz hR (by rw [Bool.false_bne] at q; exact q) (.bl _)
      | true => exact hk.fz hR (by rw [Bool.true_bne] at q; exact q) (.bl _)⟩
  cases b with
  | mt k => exact (show False from hg).elim
  | fz x =>
    cases c with
    | mt k =>
      obtain ⟨_, e⟩ := hc
      obtain ⟨bs, e1, h1⟩ := cell_lst (f := fun bs => asDs bs fun xs => (flatD x = true ∧ xs.all flatD = true) ∧ R (.fz (.bl (neg != inD x xs))) S) hg
      obtain ⟨vs, h3, h4⟩ := hR.cellL e1
      obtain ⟨ds, rfl, h2⟩ := asDs_eq h1
      exact fin hb e (.inl (SqL.of h3)) h4.fz h2
    | fz y =>
      have hc : Den K w.F y u := hc
      cases hc with
      | lst h3 h4 => exact fin hb rfl (.inl (SqL.of (hR.fr _ _ h3))) h4 hg
      | tup h3 h4 => exact fin hb rfl (.inr (sqT_same hR.fr h3)) h4 hg
      | _ => exact (show False from hg).elim
/-! ### list, tuple, str, int .. -/
/-- the items of a list or tuple -/
def seqD (b : B) (S : Sto) (k : List D → Prop) : Prop := match b with
  | .fz (.lst ds) => k ds
  | .fz (.tup ds) => k ds
  | .mt j => (match S[j]? with
    | some (.lst bs) => asDs bs k
    | _ => False)
  | _ => False
theorem seqD_ok {β : Base} {S : Sto} {w : Wd} {b : B} {v : V} {k : List D → Prop} (hR : Rel K β S w) (hb : DenB K S.length w b v) (h : seqD b S k) : ∃ a ds vs, v = .ref a ∧ (SqL K w.H a vs ∨ SqT K w.H a vs) ∧ DenL K w.F ds vs ∧ k ds := by
  cases b with
  | mt j =>
    obtain ⟨_, rfl⟩ := hb
    obtain ⟨bs, e1, h1⟩ := cell_lst (f := fun bs => asDs bs k) h
    obtain ⟨vs, h3, h4⟩ := hR.cellL e1
    obtain ⟨ds, rfl, h2⟩ := asDs_eq h1
    exact ⟨_, ds, vs, rfl, .inl (SqL.of h3), h4.fz, h2⟩
  | fz y =>
    have hb : Den K w.F y v := hb
    cases hb with
    | lst h3 h4 => exact ⟨_, _, _, rfl, .inl (SqL.of (hR.fr _ _ h3)), h4, h⟩
    | tup h3 h4 => exact ⟨_, _, _, rfl, .inr (sqT_same hR.fr h3), h4, h⟩
    | _ => exact (show False from h).elim
def gList : GL := fun bs S R => match bs with
  | [b] => seqD b S fun ds => R (.fz (.lst ds)) S
  | _ => False
/-- .. that will change -/
def gListM : GL := fun bs S R => match bs with
  | [b] => seqD b S fun ds => R (.mt S.length) (S ++ [.lst (ds.map .fz)])
  | _ => False
abbrev rLstOf (K : PySem.W.Frag) : List V → Hp → VK → Prop := fun xs H Q => ∃ p ys, xs = [.ref p] ∧ (SqL K H p ys ∨ SqT K H p ys) ∧ ∀ l, H l = none → Q (.ref l) (upd H l (.lst ys))
theorem snd_list : SndL K (rLstOf K) gList := fun β S w bs vs R Q hR hb hg hk => by
  match bs, hg, hb with
  | [b], hg, hb =>
    obtain ⟨v, rfl, h1⟩ := hb.one
    obtain ⟨a, ds, vs, rfl, h2, h3, h4⟩ := seqD_ok hR h1 hg
    exact ⟨a, vs, rfl, h2, fun l hl => hk.newL hR h4 h3 hl⟩
theorem snd_listM : SndL K (rLstOf K) gListM := fun β S w bs vs R Q hR hb hg hk => by
  match bs, hg, hb with
  | [b], hg, hb =>
    obtain ⟨v, rfl, h1⟩ := hb.one
    obtain ⟨a, ds, vs, rfl, h2, h3, h4⟩ := seqD_ok hR h1 hg
    exact ⟨a, vs, rfl, h2, fun l hl => hk.newM hR h4 (DenL.bz h3) hl⟩
def gTuple : GL := fun bs S R => match bs with
  | [.fz (.lst ds)] => R (.fz (.tup ds)) S
  | [.fz (.tup ds)] => R (.fz (.tup ds)) S
  | [.mt j] => (match S[j]? with
    | some (.lst bs) => asDs bs fun ds => R (.fz (.tup ds)) S
    | _ => False)
  | _ => False
theorem snd_tuple : SndL K (fun xs H Q => ∃ p ys, xs = [.ref p] ∧ ((SqL K H p ys ∧ ∀ l, H l = none → Q (.ref l) (upd H l (.tup ys))) ∨ (SqT K H p ys ∧ Q (.ref p) H))) gTuple := fun β S w bs vs R Q hR hb hg hk => by
  match bs, hg, hb with
  | [.mt j], hg, hb =>
    obtain ⟨v, rfl, h1⟩ := hb.one
    obtain ⟨_, rfl⟩ := h1
    obtain ⟨bs, e1, h1⟩ := cell_lst (f := fun bs => asDs bs fun ds => R (.fz (.tup ds)) S) hg
    obtain ⟨vs, h3, h4⟩ := hR.cellL e1
    obtain ⟨ds, rfl, h2⟩ := asDs_eq h1
    exact ⟨_, vs, rfl, .inl ⟨SqL.of h3, fun l hl => hk.newT hR h2 h4.fz hl⟩⟩
  | [.fz (.lst ds)], hg, hb =>
    obtain ⟨v, rfl, h1⟩ := hb.one
    cases (show Den K w.F (.lst ds) v from h1) with
    | lst h3 h4 => exact ⟨_, _, rfl, .inl ⟨SqL.of (hR.fr _ _ h3), fun l hl => hk.newT hR hg h4 hl⟩⟩
  | [.fz (.tup ds)], hg, hb =>
    obtain ⟨v, rfl, h1⟩ := hb.one
    cases (show Den K w.F (.tup ds) v from h1) with
    | tup h3 h4 => exact ⟨_, _, rfl, .inr ⟨sqT_same hR.fr h3, hk.fz hR hg (.tup h3 h4)⟩⟩
def gStr : GL := fun bs S R => match bs with
  | [.fz (.int i)] => i.natAbs.log2 < 1920 ∧ R (.fz (.str (toString i))) S
  | _ => False
theorem snd_str : SndL K (fun xs H Q => ∃ i, xs = [.int i] ∧ i.natAbs.log2 < 1920 ∧ Q (.str (toString i)) H) gStr := fun β S w bs vs R Q hR hb hg hk => by
  match bs, hg, hb with
  | [.fz (.int i)], hg, hb =>
    obtain ⟨v, rfl, h1⟩ := hb.one
    have e := denInt h1
    subst e
    exact ⟨i, rfl, hg.1, hk.fz hR hg.2 (.str _)⟩
def gInt : GL := fun bs S R => match bs with
  | [.fz (.int i)] => R (.fz (.int i)) S
  | [.fz (.bl b)] => R (.fz (.int (if b then 1 else 0))) S
  | [.fz (.str z)] => z.length ≤ 640 ∧ optK (PySem.intText? z) fun n => R (.fz (.int n)) S
  | _ => False
def rIntA : List V → Hp → VK → Prop := fun xs H Q => ((∃ i, xs = [.int i] ∧ Q (.int i) H) ∨ ∃ k, xs = [.bl k] ∧ Q (.int (if k then 1 else 0)) H) ∨ ∃ a n, xs = [.str a] ∧ PySem.intText? a = some n ∧ a.length ≤ 640 ∧ Q (.int n) H
theorem call_intA {X : Cx} : CallR X (.type "int") rIntA := call_int1.or call_int_str
theorem snd_int : SndL K rIntA gInt := fun β S w bs vs R Q hR hb hg hk => by
  match bs, hg, hb with
  | [.fz (.int i)], hg, hb =>
    obtain ⟨v, rfl, h1⟩ := hb.one
    have e := denInt h1
    subst e
    exact .inl (.inl ⟨i, rfl, hk.fz hR hg (.int _)⟩)
  | [.fz (.bl b)], hg, hb =>
    obtain ⟨v, rfl, h1⟩ := hb.one
    cases (show Den K w.F (.bl b) v from h1)
    exact .inl (.inr ⟨b, rfl, hk.fz hR hg (.int _)⟩)
  | [.fz (.str z)], hg, hb =>
    obtain ⟨v, rfl, h1⟩ := hb.one
    cases (show Den K w.F (.str z) v from h1)
    obtain ⟨n, e, h2⟩ := optK_ok hg.2
    exact .inr ⟨z, n, rfl, e, hg.1, hk.fz hR h2 (.int _)⟩
/-! lists of ints, bools, texts -/
def asInts : List D → (List Int → Prop) → Prop
  | [], k => k []
  | .int i :: ds, k => asInts ds fun is => k (i :: is)
  | _ :: _, _ => False
theorem asInts_ok {F : Hp} : ∀ {ds : List D} {vs : List V} {k : List Int → Prop}, asInts ds k → DenL K F ds vs → ∃ is, vs = is.map V.int ∧ ds = is.map D.int ∧ k is
  | [], _, _, h, .nil => ⟨[], rfl, rfl, h⟩
  | .int i :: ds, _, _, h, .cons h1 t => by
    cases h1
    obtain ⟨is, e1, e2, h2⟩ := asInts_ok (ds := ds) h t
    exact ⟨i :: is, by rw [e1]; rfl, by rw [e2]; rfl, h2⟩
def asBls : List D → (List Bool → Prop) → Prop
  | [], k => k []
  | .bl i :: ds, k => asBls ds fun is => k (i :: is)
  | _ :: _, _ => False
theorem asBls_ok {F : Hp} : ∀ {ds : List D} {vs : List V} {k : List Bool → Prop}, asBls ds k → DenL K F ds vs → ∃ is, vs = is.map V.bl ∧ ds = is.map D.bl ∧ k is
  | [], _, _, h, .nil => ⟨[], rfl, rfl, h⟩
  | .bl i :: ds, _, _, h, .cons h1 t => by
    cases h1
    obtain ⟨is, e1, e2, h2⟩ := asBls_ok (ds := ds) h t
    exact ⟨i :: is, by rw [e1]; rfl, by rw [e2]; rfl, h2⟩
def asStrs : List D → (List Str → Prop) → Prop
  | [], k => k []
  | .str i :: ds, k => asStrs ds fun is => k (i :: is)
  | _ :: _, _ => False
theorem asStrs_ok {F : Hp} : ∀ {ds : List D} {vs : List V} {k : List Str → Prop}, asStrs ds k → DenL K F ds vs → ∃ is, vs = is.map V.str ∧ ds = is.map D.str ∧ k is
  | [], _, _, h, .nil => ⟨[], rfl, rfl, h⟩
  | .str i :: ds, _, _, h, .cons h1 t => by
    cases h1
    obtain ⟨is, e1, e2, h2⟩ := asStrs_ok (ds := ds) h t
    exact ⟨i :: is, by rw [e1]; rfl, by rw [e2]; rfl, h2⟩
theorem asInts_map {is : List Int} {k : List Int → Prop} (h : k is) : asInts (is.map .int) k := by
  induction is generalizing k with
  | nil => exact h
  | cons d ds ih => exact ih (k := fun ds => k (d :: ds)) h
theorem asBls_map {is : List Bool} {k : List Bool → Prop} (h : k is) : asBls (is.map .bl) k := by
  induction is generalizing k with
  | nil => exact h
  | cons d ds ih => exact ih (k := fun ds => k (d :: ds)) h
theorem asStrs_map {is : List Str} {k : List Str → Prop} (h : k is) : asStrs (is.map .str) k := by
  induction is generalizing k with
  | nil => exact h
  | cons d ds ih => exact ih (k := fun ds => k (d :: ds)) h
/-- the items of a list -/
def lstD (b : B) (S : Sto) (k : List D → Prop) : Prop := match b with
  | .fz (.lst ds) => k ds
  | .mt j => (match S[j]? with
    | some (.lst bs) => asDs bs k
    | _ => False)
  | _ => False
theorem lstD_ok {β : Base} {S : Sto} {w : Wd} {b : B} {v : V} {k : List D → Prop} (hR : Rel K β S w) (hb : DenB K S.length w b v) (h : lstD b S k) : ∃ a ds vs, v = .ref a ∧ w.H a = some (.lst vs) ∧ DenL K w.F ds vs ∧ k ds := by
  cases b with
  | mt j =>
    obtain ⟨_, rfl⟩ := hb
    obtain ⟨bs, e1, h1⟩ := cell_lst (f := fun bs => asDs bs k) h
    obtain ⟨vs, h3, h4⟩ := hR.cellL e1
    obtain ⟨ds, rfl, h2⟩ := asDs_eq h1
    exact ⟨_, ds, vs, rfl, h3, h4.fz, h2⟩
  | fz y =>
    have hb : Den K w.F y v := hb
    cases hb with
    | lst h3 h4 => exact ⟨_, _, _, rfl, hR.fr _ _ h3, h4, h⟩
    | _ => exact (show False from h).elim
def gSum : GL := fun bs S R => match bs with
  | [b] => lstD b S fun ds => asInts ds fun is => R (.fz (.int is.sum)) S
  | _ => False
theorem snd_sum : SndL K (rSum K) gSum := fun β S w bs vs R Q hR hb hg hk => by
  match bs, hg, hb with
  | [b], hg, hb =>
    obtain ⟨v, rfl, h1⟩ := hb.one
    obtain ⟨a, ds, vs, rfl, h2, h3, h4⟩ := lstD_ok hR h1 hg
    obtain ⟨is, rfl, rfl, h5⟩ := asInts_ok h4 h3
    exact ⟨a, is, rfl, SqL.of h2, hk.fz hR h5 (.int _)⟩
def gAnyL : GL := fun bs S R => match bs with
  | [b] => lstD b S fun ds => asBls ds fun is => R (.fz (.bl (is.any id))) S
  | _ => False
theorem snd_any : SndL K (rAny K) gAnyL := fun β S w bs vs R Q hR hb hg hk => by
  match bs, hg, hb with
  | [b], hg, hb =>
    obtain ⟨v, rfl, h1⟩ := hb.one
    obtain ⟨a, ds, vs, rfl, h2, h3, h4⟩ := lstD_ok hR h1 hg
    obtain ⟨is, rfl, rfl, h5⟩ := asBls_ok h4 h3
    exact ⟨a, is, rfl, SqL.of h2, hk.fz hR h5 (.bl _)⟩
def gAllL : GL := fun bs S R => match bs with
  | [b] => lstD b S fun ds => asBls ds fun is => R (.fz (.bl (is.all id))) S
  | _ => False
theorem snd_allL : SndL K (rAll K) gAllL := fun β S w bs vs R Q hR hb hg hk => by
  match bs, hg, hb with
  | [b], hg, hb =>
    obtain ⟨v, rfl, h1⟩ := hb.one
    obtain ⟨a, ds, vs, rfl, h2, h3, h4⟩ := lstD_ok hR h1 hg
    obtain ⟨is, rfl, rfl, h5⟩ := asBls_ok h4 h3
    exact ⟨a, is, rfl, SqL.of h2, hk.fz hR h5 (.bl _)⟩
def gMax2 : GL := fun bs S R => match bs with
  | [.fz (.int i), .fz (.int j)] => R (.fz (.int (if j > i then j else i))) S
  | _ => False
def gMin2 : GL := fun bs S R => match bs with
  | [.fz (.int i), .fz (.int j)] => R (.fz (.int (if j < i then j else i))) S
  | _ => False
theorem snd_max2 : SndL K (fun xs H Q => ∃ i j, xs = [.int i, .int j] ∧ Q (.int (if j > i then j else i)) H) gMax2 := fun β S w bs vs R Q hR hb hg hk => by
  match bs, hg, hb with
  | [.fz (.int i), .fz (.int j)], hg, hb =>
    obtain ⟨v, u, rfl, h1, h2⟩ := hb.two
    have e := denInt h1
    subst e
    have e := denInt h2
    subst e
    exact ⟨i, j, rfl, hk.fz hR hg (.int _)⟩
theorem snd_min2 : SndL K (fun xs H Q => ∃ i j, xs = [.int i, .int j] ∧ Q (.int (if j < i then j else i)) H) gMin2 := fun β S w bs vs R Q hR hb hg hk => by
  match bs, hg, hb with
  | [.fz (.int i), .fz (.int j)], hg, hb =>
    obtain ⟨v, u, rfl, h1, h2⟩ := hb.two
    have e := denInt h1
    subst e
    have e := denInt h2
    subst e
    exact ⟨i, j, rfl, hk.fz hR hg (.int _)⟩
/-! ### texts -/
def gJoin (b : B) : GL := fun bs S R => match b, bs with
  | .fz (.str a), [c] => seqD c S fun ds => asStrs ds fun ys => (ys.map (·.length)).sum + ys.length * a.length ≤ 16777216 ∧ R (.fz (.str (Txt.join a ys))) S
  | _, _ => False
theorem snd_join : SndM K (fun x xs H Q => ∃ a p, ∃ ys : List Str, x = .str a ∧ xs = [.ref p] ∧ (SqL K H p (ys.map V.str) ∨ SqT K H p (ys.map V.str)) ∧
    (ys.map (·.length)).sum + ys.length * a.length ≤ 16777216 ∧ Q (.str (Txt.join a ys)) H) gJoin := fun β S w b bs v vs R Q hR hx hb hg hk => by
  match b, bs, hg, hx, hb with
  | .fz (.str a), [c], hg, hx, hb =>
    cases (show Den K w.F (.str a) v from hx)
    obtain ⟨u, rfl, h1⟩ := hb.one
    obtain ⟨p, ds, vs, rfl, h2, h3, h4⟩ := seqD_ok hR h1 hg
    obtain ⟨ys, rfl, rfl, h5⟩ := asStrs_ok h4 h3
    exact ⟨a, p, ys, rfl, rfl, h2, h5.1, hk.fz hR h5.2 (.str _)⟩
/-- {e} -/
def dFmt : D → (D → Prop) → Prop
  | .str y, k => y.length ≤ sizeLine ∧ k (.str y)
  | .int i, k => i.natAbs.log2 < 1920 ∧ k (.str (toString i))
  | _, _ => False
end
section
variable {X : Cx} {E : XK} {a b c e o : Expr} {es : List Expr} {fa fb f fo fe : FE} {fr : FA} {pos p0 : Pos}
theorem xfmt (he : XE X E e fe) : XE X E (.FormattedValue e (-1) none pos) (eUn (gD1 dFmt) fe) :=
  let ⟨_, p, s⟩ := he.ex
  ⟨_, pe_fmt p, fun β S w σ Γ Rx R Q hR hG hf hk hx => s β S w σ Γ Rx _ _ hR hG hf (fun b S1 w1 v h1 R1 l1 d1 => by
    cases b with
    | mt k => exact (show False from h1).elim
    | fz d =>
      have d1 : Den X.K w1.F d v := d1
      cases d1 with
      | str y => exact .inl ⟨y, rfl, h1.1, (hk.later l1).fz R1 h1.2 (.str _)⟩
      | int i => exact .inr ⟨i, rfl, h1.1, (hk.later l1).fz R1 h1.2 (.str _)⟩
      | _ => exact (show False from h1).elim) hx⟩
/-- the parts of an f-text -/
def jsW : List FE → Str → FE
  | [], acc => fun _ S _ R => R (.fz (.str acc)) S
  | f :: fs, acc => fun Γ S Rx R => f Γ S Rx fun b S1 => match b with
    | .fz (.str y) => (acc ++ y).length ≤ sizeLine ∧ jsW fs (acc ++ y) Γ S1 Rx R
    | _ => False
inductive XJ (X : Cx) (E : XK) : List Expr → List FE → Prop where
  | nil : XJ X E [] []
  | cons {e : Expr} {f : FE} {es : List Expr} {fs : List FE} (h : XE X E e f) (r : XJ X E es fs) : XJ X E (e :: es) (f :: fs)
theorem XJ.ex {es : List Expr} {fs : List FE} (h : XJ X E es fs) : ∃ ts, PJ X es ts ∧ ∀ acc β S w σ Γ Rx R (Q : VK), Rel X.K β S w → EvOk X.K S.length w Γ σ → jsW fs acc Γ S Rx R → KOk X.K β S.length w R Q → XOk X.K E β S.length w Rx → tJs ts acc σ w.H fun out H1 => Q (.str out) H1 := by
  induction h with
  | nil => exact ⟨[], .nil, fun acc β S w σ Γ Rx R Q hR hG hf hk hx => hk.fz hR hf (.str _)⟩
  | @cons e f es fs h r ih =>
    obtain ⟨t, p, s⟩ := h.ex
    obtain ⟨ts, q, u⟩ := ih
    refine ⟨t :: ts, .cons p q, fun acc β S w σ Γ Rx R Q hR hG hf hk hx => s β S w σ Γ Rx _ _ hR hG hf (fun b S1 w1 v h1 R1 l1 d1 => ?_) hx⟩
    cases b with
    | mt k => exact (show False from h1).elim
    | fz d =>
      have d1 : Den X.K w1.F d v := d1
      cases d1 with
      | str y => exact ⟨y, rfl, h1.1, u _ β S1 w1 σ Γ Rx R Q R1 (hG.later l1) h1.2 (hk.later l1) (hx.later l1)⟩
      | _ => exact (show False from h1).elim
theorem xjoined {v1 v2 : Expr} {rest : List Expr} {fs : List FE} (h : XJ X E (v1 :: v2 :: rest) fs) : XE X E (.JoinedStr (v1 :: v2 :: rest) pos) (jsW fs Str.empty) :=
  let ⟨_, p, s⟩ := h.ex; ⟨_, pe_joined p, fun β S w σ Γ Rx R Q hR hG hf hk hx => s _ β S w σ Γ Rx R Q hR hG hf hk hx⟩
theorem xjoined1 (he : XE X E e fe) : XE X E (.JoinedStr [e] pos) fe := let ⟨_, p, s⟩ := he.ex; ⟨_, pe_joined1 p, s⟩
/-- the classes of a written tuple -/
inductive XCl (X : Cx) : List Expr → List D → List V → List Value → Prop where
  | nil : XCl X [] [] [] []
  | cons {e : Expr} {d : D} {v : V} {u : Value} {es : List Expr} {ds : List D} {vs : List V} {us : List Value} (h : PE X e (tC v)) (hd : ∀ F, Den X.K F d v) (hc : ClsV v u) (r : XCl X es ds vs us) (hs : starEach (e :: es) X.env = (false, eval e X.env) :: starEach es X.env := by rfl) : XCl X (e :: es) (d :: ds) (v :: vs) (u :: us)
theorem XCl.pa {es : List Expr} {ds : List D} {vs : List V} {us : List Value} (h : XCl X es ds vs us) : PA X es (fun _ H Q => Q vs H) := by
  induction h with
  | nil => exact pa_nil
  | cons h hd hc r hs ih => exact pa_cons h ih hs
theorem XCl.paired {es : List Expr} {ds : List D} {vs : List V} {us : List Value} (h : XCl X es ds vs us) : Paired ClsV vs us := by
  induction h with
  | nil => exact .nil
  | cons h hd hc r hs ih => exact .cons hc ih
theorem XCl.len {es : List Expr} {ds : List D} {vs : List V} {us : List Value} (h : XCl X es ds vs us) : vs.length = ds.length := by
  induction h with
  | nil => rfl
  | cons _ _ _ _ _ ih => exact congrArg (· + 1) ih
theorem clsV_fn {v : V} {a b : Value} (h : ClsV v a) (h' : ClsV v b) : a = b := by
  cases h <;> cases h' <;> rfl
theorem XCl.any {ι : D → D → Option Bool} {es : List Expr} {ds : List D} {vs : List V} {us : List Value} (h : XCl X es ds vs us) {F : Hp} {x : D} {t : Value} (q : ∀ (c : D) (u : V) (b : Bool), Den X.K F c u → ι x c = some b → ∃ cu, ClsV u cu ∧ PySem.W.kitOne X.K t cu = some b) :
    ∀ {b : Bool}, anyIs ι x ds = some b → PySem.W.kitAny X.K t us = some b := by
  induction h with
  | nil => exact fun e => by cases e; exact kitAny_nil'
  | @cons e d v u es ds vs us h hd hc r hs ih =>
    intro b e
    unfold anyIs at e
    cases h1 : ι x d with
    | none => rw [h1] at e; cases e
    | some k =>
      obtain ⟨cu, c1, c2⟩ := q d v k (hd F) h1
      rw [clsV_fn hc c1]
      unfold PySem.W.kitAny
      rw [c2]
      rw [h1] at e
      cases k with
      | true => exact e
      | false => exact ih e
/-- isinstance(e, (C1, C2, ..)) -/
def eIsiT (ι : D → D → Option Bool) (cs : List D) (fe : FE) : FE := fun Γ S Rx R => fe Γ S Rx fun b S1 => (cs.length ≤ 100) ∧ match b with
  | .fz x => optK (anyIs ι x cs) fun k => (∃ c0 b0, ι x c0 = some b0) ∧ R (.fz (.bl k)) S1
  | _ => False
theorem xisiT {ι : D → D → Option Bool} (hι : IsaOk X.K ι) {x : Str} {k1 : Nat} {pt : Pos} {cs : List D} {vs : List V} {us : List Value} (hg : Gl X x) (hm : X.mg x = none) (hv : bootBuiltins x = some (.builtin "isinstance")) (he : XE X E e fe) (hc : XCl X es cs vs us)
    (hn : x ≠ "__name__" := by decide) (hdb : (x == ("__debug__" : Str)) = false := by decide)
    (hst : starEach (e :: [.Tuple es k1 pt]) X.env = (false, eval e X.env) :: starEach [.Tuple es k1 pt] X.env := by rfl) (hst2 : starEach [.Tuple es k1 pt] X.env = (false, eval (.Tuple es k1 pt) X.env) :: starEach [] X.env := by rfl) (hpl : (backTo pos (starEach [.Tuple es k1 pt] X.env)).any (·.1) = false := by rfl) :
    XE X E (.Call (.Name x p0) (e :: [.Tuple es k1 pt]) [] pos) (eIsiT ι cs fe) :=
  let ⟨_, p, s⟩ := he.ex
  ⟨_, pe_callB call_isiT hg hm hv (pa_cons p (pa_cons (pe_tup hc.pa) pa_nil hst2) hst) hn hdb hst hpl, fun β S w σ Γ Rx R Q hR hG hf hk hx => s β S w σ Γ Rx _ _ hR hG hf (fun b S1 w1 v h1 R1 l1 d1 => by
    obtain ⟨hl, h1⟩ := h1
    cases b with
    | mt k => exact (show False from h1).elim
    | fz y =>
      obtain ⟨r, e1, ⟨c0, b0, e0⟩, h2⟩ := optK_ok h1
      have hlen := hc.len
      refine ⟨by rw [hlen]; exact Nat.le_trans hl (by decide), fun tp htp => ?_⟩
      obtain ⟨R2, l2⟩ := R1.newF htp (.tup vs)
      obtain ⟨t, q2, q⟩ := hι _ _ y v R2.fr (Den.mono l2.F d1) c0 b0 e0
      exact ⟨v, tp, vs, t, us, r, rfl, upd_same, hc.paired, q2, hc.any q e1, hk _ S1 _ (.bl r) h2 R2 (l1.trans l2) (.bl r)⟩) hx⟩
/-! ### methods of built-in types -/
def eBM (ty : B → Sto → Prop) (g : B → GL) (fo : FE) (fr : FA) : FE := fun Γ S Rx R => fo Γ S Rx fun b S1 => ty b S1 ∧ fr Γ S1 Rx fun bs S2 => g b bs S2 R
def SndTy (K : PySem.W.Frag) (T : String) (ty : B → Sto → Prop) : Prop := ∀ β S w b v, Rel K β S w → DenB K S.length w b v → ty b S → tyV K T v w.H
def tyL (b : B) (S : Sto) : Prop := match b with
  | .fz (.lst _) => True
  | .mt k => (match S[k]? with
    | some (.lst _) => True
    | _ => False)
  | _ => False
def tyS (b : B) (_ : Sto) : Prop := match b with
  | .fz (.str _) => True
  | _ => False
theorem snd_tyL {K : PySem.W.Frag} : SndTy K "list" tyL := fun β S w b v hR hb h => by
  cases b with
  | mt k =>
    obtain ⟨_, rfl⟩ := hb
    obtain ⟨bs, e1, _⟩ := cell_lst (f := fun _ => True) h
    obtain ⟨vs, h3, _⟩ := hR.cellL e1
    exact .inl ⟨rfl, _, SqL.of h3⟩
  | fz d =>
    have hb : Den K w.F d v := hb
    cases hb with
    | lst h3 _ => exact .inl ⟨rfl, _, SqL.of (hR.fr _ _ h3)⟩
    | _ => exact (show False from h).elim
theorem snd_tyS {K : PySem.W.Frag} : SndTy K "str" tyS := fun β S w b v hR hb h => by
  cases b with
  | mt k => exact (show False from h).elim
  | fz d =>
    have hb : Den K w.F d v := hb
    cases hb with
    | str z => rfl
    | _ => exact (show False from h).elim
variable {T id : String} {name : Str} {r : V → List V → Hp → VK → Prop} {g : B → GL} {ty : B → Sto → Prop} {apos cpos : Pos}
theorem xbm (hs : SndM X.K r g) (ht : SndTy X.K T ty) (ho : XE X E o fo) (ha : XA X E (a :: es) fr) (hpe : ∀ {to : TE} {t : TA}, PE X o to → PA X (a :: es) t → PE X e (tBM X.K T r to t)) : XE X E e (eBM ty g fo fr) :=
  let ⟨_, q, u⟩ := ho.ex; let ⟨_, p, s⟩ := ha.ex
  ⟨_, hpe q p, fun β S w σ Γ Rx R Q hR hG hf hk hx => u β S w σ Γ Rx _ _ hR hG hf (fun b S1 w1 v h1 R1 l1 d1 => ⟨ht β S1 w1 b v R1 d1 h1.1,
    s β S1 w1 σ Γ Rx _ _ R1 (hG.later l1) h1.2 (fun bs S2 w2 vs h2 R2 l2 d2 => hs β S2 w2 b bs v vs R Q R2 (d1.later l2) d2 h2 (hk.later (l1.trans l2))) (hx.later l1)⟩) hx⟩
theorem xbm0 (hs : SndM X.K r g) (ht : SndTy X.K T ty) (ho : XE X E o fo) (hpe : ∀ {to : TE}, PE X o to → PE X e (tBM0 X.K T r to)) : XE X E e (eBM ty g fo aNil) :=
  let ⟨_, q, u⟩ := ho.ex
  ⟨_, hpe q, fun β S w σ Γ Rx R Q hR hG hf hk hx => u β S w σ Γ Rx _ _ hR hG hf (fun b S1 w1 v h1 R1 l1 d1 => ⟨ht β S1 w1 b v R1 d1 h1.1, hs β S1 w1 b [] v [] R Q R1 d1 .nil h1.2 (hk.later l1)⟩) hx⟩
theorem xjoin {xe : Expr} (ho : XE X E o fo) (he : XE X E xe fe) (hpe : ∀ {to te : TE}, PE X o to → PE X xe te → PE X e (tM1 (fun x xs H Q => ∃ a p, ∃ ys : List Str, x = .str a ∧ xs = [.ref p] ∧ (SqL X.K H p (ys.map V.str) ∨ SqT X.K H p (ys.map V.str)) ∧
    (ys.map (·.length)).sum + ys.length * a.length ≤ 16777216 ∧ Q (.str (Txt.join a ys)) H) to te)) : XE X E e (eBM tyS gJoin fo (aCons fe aNil)) :=
  let ⟨_, q, u⟩ := ho.ex; let ⟨_, p, s⟩ := he.ex
  ⟨_, hpe q p, fun β S w σ Γ Rx R Q hR hG hf hk hx => u β S w σ Γ Rx _ _ hR hG hf (fun b S1 w1 v h1 R1 l1 d1 => ⟨by
      cases b with
      | mt k => exact (show False from h1.1).elim
      | fz d =>
        have d1 : Den X.K w1.F d v := d1
        cases d1 with
        | str z => exact ⟨z, rfl⟩
        | _ => exact (show False from h1.1).elim,
    s β S1 w1 σ Γ Rx _ _ R1 (hG.later l1) h1.2 (fun c S2 w2 u h2 R2 l2 d2 => snd_join β S2 w2 b [c] v [u] R Q R2 (d1.later l2) (.cons d2 .nil) h2 (hk.later (l1.trans l2))) (hx.later l1)⟩) hx⟩
end
/-! ### lists that change -/
section
variable {K : PySem.W.Frag}
def gAppend (b : B) : GL := fun bs S R => match b, bs with
  | .mt k, [c] => (match S[k]? with
    | some (.lst xs) => xs.length < sizeLine ∧ R (.fz .non) (S.set k (.lst (xs ++ [c])))
    | _ => False)
  | _, _ => False
theorem later_H {n : Nat} {w : Wd} {H : Hp} : Later n w n ⟨w.m, w.F, H⟩ := ⟨Nat.le_refl _, fun _ _ => rfl, .refl _⟩
theorem KOk.setL {β : Base} {S : Sto} {w : Wd} {R : RB} {Q : VK} {b : B} {v : V} {k : Nat} {xs ys : List B} {us : List V} (hk : KOk K β S.length w R Q) (hR : Rel K β S w) (e : S[k]? = some (.lst xs)) (h : R b (S.set k (.lst ys))) (hd : DenB K S.length w b v) (hy : DenBL K S.length w ys us) : Q v (upd w.H (w.m k) (.lst us)) := by
  obtain ⟨R1, l1⟩ := hR.setC e (by intro z; cases z) (o := .lst us) (c' := .lst ys) ⟨us, upd_same, hy.later later_H⟩
  exact hk b _ _ v h R1 l1 (hd.later l1)
theorem snd_append : SndM K rAppend gAppend := fun β S w b bs v vs R Q hR hx hb hg hk => by
  match b, bs, hg, hx, hb with
  | .mt k, [c], hg, hx, hb =>
    obtain ⟨_, rfl⟩ := hx
    obtain ⟨u, rfl, h1⟩ := hb.one
    obtain ⟨xs, e1, h2⟩ := cell_lst (f := fun xs => xs.length < sizeLine ∧ R (.fz .non) (S.set k (.lst (xs ++ [c])))) hg
    obtain ⟨us, h3, h4⟩ := hR.cellL e1
    exact ⟨_, us, u, rfl, rfl, h3, by rw [← h4.length]; exact h2.1, hk.setL hR e1 h2.2 .non (h4.app (.cons h1 .nil))⟩
def gExtend (b : B) : GL := fun bs S R => match b, bs with
  | .mt k, [.fz (.lst ys)] => (match S[k]? with
    | some (.lst xs) => xs.length + ys.length ≤ sizeLine ∧ R (.fz .non) (S.set k (.lst (xs ++ ys.map .fz)))
    | _ => False)
  | _, _ => False
theorem snd_extend : SndM K rExtend gExtend := fun β S w b bs v vs R Q hR hx hb hg hk => by
  match b, bs, hg, hx, hb with
  | .mt k, [.fz (.lst ys)], hg, hx, hb =>
    obtain ⟨_, rfl⟩ := hx
    obtain ⟨u, rfl, h1⟩ := hb.one
    obtain ⟨xs, e1, h2⟩ := cell_lst (f := fun xs => xs.length + ys.length ≤ sizeLine ∧ R (.fz .non) (S.set k (.lst (xs ++ ys.map .fz)))) hg
    obtain ⟨us, h3, h4⟩ := hR.cellL e1
    cases (show Den K w.F (.lst ys) u from h1) with
    | lst h5 h6 => exact ⟨_, _, us, _, rfl, rfl, h3, hR.fr _ _ h5, by rw [← h4.length, ← h6.length]; exact h2.1, hk.setL hR e1 h2.2 .non (h4.app h6.bz)⟩
def gClear (b : B) : GL := fun bs S R => match b, bs with
  | .mt k, [] => (match S[k]? with
    | some (.lst _) => R (.fz .non) (S.set k (.lst []))
    | _ => False)
  | _, _ => False
theorem snd_clear : SndM K rClear gClear := fun β S w b bs v vs R Q hR hx hb hg hk => by
  match b, bs, hg, hx, hb with
  | .mt k, [], hg, hx, .nil =>
    obtain ⟨_, rfl⟩ := hx
    obtain ⟨xs, e1, h2⟩ := cell_lst (f := fun _ => R (.fz .non) (S.set k (.lst []))) hg
    obtain ⟨us, h3, h4⟩ := hR.cellL e1
    exact ⟨_, us, rfl, rfl, h3, hk.setL hR e1 h2 .non .nil⟩
def gPop (b : B) : GL := fun bs S R => match b, bs with
  | .mt k, [] => (match S[k]? with
    | some (.lst xs) => optK (xs[xs.length - 1]?) fun c => R c (S.set k (.lst xs.dropLast))
    | _ => False)
  | _, _ => False
theorem DenBL.dropLast {n : Nat} {w : Wd} : ∀ {bs : List B} {vs : List V}, DenBL K n w bs vs → DenBL K n w bs.dropLast vs.dropLast
  | _, _, .nil => .nil
  | _, _, .cons _ .nil => .nil
  | _, _, .cons a (.cons b t) => .cons a (DenBL.dropLast (.cons b t))
theorem snd_pop : SndM K rPop gPop := fun β S w b bs v vs R Q hR hx hb hg hk => by
  match b, bs, hg, hx, hb with
  | .mt k, [], hg, hx, .nil =>
    obtain ⟨_, rfl⟩ := hx
    obtain ⟨xs, e1, h2⟩ := cell_lst (f := fun xs => optK (xs[xs.length - 1]?) fun c => R c (S.set k (.lst xs.dropLast))) hg
    obtain ⟨c, e2, h2⟩ := optK_ok h2
    obtain ⟨us, h3, h4⟩ := hR.cellL e1
    obtain ⟨u, h5, h6⟩ := h4.get e2
    exact ⟨_, us, u, rfl, rfl, h3, by rw [← h4.length]; exact h5, hk.setL hR e1 h2 h6 h4.dropLast⟩
/-- a slot's list is for good from here on -/
def sFrz (i : Nat) (f : FS) : FS := fun Γ S P => match Γ[i]? with
  | some (some (.mt k)) => (match S[k]? with
    | some (.lst bs) => asDs bs fun ds => f (Γ.set i (some (.fz (.lst ds)))) (S.set k .dead) P
    | _ => False)
  | _ => False
theorem xs_frz {X : Cx} {E : XK} {sts : List Stmt} {f : FS} {i : Nat} (h : XSs X E sts f) : XSs X E sts (sFrz i f) :=
  let ⟨_, p, s⟩ := h.ex
  ⟨_, p, fun β S w σ Γ P De hR hG hf hk => by
    unfold sFrz at hf
    cases hb : Γ[i]? with
    | none => rw [hb] at hf; exact hf.elim
    | some ob =>
      rw [hb] at hf
      cases ob with
      | none => exact (show False from hf).elim
      | some b =>
        cases b with
        | fz _ => exact (show False from hf).elim
        | mt k =>
          obtain ⟨bs, e1, h1⟩ := cell_lst (f := fun bs => asDs bs fun ds => f (Γ.set i (some (.fz (.lst ds)))) (S.set k .dead) P) hf
          obtain ⟨ds, rfl, h2⟩ := asDs_eq h1
          obtain ⟨vs, h3, h4⟩ := hR.cellL e1
          obtain ⟨R1, l1⟩ := hR.freeze e1 (by intro z; cases z) h3
          obtain ⟨v, h5, h6⟩ := hG.at_ i _ hb
          obtain ⟨_, rfl⟩ := h6
          have G1 := (hG.later l1).set (v := .ref (w.m k)) (b := .fz (.lst ds)) i (Den.lst upd_same (DenL.mono l1.F h4.fz))
          have es : σ.set i (some (.ref (w.m k))) = σ := by
            refine List.ext_getElem? fun j => ?_
            by_cases hj : j = i
            · subst hj
              rw [List.getElem?_set_self (get_lt h5), h5]
            · rw [List.getElem?_set_ne (Ne.symm hj)]
          rw [es] at G1
          exact s β _ ⟨w.m, upd w.F (w.m k) (.lst vs), w.H⟩ σ _ P De R1 G1 h2 hk⟩
end
end PL
namespace PL
open PySem L2
section
variable {X : Cx} {E : XK} {a b c e o : Expr} {es : List Expr} {fa fb fc f fo fe : FE} {fr : FA} {pos p0 apos : Pos} {CX : CXT} {k n : Nat} {C g : Addr} {cn : Str} {fd : FuncData} {ps : List Str} {dvs : List V} {ds : List Value} {x m : Str} {W : FW} {gw : GW} {E' : XK}
/-! the forms of calls -/
theorem xcall (hw : SndW0 X.K W dvs gw) (F : FnOk X.prog X.w X.K X.mg X.base CX k g fd ps (spP X.K W)) (hr : Room k X.A) (hg : Gl X x) (hm : X.mg x = some (.ref g)) (hk : PySem.W.keepIn X.K (.ref g) = true) (hb : Binds X.K fd ps ds) (hd : Vals dvs ds) (hx : Passes CX X E')
    (ha : XA X E (e :: es) fr) (hdb : (x == ("__debug__" : Str)) = false := by decide) (he : starEach (e :: es) X.env = (false, eval e X.env) :: starEach es X.env := by rfl) (hpl : (backTo pos (starEach es X.env)).any (·.1) = false := by rfl) :
    XE X E (.Call (.Name x p0) (e :: es) [] pos) (eCallC gw fr) := xcallC hw ha fun p => pe_call F hr hg hm hk hb hd hx p hdb he hpl
theorem xcall0 (hw : SndW0 X.K W dvs gw) (F : FnOk X.prog X.w X.K X.mg X.base CX k g fd ps (spP X.K W)) (hr : Room k X.A) (hg : Gl X x) (hm : X.mg x = some (.ref g)) (hk : PySem.W.keepIn X.K (.ref g) = true) (hb : Binds X.K fd ps ds) (hd : Vals dvs ds) (hx : Passes CX X E')
    (hdb : (x == ("__debug__" : Str)) = false := by decide) : XE X E (.Call (.Name x p0) [] [] pos) (eCallC gw aNil) := xcallC0 hw (pe_call0 F hr hg hm hk hb hd hx hdb)
theorem xcallR (hw : SndW X.K W dvs gw) (F : FnOk X.prog X.w X.K X.mg X.base CX k g fd ps (spX X.K W)) (hr : Room k X.A) (hg : Gl X x) (hm : X.mg x = some (.ref g)) (hk : PySem.W.keepIn X.K (.ref g) = true) (hb : Binds X.K fd ps ds) (hd : Vals dvs ds) (hx : Passes CX X E)
    (ha : XA X E (e :: es) fr) (hdb : (x == ("__debug__" : Str)) = false := by decide) (he : starEach (e :: es) X.env = (false, eval e X.env) :: starEach es X.env := by rfl) (hpl : (backTo pos (starEach es X.env)).any (·.1) = false := by rfl) :
    XE X E (.Call (.Name x p0) (e :: es) [] pos) (eCallX gw fr) := xcallX F hw hr hg hm hk hb hd hx ha fun p => pe_call F hr hg hm hk hb hd hx p hdb he hpl
theorem xcallR0 (hw : SndW X.K W dvs gw) (F : FnOk X.prog X.w X.K X.mg X.base CX k g fd ps (spX X.K W)) (hr : Room k X.A) (hg : Gl X x) (hm : X.mg x = some (.ref g)) (hk : PySem.W.keepIn X.K (.ref g) = true) (hb : Binds X.K fd ps ds) (hd : Vals dvs ds) (hx : Passes CX X E)
    (hdb : (x == ("__debug__" : Str)) = false := by decide) : XE X E (.Call (.Name x p0) [] [] pos) (eCallX gw aNil) := xcallX0 hw (pe_call0 F hr hg hm hk hb hd hx hdb)
theorem xmeth (hc : clsAt X.K cn = C) (hw : SndW0 X.K W dvs gw) (ho : XE X E o fo) (ha : XA X E (e :: es) fr)
    (hpe : ∀ {to : TE} {t : TA}, PE X o to → PA X (e :: es) t → PE X (.Call (.Attribute o m apos) (e :: es) [] pos) (tMeth C m (spP X.K W) dvs E' to t)) :
    XE X E (.Call (.Attribute o m apos) (e :: es) [] pos) (eMethC cn m gw fo fr) := xmethC (cn := cn) hw ho ha (by rw [hc]; exact hpe)
theorem xmeth0 (hc : clsAt X.K cn = C) (hw : SndW0 X.K W dvs gw) (ho : XE X E o fo)
    (hpe : ∀ {to : TE}, PE X o to → PE X (.Call (.Attribute o m apos) [] [] pos) (tMeth C m (spP X.K W) dvs E' to tNil)) :
    XE X E (.Call (.Attribute o m apos) [] [] pos) (eMethC cn m gw fo aNil) := xmethC0 (cn := cn) hw ho (by rw [hc]; exact hpe)
theorem xmethR (hc : clsAt X.K cn = C) (hw : SndW X.K W dvs gw) (ho : XE X E o fo) (ha : XA X E (e :: es) fr)
    (hpe : ∀ {to : TE} {t : TA}, PE X o to → PA X (e :: es) t → PE X (.Call (.Attribute o m apos) (e :: es) [] pos) (tMeth C m (spX X.K W) dvs E to t)) :
    XE X E (.Call (.Attribute o m apos) (e :: es) [] pos) (eMethX cn m gw fo fr) := xmethX (cn := cn) hw ho ha (by rw [hc]; exact hpe)
theorem xmethR0 (hc : clsAt X.K cn = C) (hw : SndW X.K W dvs gw) (ho : XE X E o fo)
    (hpe : ∀ {to : TE}, PE X o to → PE X (.Call (.Attribute o m apos) [] [] pos) (tMeth C m (spX X.K W) dvs E to tNil)) :
    XE X E (.Call (.Attribute o m apos) [] [] pos) (eMethX cn m gw fo aNil) := xmethX0 (cn := cn) hw ho (by rw [hc]; exact hpe)
theorem xprop' (hc : clsAt X.K cn = C) (hw : SndW0 X.K W dvs gw) (ho : XE X E o fo) (hpe : ∀ {to : TE}, PE X o to → PE X (.Attribute o m pos) (tProp C (spP X.K W) dvs E' to)) : XE X E (.Attribute o m pos) (eProp cn gw fo) :=
  xprop (cn := cn) hw ho (by rw [hc]; exact hpe)
/-! constructors -/
theorem xmk (hc : clsAt X.K cn = C) {dds : List D} (hD : Paired (fun d v => ∀ F, Den X.K F d v) dds dvs) (M : Mk X.K C g) (F : FnOk X.prog X.w X.K X.mg X.base CX k g fd ps (spP X.K W)) (hr : Room (k + 1) X.A) (hg : Gl X x) (hm : X.mg x = some (.ref C)) (hb : Binds X.K fd ps ds) (hd : Vals dvs ds) (hx : Passes CX X E')
    (ha : XA X E (e :: es) fr) (hdb : (x == ("__debug__" : Str)) = false := by decide) (he : starEach (e :: es) X.env = (false, eval e X.env) :: starEach es X.env := by rfl) (hpl : (backTo pos (starEach es X.env)).any (·.1) = false := by rfl) :
    XE X E (.Call (.Name x p0) (e :: es) [] pos) (eCallC (gMake cn W dds) fr) := by
  subst hc
  exact xmakeC hD ha fun p => pe_make M F hr hg hm hb hd hx p hdb he hpl
theorem xmk0 (hc : clsAt X.K cn = C) {dds : List D} (hD : Paired (fun d v => ∀ F, Den X.K F d v) dds dvs) (M : Mk X.K C g) (F : FnOk X.prog X.w X.K X.mg X.base CX k g fd ps (spP X.K W)) (hr : Room (k + 1) X.A) (hg : Gl X x) (hm : X.mg x = some (.ref C)) (hb : Binds X.K fd ps ds) (hd : Vals dvs ds) (hx : Passes CX X E')
    (hdb : (x == ("__debug__" : Str)) = false := by decide) : XE X E (.Call (.Name x p0) [] [] pos) (eCallC (gMake cn W dds) aNil) := by
  subst hc
  exact xmakeC0 hD (pe_make0 M F hr hg hm hb hd hx hdb)
/-! .. of arguments that may change later: an object for good -/
def gMakeA (cn : Str) (W : FW) (dds : List D) : GW := fun bs S Rx R => W (.mt S.length :: (bs ++ dds.map B.fz)) (S ++ [.ins cn []]) Rx fun b S1 => match b with
  | .fz .non => (match (S1[S.length]? : Option Cell) with
    | some (.ins c' fs) => asFs fs fun fds => R (.fz (.ins c' fds)) (S1.take S.length)
    | _ => False)
  | _ => False
theorem take_get {α : Type} {xs : List α} {n i : Nat} {x : α} (h : (xs.take n)[i]? = some x) : i < n ∧ xs[i]? = some x := by
  have hl := get_lt h
  rw [List.length_take] at hl
  rw [List.getElem?_take] at h
  have : i < n := by omega
  rw [if_pos this] at h
  exact ⟨this, h⟩
/-- cells forgotten -/
theorem Rel.takeC {K : PySem.W.Frag} {β : Base} {S : Sto} {w : Wd} {n : Nat} (R : Rel K β S w) (hn : β.n0 ≤ n) (hle : n ≤ S.length) (hc : ∀ (k : Nat) (c : Cell), (S.take n)[k]? = some c → c ≠ .dead → CellOk K n w (w.m k) c) : Rel K β (S.take n) w := by
  have hl : (S.take n).length = n := by rw [List.length_take]; omega
  refine ⟨R.fr, R.keep, R.f0, R.fn, R.m0, by rw [hl]; exact hn, fun k c h hd => ?_, fun i j ci cj hi hj => R.inj i j ci cj (take_get hi).2 (take_get hj).2⟩
  have L := R.live k c (take_get h).2 hd
  rw [hl]
  exact ⟨L.nf, L.n0, hc k c h hd⟩
section
variable {K : PySem.W.Frag} {n n' : Nat} {w w' : Wd}
theorem DenB.shrink {b : B} {v v' : V} (h : DenB K n w b v) (h' : DenB K n' w' b v') : DenB K n w' b v' := by
  cases b with
  | fz d => exact h'
  | mt k => exact ⟨h.1, h'.2⟩
theorem DenBL.shrink : ∀ {bs : List B} {vs vs' : List V}, DenBL K n w bs vs → DenBL K n' w' bs vs' → DenBL K n w' bs vs'
  | _, _, _, .nil, .nil => .nil
  | _, _, _, .cons a t, .cons a' t' => .cons (a.shrink a') (DenBL.shrink t t')
theorem DenBK.shrink : ∀ {bs : List (Key × B)} {vs vs' : List (Key × V)}, DenBK K n w bs vs → DenBK K n' w' bs vs' → DenBK K n w' bs vs'
  | _, _, _, .nil, .nil => .nil
  | _, _, _, .cons a t, .cons a' t' => .cons (a.shrink a') (DenBK.shrink t t')
theorem DenBF.shrink : ∀ {bs : List (Str × B)} {vs vs' : List (Str × V)}, DenBF K n w bs vs → DenBF K n' w' bs vs' → DenBF K n w' bs vs'
  | _, _, _, .nil, .nil => .nil
  | _, _, _, .cons a t, .cons a' t' => .cons (a.shrink a') (DenBF.shrink t t')
theorem CellOk.shrink {a a' : Addr} {c : Cell} (h : CellOk K n w a c) (h' : CellOk K n' w' a' c) : CellOk K n w' a' c := by
  cases c with
  | lst bs => obtain ⟨_, _, q⟩ := h; obtain ⟨vs, h1, h2⟩ := h'; exact ⟨vs, h1, q.shrink h2⟩
  | dic bs => obtain ⟨_, _, q⟩ := h; obtain ⟨vs, h1, h2⟩ := h'; exact ⟨vs, h1, q.shrink h2⟩
  | ins C bs => obtain ⟨_, _, _, q⟩ := h; obtain ⟨dx, vs, h1, h2⟩ := h'; exact ⟨dx, vs, h1, q.shrink h2⟩
  | bag => exact h'
  | dead => trivial
  | kset _ _ _ _ => exact h'
  | lams _ => exact h'
  | tab _ _ => exact h'
end
theorem snd_makeAC {K : PySem.W.Frag} {t : TA} {dds : List D} (hd : Paired (fun d v => ∀ F, Den K F d v) dds dvs) (s : SndA K E t fr) : SndE K E (tMake (clsAt K cn) (spP K W) dvs E' t) (eCallC (fun bs S Rx R => gMakeA cn W dds bs S Rx fun b S1 => S1 = S ∧ R b S) fr) := fun β S w σ Γ Rx R Q hR hG hf hk hx =>
  s β S w σ Γ Rx _ _ hR hG hf (fun bs S1 w1 vs h1 R1 l1 d1 y dx hy hdx ne => by
    obtain ⟨m1, F1, H1⟩ := w1
    -- the instance's own dict, then the instance
    obtain ⟨Ra, la⟩ := R1.updFree (o := .own y) (R1.fr.free hdx) (R1.keep.free hdx) (R1.freshL hdx)
    have hy2 : upd H1 dx (.own y) y = none := (upd_ne ne.symm).trans hy
    obtain ⟨Rb, lb⟩ := Ra.newC (p := y) hy2 (.ins (clsAt K cn) dx []) (c := .ins cn []) ⟨dx, [], upd_same, .nil⟩
    have l2 := la.trans lb
    have h1' : gMakeA cn W dds bs S1 noX (fun b S' => S' = S1 ∧ R b S1) := h1
    unfold gMakeA at h1'
    have hlen : (S1 ++ [Cell.ins cn []]).length = S1.length + 1 := by rw [List.length_append]; rfl
    refine ⟨β, S1 ++ [.ins cn []], ⟨fun k => if k = S1.length then y else m1 k, F1, upd (upd H1 dx (.own y)) y (.ins (clsAt K cn) dx [])⟩, .mt S1.length :: (bs ++ dds.map B.fz), _, rfl, Rb, .cons (b := .mt S1.length) ⟨by rw [hlen]; exact Nat.lt_succ_self _, congrArg V.ref (if_pos rfl).symm⟩ ((d1.later l2).app (DenL.bz (DenL.den hd))), h1', fun b S' w' v q R' l' d => ?_⟩
    cases b with
    | mt _ => exact (show False from q).elim
    | fz x =>
      cases x with
      | non =>
        cases (show Den K w'.F .non v from d)
        refine ⟨rfl, ?_⟩
        obtain ⟨c', fs, e1, h3⟩ := cell_ins (f := fun c' fs => asFs fs fun fds => S'.take S1.length = S1 ∧ R (.fz (.ins c' fds)) S1) q
        obtain ⟨dx', us, h4, h5⟩ := R'.cellI e1
        obtain ⟨fds, ⟨h6, h7⟩, h8⟩ := asFs_ok h3 h5
        obtain ⟨m', F', H'⟩ := w'
        have em : m' S1.length = y := (l'.m _ (by rw [hlen]; exact Nat.lt_succ_self _)).trans (if_pos rfl)
        have h4 : H' (m' S1.length) = some (.ins (clsAt K c') dx' us) := h4
        obtain ⟨R3, l3⟩ := R'.freeze e1 (by intro z; cases z) h4
        have nle : S1.length ≤ S'.length := by have := l'.le; rw [hlen] at this; omega
        have e2 : (S'.set S1.length .dead).take S1.length = S1 := by rw [List.take_set_of_le (Nat.le_refl _), h6]
        have R4 := R3.takeC (n := S1.length) R1.n0 (by rw [List.length_set]; exact nle) (fun k c hkc hdc => by
          have hkc2 := hkc
          rw [e2] at hkc2
          exact ((R1.live k c hkc2 hdc).ok).shrink (R3.live k c (take_get hkc).2 hdc).ok)
        rw [e2] at R4
        have l4 : Later S1.length ⟨m1, F1, H1⟩ S1.length ⟨m', upd F' (m' S1.length) (.ins (clsAt K c') dx' us), H'⟩ :=
          ⟨Nat.le_refl _, fun k hk => (l'.m k (by rw [hlen]; omega)).trans (if_neg (Nat.ne_of_lt hk)), fun a o ha => l3.F _ _ (l'.F _ _ ha)⟩
        exact (hk.later l1) _ S1 ⟨m', upd F' (m' S1.length) (.ins (clsAt K c') dx' us), H'⟩ (.ref y) h7 R4 l4 (em ▸ Den.ins upd_same (DenF.mono l3.F h8))
      | _ => exact (show False from q).elim) hx
/-- .. as a way of calling -/
def gMkA (cn : Str) (W : FW) (dds : List D) : GW := fun bs S Rx R => gMakeA cn W dds bs S Rx fun b S1 => S1 = S ∧ R b S
theorem xmkA (hc : clsAt X.K cn = C) {dds : List D} (hD : Paired (fun d v => ∀ F, Den X.K F d v) dds dvs) (M : Mk X.K C g) (F : FnOk X.prog X.w X.K X.mg X.base CX k g fd ps (spP X.K W)) (hr : Room (k + 1) X.A) (hg : Gl X x) (hm : X.mg x = some (.ref C)) (hb : Binds X.K fd ps ds) (hd : Vals dvs ds) (hx : Passes CX X E')
    (ha : XA X E (e :: es) fr) (hdb : (x == ("__debug__" : Str)) = false := by decide) (he : starEach (e :: es) X.env = (false, eval e X.env) :: starEach es X.env := by rfl) (hpl : (backTo pos (starEach es X.env)).any (·.1) = false := by rfl) :
    XE X E (.Call (.Name x p0) (e :: es) [] pos) (eCallC (gMkA cn W dds) fr) := by
  subst hc
  exact let ⟨_, p, s⟩ := ha.ex; ⟨_, pe_make M F hr hg hm hb hd hx p hdb he hpl, snd_makeAC hD s⟩
/-! keywords -/
structure XK' (X : Cx) (E : XK) (kws : List Keyword) (f : FA) : Prop where
  ex : ∃ t, PK X kws t ∧ SndA X.K E t f
theorem xk_nil : XK' X E [] aNil := ⟨_, pk_nil, snd_nil⟩
theorem xk_cons {nm : Option Str} {kpos : Pos} {kws : List Keyword} (ha : XE X E e fe) (hr : XK' X E kws fr) : XK' X E (⟨nm, e, kpos⟩ :: kws) (aCons fe fr) :=
  let ⟨_, p, s⟩ := ha.ex; let ⟨_, q, r⟩ := hr.ex; ⟨_, pk_cons p q, snd_cons s r⟩
/-- the keywords' values in the parameters' order -/
def permA {α : Type} (is : List Nat) (zs : List α) : List α := is.filterMap fun i => zs[i]?
theorem DenBL.perm {K : PySem.W.Frag} {n : Nat} {w : Wd} {bs : List B} {vs : List V} (h : DenBL K n w bs vs) : ∀ is : List Nat, DenBL K n w (permA is bs) (permA is vs)
  | [] => .nil
  | i :: is => by
    have ih := DenBL.perm h is
    unfold permA at ih ⊢
    rw [List.filterMap_cons, List.filterMap_cons]
    cases e : bs[i]? with
    | none =>
      have : vs[i]? = none := by rw [List.getElem?_eq_none_iff] at e ⊢; rw [← h.length]; exact e
      rw [this]
      exact ih
    | some b =>
      obtain ⟨v, e2, hv⟩ := h.get e
      rw [e2]
      exact .cons hv ih
/-- C(k = .., ..): keywords alone -/
def eMkK (gw : GW) (is : List Nat) (m : Nat) (fk : FA) : FE := fun Γ S Rx R => fk Γ S Rx fun zs S1 => zs.length = m ∧ gw (permA is zs) S1 noX R
theorem permV {is : List Nat} {zs : List V} {x : V} : (fun (vs zs : List V) => vs ++ permA is zs) [x] zs = x :: permA is zs := rfl
theorem xmkK {m : Nat} {kws : List Keyword} {ks : List Str} {gg : List Value → List Value → List Value} {is : List Nat} {fk : FA} (hc : clsAt X.K cn = C) (M : Mk X.K C g) (F : FnOk X.prog X.w X.K X.mg X.base CX k g fd ps (spP X.K W)) (hr : Room (k + 1) X.A) (hg : Gl X x) (hm : X.mg x = some (.ref C)) (hb : KBn X.K fd ps 1 ks gg fun vs zs => vs ++ permA is zs) (hx : Passes CX X E') (hkw : XK' X E kws fk)
    (hall : (backToKw pos (keywordEach kws X.env)).all (·.1.isSome) = true := by rfl) (hks : (backToKw pos (keywordEach kws X.env)).filterMap (·.1) = ks := by rfl) (hdb : (x == ("__debug__" : Str)) = false := by decide)
    (hpl : ((backTo pos (starEach [] X.env)).any (·.1) || (backToKw pos (keywordEach kws X.env)).any (·.1.isNone)) = false := by rfl) (hlen : ks.length = m := by rfl) :
    XE X E (.Call (.Name x p0) [] kws pos) (eMkK (gMake cn W []) is m fk) :=
  hlen ▸ let ⟨_, p, s⟩ := hkw.ex
  ⟨_, pe_makeK0 M F hr hg hm hb hx p hall hks hdb hpl, fun β S w σ Γ Rx R Q hR hG hf hk hx => by
    subst hc
    refine s β S w σ Γ Rx _ _ hR hG hf (fun zs S1 w1 vs h1 R1 l1 d1 => ⟨rfl, by rw [← d1.length]; exact h1.1, fun y dx hy hdx ne => ?_⟩) hx
    have q := make_coreC (dvs := []) (E' := E') .nil R1 (d1.perm is) h1.2 (hk.later l1) hy hdx ne
    rw [List.append_nil] at q
    exact q⟩
end
end PL
namespace PL
open PySem L2
/-! ### len(o), repr(o) of an own class -/
section
variable {X : Cx} {C f : Addr} {k : Nat} {sp : Sp} {cn : Str} {W : FW} {gw : GW}
theorem call_lenOwn (F : FnR X.prog X.w X.K X.mg X.base CX0 k f sp) (hr : Room (k + 1) X.A) (hs : PySem.W.findIn X.K (.ref C) "__len__" = some (some (.ref f))) (hf : PySem.W.isFn X.K (.ref f) = true) :
    CallR X (.builtin "len") (fun xs H Q => ∃ a dx fs, xs = [.ref a] ∧ H a = some (.ins C dx fs) ∧ sp [.ref a] H (fun v H' => ∃ n : Int, v = .int n ∧ 0 ≤ n ∧ n < 2 ^ 63 ∧ Q (.int n) H') E0) := by
  intro pins s σ H xs us Q I r h
  obtain ⟨a, dx, fs, rfl, ha, q⟩ := h
  obtain ⟨u, rfl, rx⟩ := vals1 r
  obtain rfl : u = Value.ref a := rx
  obtain ⟨mA, O, _⟩ := ins_get I.hok ha
  obtain ⟨od, J, _⟩ := O.look
  obtain ⟨m, hF⟩ := I.fr
  refine PySem.W.len_K hF I.ok.mod.kin J hs hf (wpAny_call (codeAny_mono (F X.A.in1 X.stack s H [.ref a] [.ref a] _ E0 hr.in1 I.env0.in1 (.cons rfl .nil) q) fun r s' z => ?_))
  cases r with
  | error e => exact z.elim
  | ok fl =>
    cases fl with
    | ret w =>
      obtain ⟨z', H', I', rz, n, eb, n0, n1, qb⟩ := I.after z
      subst eb
      obtain ⟨tk, rfl⟩ := rz
      exact ⟨⟨n0, n1⟩, .int n, H', I'.tok _, ⟨_, rfl⟩, qb⟩
    | next => exact z.elim
    | brk => exact z.elim
    | cont => exact z.elim
theorem call_reprOwn (F : FnR X.prog X.w X.K X.mg X.base CX0 k f sp) (hr : Room (k + 1) X.A) (hs : PySem.W.findIn X.K (.ref C) "__repr__" = some (some (.ref f))) (hf : PySem.W.isFn X.K (.ref f) = true) :
    CallR X (.builtin "repr") (fun xs H Q => ∃ a dx fs, xs = [.ref a] ∧ H a = some (.ins C dx fs) ∧ sp [.ref a] H (fun v H' => ∃ y : Str, v = .str y ∧ Q (.str y) H') E0) := by
  intro pins s σ H xs us Q I r h
  obtain ⟨a, dx, fs, rfl, ha, q⟩ := h
  obtain ⟨u, rfl, rx⟩ := vals1 r
  obtain rfl : u = Value.ref a := rx
  obtain ⟨mA, O, _⟩ := ins_get I.hok ha
  obtain ⟨od, J, _⟩ := O.look
  obtain ⟨m, hF⟩ := I.fr
  refine PySem.W.repr_K (Nat.lt_of_le_of_lt (Nat.le_add_right _ 64) hr.in1.units) hF I.ok.mod.kin J hs hf (wpAny_call (codeAny_mono (F X.A.in1 X.stack s H [.ref a] [.ref a] _ E0 hr.in1 I.env0.in1 (.cons rfl .nil) q) fun r s' z => ?_))
  cases r with
  | error e => exact z.elim
  | ok fl =>
    cases fl with
    | ret w =>
      obtain ⟨z', H', I', rz, y, eb, qb⟩ := I.after z
      subst eb
      obtain ⟨tk, rfl⟩ := rz
      exact ⟨.str y, H', I', ⟨_, rfl⟩, qb⟩
    | next => exact z.elim
    | brk => exact z.elim
    | cont => exact z.elim
def asStr (R : Str → Sto → Prop) : RB := fun b S => match b with
  | .fz (.str i) => R i S
  | _ => False
def gLenO (cn : Str) (gw : GW) : GL := fun bs S R => match bs with
  | [b] => isObj cn b S ∧ gw [b] S noX (asInt fun n S2 => (0 ≤ n ∧ n < 2 ^ 63) ∧ R (.fz (.int n)) S2)
  | _ => False
theorem snd_lenO {K : PySem.W.Frag} (hw : SndW0 K W [] gw) : SndL K (fun xs H Q => ∃ a dx fs, xs = [.ref a] ∧ H a = some (.ins (clsAt K cn) dx fs) ∧ spP K W ([.ref a] ++ []) H (fun v H' => ∃ n : Int, v = .int n ∧ 0 ≤ n ∧ n < 2 ^ 63 ∧ Q (.int n) H') E0) (gLenO cn gw) := fun β S w bs vs R Q hR hb hg hk => by
  match bs, hg, hb with
  | [b], hg, hb =>
    obtain ⟨v, rfl, h1⟩ := hb.one
    obtain ⟨a, dx, fs, rfl, h2⟩ := isObj_ok hR h1 hg.1
    exact ⟨a, dx, fs, rfl, h2, hw β S w [b] [.ref a] _ _ E0 hR (.cons h1 .nil) hg.2 fun c S' w' u h R' l' d => by
      obtain ⟨n, rfl, ⟨n0, n1⟩, h3⟩ := asInt_ok h d
      exact ⟨n, rfl, n0, n1, hk _ S' w' (.int n) h3 R' l' (.int n)⟩⟩
def gReprO (cn : Str) (gw : GW) : GL := fun bs S R => match bs with
  | [b] => isObj cn b S ∧ gw [b] S noX (asStr fun n S2 => R (.fz (.str n)) S2)
  | _ => False
theorem snd_reprO {K : PySem.W.Frag} (hw : SndW0 K W [] gw) : SndL K (fun xs H Q => ∃ a dx fs, xs = [.ref a] ∧ H a = some (.ins (clsAt K cn) dx fs) ∧ spP K W ([.ref a] ++ []) H (fun v H' => ∃ y : Str, v = .str y ∧ Q (.str y) H') E0) (gReprO cn gw) := fun β S w bs vs R Q hR hb hg hk => by
  match bs, hg, hb with
  | [b], hg, hb =>
    obtain ⟨v, rfl, h1⟩ := hb.one
    obtain ⟨a, dx, fs, rfl, h2⟩ := isObj_ok hR h1 hg.1
    refine ⟨a, dx, fs, rfl, h2, hw β S w [b] [.ref a] _ _ E0 hR (.cons h1 .nil) hg.2 fun c S' w' u h R' l' d => ?_⟩
    cases c with
    | mt k => exact (show False from h).elim
    | fz x =>
      have d : Den K w'.F x u := d
      cases d with
      | str y => exact ⟨y, rfl, hk _ S' w' (.str y) h R' l' (.str y)⟩
      | _ => exact (show False from h).elim
end
/-! ### the bag goes along, the other cells stay -/
section
variable {K : PySem.W.Frag} {β : Base} {S S' : Sto} {w w' : Wd}
theorem Rel.withBag (R : Rel K β S w) (h : S[0]? = some .bag) : Rel K (PL.reb [.bag] w) [.bag] w := by
  have L := R.live 0 .bag h (by intro z; cases z)
  refine ⟨R.fr, fun a o h => (reb_some h).1, .refl _, fun a o h => .inl h, fun _ _ => rfl, Nat.le_refl _, fun k c hk hd => ?_, fun i j ci cj hi hj _ _ _ => ?_⟩
  · cases k with
    | zero =>
      cases hk
      exact ⟨L.nf, reb_live (S := [.bag]) (k := 0) (c := .bag) rfl (by intro z; cases z), L.ok⟩
    | succ k => cases hk
  · cases i with
    | zero => cases j with
      | zero => rfl
      | succ j => cases hj
    | succ i => cases hi
theorem Rel.unbag (R : Rel K β S w) (h : S[0]? = some .bag) (R' : Rel K (PL.reb [.bag] w) S' w') (h' : S'[0]? = some .bag) : Rel K β S ⟨w.m, w'.F, w'.H⟩ ∧ Later S.length w S.length ⟨w.m, w'.F, w'.H⟩ := by
  have L0 := R.live 0 .bag h (by intro z; cases z)
  have hb0 : (PL.reb [.bag] w).H0 (w.m 0) = none := reb_live (S := [.bag]) (k := 0) (c := .bag) rfl (by intro z; cases z)
  have keep : ∀ a o, a ≠ w.m 0 → w.H a = some o → w'.H a = some o := fun a o n e => R'.keep a o (reb_of e fun k c hk _ e2 => by
    cases k with
    | zero => exact n e2.symm
    | succ k => cases hk)
  have hn : ∀ {a : Addr}, (PL.reb [.bag] w).H0 a = none → w.H a = none ∨ a = w.m 0 := fun {a} q => by
    by_cases e : a = w.m 0
    · exact .inr e
    · left
      cases z : w.H a with
      | none => rfl
      | some o =>
        rw [reb_of z fun k c hk _ e2 => by
          cases k with
          | zero => exact e e2.symm
          | succ k => cases hk] at q
        cases q
  have em : w'.m 0 = w.m 0 := R'.m0 0 Nat.zero_lt_one
  have lt : Later S.length w S.length ⟨w.m, w'.F, w'.H⟩ := ⟨Nat.le_refl _, fun _ _ => rfl, R'.f0⟩
  refine ⟨⟨R'.fr, fun a o q => keep a o (fun e => by rw [e, L0.n0] at q; cases q) (R.keep _ _ q), R.f0.trans R'.f0, fun a o q => ?_, R.m0, R.n0, fun k c hk hd => ?_, R.inj⟩, lt⟩
  · rcases R'.fn a o q with z | z
    · exact R.fn a o z
    · rcases hn z with z | z
      · exact .inr (R.keep.free z)
      · rw [z]; exact .inr L0.n0
  · have L := R.live k c hk hd
    by_cases e : k = 0
    · subst e
      rw [h] at hk
      cases hk
      have L' := R'.live 0 .bag h' (by intro z; cases z)
      rw [em] at L'
      refine ⟨L'.nf, L.n0, ?_⟩
      obtain ⟨q, cells, i, b, s, c, h1, h2, h3⟩ := (show ∃ (q : Addr) (cells : List Int) (i : Nat) (b s c : Int), w'.H (w.m 0) = some (.lst [.ref q, .int (i : Nat), .int b, .int s, .int c]) ∧ w'.F q = some (.lst (cells.map V.int)) ∧ cells.length ≤ 63 ∧ i ≤ cells.length ∧ 0 ≤ b ∧ 0 ≤ s ∧ s < 2147483579 from L'.ok)
      exact ⟨q, cells, i, b, s, c, h1, h2, h3⟩
    · have ne : w.m k ≠ w.m 0 := fun z => e (R.inj k 0 c .bag hk h hd (by intro z; cases z) z)
      obtain ⟨o, ho⟩ := L.ok.some hd
      refine ⟨?_, L.n0, L.ok.later lt ((keep _ _ ne ho).trans ho.symm)⟩
      cases q : w'.F (w.m k) with
      | none => rfl
      | some u =>
        rcases R'.fn _ _ q with z | z
        · have z : w.F (w.m k) = some u := z
          rw [L.nf] at z; cases z
        · rcases hn z with z | z
          · rw [z] at ho; cases ho
          · exact absurd z ne
/-- arguments of which the bag may be one -/
def bagArgs : List B → Prop
  | [] => True
  | .fz _ :: bs => bagArgs bs
  | .mt 0 :: bs => bagArgs bs
  | .mt (_ + 1) :: _ => False
theorem DenBL.bag {n : Nat} {w : Wd} : ∀ {bs : List B} {vs : List V}, bagArgs bs → DenBL K n w bs vs → DenBL K 1 w bs vs
  | [], _, _, .nil => .nil
  | .fz _ :: _, _, h, .cons a t => .cons (b := .fz _) a (DenBL.bag h t)
  | .mt 0 :: _, _, h, .cons a t => .cons (b := .mt 0) ⟨Nat.zero_lt_one, a.2⟩ (DenBL.bag h t)
  | .mt (_ + 1) :: _, _, h, _ => (show False from h).elim
/-- a call that draws: what comes is for good -/
def gBag (W : FW) (dds : List D) : GW := fun bs S _ R => S[0]? = some .bag ∧ bagArgs bs ∧ W (bs ++ dds.map B.fz) [.bag] noX fun b S1 => S1[0]? = some .bag ∧ match b with
  | .fz d => R (.fz d) S
  | .mt _ => False
theorem snd_bag0 {W : FW} {dds : List D} {dvs : List V} (hd : Paired (fun d v => ∀ F, Den K F d v) dds dvs) : SndW0 K W dvs (gBag W dds) := fun β S w bs vs R Q E hR hb hg hk => by
  obtain ⟨h0, h1, h⟩ := hg
  refine ⟨_, [.bag], w, _, _, rfl, hR.withBag h0, (hb.bag h1).app (DenL.bz (DenL.den hd)), h, fun b S' w' v q R' l' d => ?_⟩
  obtain ⟨q0, q⟩ := q
  cases b with
  | mt _ => exact (show False from q).elim
  | fz x =>
    obtain ⟨R2, l2⟩ := hR.unbag h0 R' q0
    exact hk _ S ⟨w.m, w'.F, w'.H⟩ v q R2 l2 d
end
/-! ### *e among the arguments -/
section
variable {X : Cx} {E : XK} {e : Expr} {es : List Expr} {fe : FE} {fr : FA} {p : Pos}
def aStar (fe : FE) (fr : FA) : FA := fun Γ S Rx R => fe Γ S Rx fun b S1 => seqD b S1 fun ds => fr Γ S1 Rx fun bs S2 => R (ds.map .fz ++ bs) S2
theorem xa_star (ha : XE X E e fe) (hr : XA X E es fr) (hs : starEach (.Starred e p :: es) X.env = (true, eval e X.env) :: starEach es X.env := by rfl) : XA X E (.Starred e p :: es) (aStar fe fr) :=
  let ⟨_, q, s⟩ := ha.ex; let ⟨_, u, t⟩ := hr.ex
  ⟨_, StX.pa_star q u hs, fun β S w σ Γ Rx R Q hR hG hf hk hx => s β S w σ Γ Rx _ _ hR hG hf (fun b S1 w1 v h1 R1 l1 d1 => by
    obtain ⟨a, ds, vs, rfl, h2, h3, h4⟩ := seqD_ok R1 d1 h1
    exact ⟨a, vs, rfl, h2.symm, t β S1 w1 σ Γ Rx _ _ R1 (hG.later l1) h4 (fun bs S2 w2 us h5 R2 l2 d2 => hk _ S2 w2 _ h5 R2 (l1.trans l2) ((DenL.bz (n := S2.length) (w := w2) (DenL.mono l2.F h3)).app d2)) (hx.later l1)⟩) hx⟩
end
end PL
/-! for, each turn with the cells of its start alone (own work) -/
namespace PL
open PySem L2
def belowB (n : Nat) : B → Bool
  | .fz _ => true
  | .mt k => decide (k < n)
def belowO (n : Nat) : Option B → Bool
  | none => true
  | some b => belowB n b
def belowC (n : Nat) : Cell → Bool
  | .lst bs => bs.all (belowB n)
  | .dic bs => bs.all fun p => belowB n p.2
  | .ins _ bs => bs.all fun p => belowB n p.2
  | .bag => true
  | .dead => true
  | .kset _ _ _ _ => true
  | .lams _ => true
  | .tab _ _ => true
def shut (n : Nat) (Γ : Ev) (S : Sto) : Bool := Γ.all (belowO n) && S.all (belowC n)
section
variable {K : PySem.W.Frag} {β : Base} {S : Sto} {w : Wd}
theorem DenB.blw {m n : Nat} {b : B} {v : V} (h : DenB K m w b v) (hb : belowB n b = true) : DenB K n w b v := by
  cases b with
  | fz d => exact h
  | mt k => exact ⟨of_decide_eq_true hb, h.2⟩
theorem DenBL.blw {m n : Nat} : ∀ {bs : List B} {vs : List V}, DenBL K m w bs vs → bs.all (belowB n) = true → DenBL K n w bs vs
  | _, _, .nil, _ => .nil
  | b :: bs, _, .cons h t, hb => by
    have hb : (belowB n b && bs.all (belowB n)) = true := hb
    rw [Bool.and_eq_true] at hb
    exact .cons (h.blw hb.1) (DenBL.blw t hb.2)
theorem DenBK.blw {m n : Nat} : ∀ {bs : List (Key × B)} {vs : List (Key × V)}, DenBK K m w bs vs → (bs.all fun p => belowB n p.2) = true → DenBK K n w bs vs
  | _, _, .nil, _ => .nil
  | (k, b) :: bs, _, .cons h t, hb => by
    have hb : (belowB n b && bs.all fun p => belowB n p.2) = true := hb
    rw [Bool.and_eq_true] at hb
    exact .cons (h.blw hb.1) (DenBK.blw t hb.2)
theorem DenBF.blw {m n : Nat} : ∀ {bs : List (Str × B)} {vs : List (Str × V)}, DenBF K m w bs vs → (bs.all fun p => belowB n p.2) = true → DenBF K n w bs vs
  | _, _, .nil, _ => .nil
  | (k, b) :: bs, _, .cons h t, hb => by
    have hb : (belowB n b && bs.all fun p => belowB n p.2) = true := hb
    rw [Bool.and_eq_true] at hb
    exact .cons (h.blw hb.1) (DenBF.blw t hb.2)
theorem CellOk.blw {m n : Nat} {a : Addr} {c : Cell} (h : CellOk K m w a c) (hb : belowC n c = true) : CellOk K n w a c := by
  cases c with
  | lst bs => obtain ⟨vs, h1, h2⟩ := h; exact ⟨vs, h1, h2.blw hb⟩
  | dic bs => obtain ⟨vs, h1, h2⟩ := h; exact ⟨vs, h1, h2.blw hb⟩
  | ins C bs => obtain ⟨dx, vs, h1, h2⟩ := h; exact ⟨dx, vs, h1, h2.blw hb⟩
  | bag => exact h
  | dead => trivial
  | kset _ _ _ _ => exact h
  | lams _ => exact h
  | tab _ _ => exact h
theorem take_got {α : Type} {xs : List α} {n k : Nat} {x : α} (h : (xs.take n)[k]? = some x) : xs[k]? = some x ∧ k < n := by
  have hl : k < (xs.take n).length := get_lt h
  rw [List.length_take] at hl
  have hn : k < n := Nat.lt_of_lt_of_le hl (Nat.min_le_left _ _)
  rw [List.getElem?_take_of_lt hn] at h
  exact ⟨h, hn⟩
theorem Rel.cut (R : Rel K β S w) {n : Nat} (hn : n ≤ S.length) (h0 : β.n0 ≤ n) (hs : (S.take n).all (belowC n) = true) : Rel K β (S.take n) w := by
  have hl : (S.take n).length = n := by rw [List.length_take]; exact Nat.min_eq_left hn
  refine ⟨R.fr, R.keep, R.f0, R.fn, R.m0, by rw [hl]; exact h0, fun k c h hd => ?_, fun i j ci cj hi hj di dj e => R.inj i j ci cj (take_got hi).1 (take_got hj).1 di dj e⟩
  have L := R.live k c (take_got h).1 hd
  rw [hl]
  exact ⟨L.nf, L.n0, L.ok.blw (List.all_eq_true.mp hs c (List.mem_of_getElem? h))⟩
theorem EvOk.drop {n m : Nat} {Γ : Ev} {σ : St} (h : EvOk K m w Γ σ) (is : List Nat) (hb : (EvWipe Γ is).all (belowO n) = true) : EvOk K n w (EvWipe Γ is) σ := by
  have go : ∀ is : List Nat, EvOk K m w (EvWipe Γ is) σ := fun is => by
    induction is with
    | nil => exact h
    | cons i is ih =>
      refine ⟨by show ((EvWipe Γ is).set i none).length = _; rw [List.length_set]; exact ih.len, fun j b e => ?_⟩
      have e : ((EvWipe Γ is).set i none)[j]? = some (some b) := e
      by_cases hj : j = i
      · subst hj
        have hl := get_lt e
        rw [List.length_set] at hl
        rw [List.getElem?_set_self hl] at e
        cases e
      · rw [List.getElem?_set_ne (fun z => hj z.symm)] at e
        exact ih.at_ j b e
  refine ⟨(go is).len, fun j b e => ?_⟩
  obtain ⟨v, h1, h2⟩ := (go is).at_ j b e
  exact ⟨v, h1, h2.blw (List.all_eq_true.mp hb _ (List.mem_of_getElem? e))⟩
end
def forC (g : FG) (f : FS) (is : List Nat) (n : Nat) : List D → Ev → Sto → EndsP → Prop
  | [], Γ, S, P => shut n (EvWipe Γ is) (S.take n) = true ∧ P.nx (EvWipe Γ is) (S.take n)
  | d :: ds, Γ, S, P => shut n (EvWipe Γ is) (S.take n) = true ∧ g (.fz d) (EvWipe Γ is) (S.take n) fun Γ1 S1 => f Γ1 S1 { P with nx := fun Γ2 S2 => forC g f is n ds Γ2 S2 P, ct := fun Γ2 S2 => forC g f is n ds Γ2 S2 P, bk := P.nx }
def sForC (is : List Nat) (fi : FI) (g : FG) (f : FS) : FS := fun Γ S P => fi Γ S P.xe fun ds S1 => forC g f is S1.length ds Γ S1 P
section
variable {X : Cx} {E : XK} {tg iter : Expr} {body : List Stmt} {pos : Pos}
theorem xs_forC {fi : FI} {g : FG} {f : FS} {js : List Nat} (is : List Nat) (hp : PassesOwn (model X.prog X.w) X.A X.env X.xe) (hc : X.calm = true) (hi : XI X E tg iter fi) (hg : XG X tg g js) (hb : XSs X E body f)
    (hs : ∀ x, foldedSetIterable iter X.env x = pure x := by intro _; rfl) : XS X E (.For tg iter body [] pos) (sForC is fi g f) :=
  let ⟨_, o, r⟩ := hi.ex; let ⟨_, p, s⟩ := hg.ex; let ⟨_, q, t⟩ := hb.ex
  ⟨_, ps_for hp hc o p q hs, fun β S w σ Γ P De hR hG hf hk => r β S w σ Γ _ _ _ hR hG hf (fun ds S1 w1 J h1 R1 l1 _ it => by
    refine ⟨fun i m σ H => m = ds.length - i ∧ i ≤ ds.length ∧ ∃ Γ S w, w.H = H ∧ Rel X.K β S w ∧ EvOk X.K S.length w Γ σ ∧ Later S1.length w1 S.length w ∧ forC g f is S1.length (ds.drop i) Γ S P, ⟨ds.length, rfl, Nat.zero_le _, Γ, S1, w1, rfl, R1, hG.later l1, .refl _ _, h1⟩, ?_⟩
    rintro i m σ _ ⟨rfl, hi, Γ, S, w, rfl, hR, hG, l, h⟩
    have cut : ∀ {z : Prop}, shut S1.length (EvWipe Γ is) (S.take S1.length) = true ∧ z → Rel X.K β (S.take S1.length) w ∧ EvOk X.K (S.take S1.length).length w (EvWipe Γ is) σ ∧ Later S1.length w1 (S.take S1.length).length w ∧ z := fun {z} ⟨hs, hz⟩ => by
      have hs : ((EvWipe Γ is).all (belowO S1.length) && (S.take S1.length).all (belowC S1.length)) = true := hs
      rw [Bool.and_eq_true] at hs
      have hl : (S.take S1.length).length = S1.length := by rw [List.length_take]; exact Nat.min_eq_left l.le
      exact ⟨hR.cut l.le R1.n0 hs.2, by rw [hl]; exact hG.drop is hs.1, by rw [hl]; exact ⟨Nat.le_refl _, l.m, l.F⟩, hz⟩
    cases hd : ds.drop i with
    | nil =>
      rw [hd] at h
      have hle : ds.length ≤ i := by
        have := congrArg List.length hd
        rw [List.length_drop] at this
        have z : ([] : List D).length = 0 := rfl
        omega
      obtain ⟨hR2, hG2, l2, h2⟩ := cut h
      exact .inl ⟨it.stop _ w hR2 l2 i hle, hk.nx _ _ w σ h2 hR2 hG2⟩
    | cons d r =>
      rw [hd] at h
      obtain ⟨hR, hG, l, h⟩ := cut h
      generalize S.take S1.length = S at hR hG l h
      generalize EvWipe Γ is = Γ at hG h
      obtain ⟨hx, hr⟩ := drop_at hd
      obtain ⟨go, y⟩ := it.go S w hR l i d hx
      have hlt := get_lt hx
      have again : ∀ Γ' S' (w' : Wd) σ', (Later S1.length w1 S'.length w' ∧ forC g f is S1.length r Γ' S' P) → Rel X.K β S' w' → EvOk X.K S'.length w' Γ' σ' → ∃ Γ2 S2 w2, w2.H = w'.H ∧ Rel X.K β S2 w2 ∧ EvOk X.K S2.length w2 Γ2 σ' ∧ Later S1.length w1 S2.length w2 ∧ forC g f is S1.length r Γ2 S2 P :=
        fun Γ' S' w' σ' ⟨q1, q2⟩ R' G' => ⟨Γ', S', w', rfl, R', G', q1, q2⟩
      refine .inr ⟨go, fun σ' H' => ∃ Γ2 S2 w2, w2.H = H' ∧ Rel X.K β S2 w2 ∧ EvOk X.K S2.length w2 Γ2 σ' ∧ Later S1.length w1 S2.length w2 ∧ forC g f is S1.length r Γ2 S2 P, fun σ' H' ⟨Γ2, S2, w2, q1, q2, q3, q4, q5⟩ => ⟨ds.length - (i + 1), by omega, rfl, hlt, Γ2, S2, w2, q1, q2, q3, q4, by rw [hr]; exact q5⟩, fun x H' hy => ?_⟩
      obtain ⟨w2, rfl, R2, l2, _, d2⟩ := y x H' hy
      refine s β S w2 σ Γ (.fz d) x _ _ R2 (hG.later l2) d2 h fun Γ3 S3 w3 σ3 h3 R3 l3 G3 _ => ?_
      have back : ∀ {S' : Sto} {w' : Wd}, Rel X.K (reb S3 w3) S' w' → Rel X.K β S' w' ∧ Later S1.length w1 S'.length w' := fun R' => by
        obtain ⟨a1, a2⟩ := R3.unreb R'
        exact ⟨a1, ((l.trans l2).trans l3).trans a2⟩
      exact t (reb S3 w3) S3 w3 σ3 Γ3 _ _ R3.reb G3 h3 ⟨fun Γ' S' w' σ' q R' G' => again Γ' S' w' σ' ⟨(back R').2, q⟩ (back R').1 G', fun b S' w' v q R' d => hk.rt b S' w' v q (back R').1 d,
        fun C fs S' w' d vs q R' z1 z2 => hk.xe C fs S' w' d vs q (back R').1 z1 z2, fun Γ' S' w' σ' q R' G' => hk.nx Γ' S' w' σ' q (back R').1 G', fun Γ' S' w' σ' q R' G' => again Γ' S' w' σ' ⟨(back R').2, q⟩ (back R').1 G'⟩) hk.x⟩
end
/-- a loop, by what each turn keeps -/
theorem forC_inv {g : FG} {f : FS} {is : List Nat} {n : Nat} (I : Ev → Sto → Prop) {ds : List D} {Γ : Ev} {S : Sto} {P : EndsP}
    (hc : ∀ Γ S, I Γ S → shut n (EvWipe Γ is) (S.take n) = true) (h0 : I Γ S)
    (hs : ∀ d ∈ ds, ∀ Γ S, I Γ S → ∀ nx : Ev → Sto → Prop, (∀ Γ S, I Γ S → nx Γ S) → g (.fz d) (EvWipe Γ is) (S.take n) fun Γ1 S1 => f Γ1 S1 { P with nx := nx, ct := nx, bk := P.nx })
    (he : ∀ Γ S, I Γ S → P.nx (EvWipe Γ is) (S.take n)) : forC g f is n ds Γ S P := by
  induction ds generalizing Γ S with
  | nil => exact ⟨hc Γ S h0, he Γ S h0⟩
  | cons d ds ih =>
    exact ⟨hc Γ S h0, hs d List.mem_cons_self Γ S h0 _ fun Γ' S' h => ih h fun d' hd' => hs d' (List.mem_cons_of_mem _ hd')⟩
/-- .. where each turn's end is known by its cut -/
theorem forC_cut {g : FG} {f : FS} {is : List Nat} {n : Nat} {Γ0 : Ev} {S0 : Sto} {ds : List D} {Γ : Ev} {S : Sto} {P : EndsP}
    (hc : shut n Γ0 S0 = true) (h0 : EvWipe Γ is = Γ0 ∧ S.take n = S0)
    (hs : ∀ d ∈ ds, ∀ nx : Ev → Sto → Prop, (∀ Γ S, EvWipe Γ is = Γ0 → S.take n = S0 → nx Γ S) → g (.fz d) Γ0 S0 fun Γ1 S1 => f Γ1 S1 { P with nx := nx, ct := nx, bk := P.nx })
    (he : P.nx Γ0 S0) : forC g f is n ds Γ S P :=
  forC_inv (fun Γ S => EvWipe Γ is = Γ0 ∧ S.take n = S0) (fun _ _ ⟨e1, e2⟩ => by rw [e1, e2]; exact hc) h0
    (fun d hd _ _ ⟨e1, e2⟩ nx hn => by rw [e1, e2]; exact hs d hd nx fun Γ S e1 e2 => hn Γ S ⟨e1, e2⟩) fun _ _ ⟨e1, e2⟩ => by rw [e1, e2]; exact he
end PL
namespace PL
open PySem L2
/-- a call whose list is for good from its return on -/
def gPureZ (W : FW) (dds : List D) : List B → Sto → XP → RB → Prop := fun bs S Rx R => asDs bs fun ds => W ((ds ++ dds).map B.fz) [] (fun C fs _ => Rx C fs S) fun b S1 => match b with
  | .mt j => (match S1[j]? with
    | some (.lst cs) => asDs cs fun es => R (.fz (.lst es)) S
    | _ => False)
  | .fz d => R (.fz d) S
theorem snd_pureZ0 {K : PySem.W.Frag} {W : FW} {dds : List D} {dvs : List V} (hd : Paired (fun d v => ∀ F, Den K F d v) dds dvs) : SndW0 K W dvs (gPureZ W dds) := fun β S w bs vs R Q E hR hb hg hk => by
  obtain ⟨ds, h, dl⟩ := asDs_den hg hb
  refine ⟨_, [], w, _, _, rfl, hR.drop, (DenL.app dl (DenL.den hd)).bz, h, fun b S' w' v q R' l' d => ?_⟩
  cases b with
  | fz x =>
    obtain ⟨R2, l2, fr⟩ := hR.undrop R'
    exact hk _ S ⟨w.m, w'.F, w'.H⟩ v q R2 l2 d
  | mt j =>
    obtain ⟨R2, l2, fr⟩ := hR.undrop R'
    obtain ⟨_, rfl⟩ := (show j < S'.length ∧ v = .ref (w'.m j) from d)
    obtain ⟨cs, e1, h1⟩ := cell_lst (f := fun cs => asDs cs fun es => R (.fz (.lst es)) S) q
    obtain ⟨us, h3, h4⟩ := R'.cellL e1
    obtain ⟨es, rfl, h2⟩ := asDs_eq h1
    have L := R'.live j _ e1 (by intro z; cases z)
    have wn := fr j _ e1 (by intro z; cases z)
    obtain ⟨R3, l3⟩ := R2.adoptF (D := w'.m j) (o := .lst us) h3 L.nf (hR.keep.free wn) fun k c h1 h2 e => by
      obtain ⟨o, ho⟩ := (hR.live k c h1 h2).ok.some h2
      have e : w.m k = w'.m j := e
      rw [e, wn] at ho
      cases ho
    exact hk _ S ⟨w.m, upd w'.F (w'.m j) (.lst us), w'.H⟩ (.ref (w'.m j)) h2 R3 (l2.trans l3) (Den.lst upd_same (DenL.mono l3.F h4.fz))
end PL
/-! pure lemmas for laws' own goals (own work) -/
namespace PL
open PySem L2
theorem atI_nat {α : Type} {xs : List α} {d : Int} (h0 : 0 ≤ d) : atI xs d = xs[d.toNat]? := by
  unfold atI ixN
  rw [if_pos h0]
  by_cases h : d < xs.length
  · rw [if_pos h]; rfl
  · rw [if_neg h, List.getElem?_eq_none (by omega)]; rfl
theorem atI_in {α : Type} {xs : List α} {d : Int} (h0 : 0 ≤ d) (h1 : d < xs.length) : ∃ x ∈ xs, atI xs d = some x := by
  rw [atI_nat h0]
  have hl : d.toNat < xs.length := by omega
  exact ⟨xs[d.toNat], List.getElem_mem hl, List.getElem?_eq_getElem hl⟩
theorem optK_in {α : Type} {xs : List α} {d : Int} {k : α → Prop} (h0 : 0 ≤ d) (h1 : d < xs.length) (hk : ∀ x ∈ xs, k x) : optK (atI xs d) k := by
  obtain ⟨x, hx, e⟩ := atI_in h0 h1
  rw [e]
  exact hk x hx
theorem optK_at {α : Type} {xs : List α} {d : Int} {k : α → Prop} {x : α} (e : atI xs d = some x) (hk : k x) : optK (atI xs d) k := by
  rw [e]; exact hk
theorem cutA_to {α : Type} (xs : List α) {k : Int} (h0 : 0 ≤ k) : cutA xs none (some k) = xs.take k.toNat := by
  unfold cutA
  obtain ⟨n, rfl⟩ := Int.eq_ofNat_of_zero_le h0
  rw [HT.sIx_none, HT.sIx_nat, List.drop_zero, Nat.sub_zero, Int.toNat_natCast]
  by_cases h : n ≤ xs.length
  · rw [Nat.min_eq_left h]
  · rw [Nat.min_eq_right (by omega), List.take_of_length_le (by omega), List.take_of_length_le (by omega)]
theorem cutA_from {α : Type} (xs : List α) {k : Int} (h0 : 0 ≤ k) : cutA xs (some k) none = xs.drop k.toNat := by
  unfold cutA
  obtain ⟨n, rfl⟩ := Int.eq_ofNat_of_zero_le h0
  rw [HT.sIx_none, HT.sIx_nat, Int.toNat_natCast]
  by_cases h : n ≤ xs.length
  · rw [Nat.min_eq_left h, List.take_of_length_le (by rw [List.length_drop]; omega)]
  · rw [Nat.min_eq_right (by omega), List.drop_of_length_le (by omega), List.drop_of_length_le (by omega), List.take_nil]
theorem cutS_le (z : Str) (lo hi : Option Int) : (cutS z lo hi).length ≤ z.length := cutS_length z lo hi
/-- the two ways of a slice together are no longer than the whole -/
theorem cutS_two (z : Str) {k : Int} (h0 : 0 ≤ k) : (cutS z none (some k)).length + (cutS z (some k) none).length ≤ z.length := by
  obtain ⟨n, rfl⟩ := Int.eq_ofNat_of_zero_le h0
  have e0 : z.cps.toList.length = z.length := Array.length_toList
  have e1 : (cutS z none (some (n : Int))).length = (z.cps.toList.take (min n z.length)).length := by
    show ((z.cps.toList.drop (HT.sIx z.length 0 none)).take (HT.sIx z.length z.length (some (n : Int)) - HT.sIx z.length 0 none)).toArray.size = _
    rw [HT.sIx_none, HT.sIx_nat, List.drop_zero, Nat.sub_zero, List.size_toArray]
  have e2 : (cutS z (some (n : Int)) none).length ≤ (z.cps.toList.drop (min n z.length)).length := by
    show ((z.cps.toList.drop (HT.sIx z.length 0 (some (n : Int)))).take (HT.sIx z.length z.length none - HT.sIx z.length 0 (some (n : Int)))).toArray.size ≤ _
    rw [HT.sIx_nat, List.size_toArray, List.length_take]
    exact Nat.min_le_right _ _
  rw [List.length_take, e0] at e1
  rw [List.length_drop, e0] at e2
  omega
/-- a comprehension, by what each turn keeps -/
theorem lcW_inv {g : FG} {ft : FT} {fe : FE} {Γ0 : Ev} {S : Sto} {R : List B → Sto → Prop} (I : Nat → List B → Prop) {ds : List D} {n : Nat} {acc : List B} (h0 : I n acc)
    (hs : ∀ d ∈ ds, ∀ i acc, I i acc → ∀ nx : List B → Sto → Prop, (∀ acc', I (i + 1) acc' → nx acc' S) → g (.fz d) Γ0 S fun Γ1 S1 => ft Γ1 S1 noX fun k S2 => cnd k (fe Γ1 S2 noX fun b S3 => nx (acc ++ [b]) S3) (nx acc S2))
    (hR : ∀ acc, I (n + ds.length) acc → R acc S) : lcW g ft fe Γ0 ds acc S R := by
  induction ds generalizing n acc with
  | nil => exact hR acc h0
  | cons d ds ih =>
    refine hs d List.mem_cons_self n acc h0 (fun acc' S' => lcW g ft fe Γ0 ds acc' S' R) fun acc' h => ih h (fun d' hd' => hs d' (List.mem_cons_of_mem _ hd')) fun a ha => hR a ?_
    have e : n + (d :: ds).length = n + 1 + ds.length := by rw [List.length_cons]; omega
    rw [e]; exact ha
/-- .. each turn's value known -/
theorem lcW_vals {g : FG} {ft : FT} {fe : FE} {Γ0 : Ev} {S : Sto} {R : List B → Sto → Prop} (C : B → Prop) {ds : List D}
    (hs : ∀ d ∈ ds, ∀ (acc : List B) (nx : List B → Sto → Prop), (∀ b, C b → nx (acc ++ [b]) S) → g (.fz d) Γ0 S fun Γ1 S1 => ft Γ1 S1 noX fun k S2 => cnd k (fe Γ1 S2 noX fun b S3 => nx (acc ++ [b]) S3) (nx acc S2))
    (hR : ∀ bs : List B, bs.length = ds.length → (∀ b ∈ bs, C b) → R bs S) : lcW g ft fe Γ0 ds [] S R :=
  lcW_inv (fun i acc => acc.length = i ∧ ∀ b ∈ acc, C b) ⟨rfl, fun _ h => by cases h⟩
    (fun d hd i acc ⟨e, h⟩ nx hn => hs d hd acc nx fun b hb => hn _ ⟨by rw [List.length_append]; exact congrArg (· + 1) e, fun c hc => by
      rcases List.mem_append.mp hc with q | q
      · exact h c q
      · cases List.mem_singleton.mp q; exact hb⟩)
    fun acc ⟨e, h⟩ => hR acc (e.trans (Nat.zero_add _)) h
/-- a list of B of texts -/
theorem strs_of {C : Str → Prop} : ∀ {bs : List B}, (∀ b ∈ bs, ∃ z, b = .fz (.str z) ∧ C z) → ∃ zs : List Str, bs = zs.map (fun z => .fz (.str z)) ∧ ∀ z ∈ zs, C z
  | [], _ => ⟨[], rfl, fun _ h => by cases h⟩
  | b :: bs, h => by
    obtain ⟨z, rfl, hz⟩ := h b List.mem_cons_self
    obtain ⟨zs, rfl, hzs⟩ := strs_of (bs := bs) fun c hc => h c (List.mem_cons_of_mem _ hc)
    refine ⟨z :: zs, rfl, fun y hy => ?_⟩
    rcases List.mem_cons.mp hy with rfl | hy
    · exact hz
    · exact hzs y hy
theorem asDs_strs {zs : List Str} {k : List D → Prop} (h : k (zs.map .str)) : asDs (zs.map fun z => .fz (.str z)) k := by
  have := asDs_map (ds := zs.map D.str) (k := k) h
  rw [List.map_map] at this
  exact this
theorem asDs_intro {ds : List D} {bs : List B} {k : List D → Prop} (e : bs = ds.map .fz) (h : k ds) : asDs bs k := by
  subst e; exact asDs_map h
theorem asStrs_m {zs : List Str} {k : List Str → Prop} (h : k zs) : asStrs (zs.map .str) k := asStrs_map h
theorem sum_le {α : Type} (f : α → Nat) (m : Nat) : ∀ xs : List α, (∀ x ∈ xs, f x ≤ m) → (xs.map f).sum ≤ xs.length * m
  | [], _ => Nat.zero_le _
  | x :: xs, h => by
    have h1 := h x List.mem_cons_self
    have h2 := sum_le f m xs fun y hy => h y (List.mem_cons_of_mem _ hy)
    rw [List.map_cons, List.sum_cons, List.length_cons, Nat.add_mul, Nat.one_mul]
    omega
end PL
namespace PL
open PySem L2
theorem pyL_strs : ∀ zs : List Str, pyL (zs.map .str) = some (zs.map .str)
  | [] => rfl
  | z :: zs => by
    show (match (D.str z).py, pyL (zs.map .str) with
      | some d, some ds => some (d :: ds)
      | _, _ => none) = _
    rw [pyL_strs zs]
    rfl
/-- a text of true code points -/
def okS (z : Str) : Prop := PyData.strOk z = true
instance (z : Str) : Decidable (okS z) := inferInstanceAs (Decidable (PyData.strOk z = true))
theorem okS_iff {z : Str} : okS z ↔ ∀ c ∈ z.cps.toList, c < 0x110000 := by
  unfold okS PyData.strOk
  rw [← Array.all_toList, List.all_eq_true]
  exact ⟨fun h c hc => of_decide_eq_true (h c hc), fun h c hc => decide_eq_true (h c hc)⟩
theorem okS_app {a b : Str} (ha : okS a) (hb : okS b) : okS (a ++ b) := by
  rw [okS_iff] at ha hb ⊢
  rw [Str.cps_append, Array.toList_append]
  intro c hc
  rcases List.mem_append.mp hc with h | h
  · exact ha c h
  · exact hb c h
theorem okS_cut {a : Str} (ha : okS a) (lo hi : Option Int) : okS (cutS a lo hi) := by
  rw [okS_iff] at ha ⊢
  intro c hc
  have hc : c ∈ (a.cps.toList.drop (HT.sIx a.length 0 lo)).take (HT.sIx a.length a.length hi - HT.sIx a.length 0 lo) := hc
  exact ha c (List.mem_of_mem_drop (List.mem_of_mem_take hc))
theorem okS_one {a : Str} (ha : okS a) {c : Nat} (hc : c ∈ a.cps.toList) : okS ⟨#[c]⟩ := by
  rw [okS_iff] at ha ⊢
  intro d hd
  have hd : d ∈ [c] := hd
  rw [List.mem_singleton] at hd
  rw [hd]
  exact ha c hc
theorem okS_join {sep : Str} (hs : okS sep) : ∀ {zs : List Str}, (∀ z ∈ zs, okS z) → okS (Txt.join sep zs) := by
  have go : ∀ zs : List Str, (∀ z ∈ zs, okS z) → okS (Str.join sep zs) := by
    intro zs
    induction zs with
    | nil => intro _; exact (by decide +kernel : okS Str.empty)
    | cons x xs ih =>
      intro h
      have hx := h x List.mem_cons_self
      have hxs := ih fun y hy => h y (List.mem_cons_of_mem _ hy)
      cases xs with
      | nil => exact hx
      | cons y ys => exact okS_app (okS_app hx hs) hxs
  intro zs h
  show okS (Builtin.Str.glued sep zs)
  rw [StrLaws.glued_eq_join]
  exact go zs h
theorem lay_strs : ∀ zs : List Str, (∀ z ∈ zs, okS z) → PyData.canLayAll0 (zs.map .str) = true
  | [], _ => by simp [PyData.canLayAll0]
  | z :: zs, h => by
    have h1 : PyData.strOk z = true := h z List.mem_cons_self
    have ih := lay_strs zs fun y hy => h y (List.mem_cons_of_mem _ hy)
    simp only [List.map_cons, PyData.canLayAll0, ih, Bool.and_true, PyData.canLay0, h1]
/-- a join's length -/
theorem join_len (sep : Str) : ∀ zs : List Str, (Txt.join sep zs).length ≤ (zs.map fun z => z.length).sum + zs.length * sep.length := by
  have go : ∀ zs : List Str, (Str.join sep zs).length ≤ (zs.map fun z => z.length).sum + zs.length * sep.length := by
    intro zs
    induction zs with
    | nil => exact Nat.zero_le _
    | cons x xs ih =>
      cases xs with
      | nil => simp [Str.join]
      | cons y ys =>
        show (x ++ sep ++ Str.join sep (y :: ys)).length ≤ _
        rw [Str.length_append, Str.length_append, List.map_cons, List.sum_cons, List.length_cons, Nat.add_mul, Nat.one_mul]
        omega
  intro zs
  show (Builtin.Str.glued sep zs).length ≤ _
  rw [StrLaws.glued_eq_join]
  exact go zs
theorem depth_strs : ∀ zs : List Str, PyData.depthAll (zs.map .str) ≤ 1
  | [] => by simp [PyData.depthAll]
  | z :: zs => by
    have ih := depth_strs zs
    simp only [List.map_cons, PyData.depthAll, PyData.depth]
    omega
theorem shaped_strs {zs : List Str} (h : ∀ z ∈ zs, okS z) : SeqAt.shaped (.list (zs.map .str)) = true := by
  show ((PyData.list (zs.map .str)).canLay0 && decide ((PyData.list (zs.map .str)).depth ≤ 64)) = true
  have h1 : (PyData.list (zs.map .str)).canLay0 = true := by
    rw [show (PyData.list (zs.map .str)).canLay0 = PyData.canLayAll0 (zs.map .str) by simp only [PyData.canLay0]]
    exact lay_strs zs h
  have h2 := depth_strs zs
  have h3 : (PyData.list (zs.map .str)).depth ≤ 64 := by
    simp only [PyData.depth]
    omega
  rw [h1, decide_eq_true h3]
  rfl
/-- a list of texts beside the empty one -/
theorem ne_nil_strs {ys : List Str} {k : D → Prop} (h : ∀ y ∈ ys, okS y) (hk : k (.bl (!ys.isEmpty))) : dEq true (.lst (ys.map .str)) (.lst []) k := by
  show match (D.lst (ys.map .str)).py, (D.lst []).py with
    | some d, some e => (SeqAt.shaped d = true ∧ SeqAt.shaped e = true) ∧ k (.bl (true != PyData.eqv d e))
    | _, _ => False
  have e1 : (D.lst (ys.map .str)).py = some (.list (ys.map .str)) := by
    show (pyL (ys.map .str)).map PyData.list = _
    rw [pyL_strs]
    rfl
  have e2 : (D.lst []).py = some (.list []) := rfl
  rw [e1, e2]
  refine ⟨⟨shaped_strs h, shaped_strs (zs := []) fun _ h => by cases h⟩, ?_⟩
  cases ys with
  | nil => simpa [PyData.eqv, PyData.eqvAll] using hk
  | cons y ys => simpa [PyData.eqv, PyData.eqvAll] using hk
end PL
namespace PL
open PySem L2
theorem vals_perm (is : List Nat) {zs : List V} {ws : List Value} (h : Vals zs ws) : Vals (permA is zs) (permA is ws) := by
  have go : ∀ (i : Nat) {zs : List V} {ws : List Value}, Vals zs ws → (zs[i]? = none ∧ ws[i]? = none) ∨ ∃ v u, zs[i]? = some v ∧ ws[i]? = some u ∧ RelV v u := by
    intro i
    induction i with
    | zero =>
      intro zs ws h
      cases h with
      | nil => exact .inl ⟨rfl, rfl⟩
      | cons a t => exact .inr ⟨_, _, rfl, rfl, a⟩
    | succ i ih =>
      intro zs ws h
      cases h with
      | nil => exact .inl ⟨rfl, rfl⟩
      | cons a t => exact ih t
  induction is with
  | nil => exact .nil
  | cons i is ih =>
    unfold permA at ih ⊢
    rcases go i h with ⟨e1, e2⟩ | ⟨v, u, e1, e2, r⟩
    · rw [List.filterMap_cons, List.filterMap_cons, e1, e2]; exact ih
    · rw [List.filterMap_cons, List.filterMap_cons, e1, e2]; exact .cons r ih
end PL
/-! super().__init__(..) as a method's first statement (own work) -/
namespace PL
open PySem L2 PySem.W NdefX ClX
/-- a method that holds its class in a cell -/
structure FunS (P : Program) (K : PySem.W.Frag) (x qual : Str) (st : Stmt) (cc cda D f : Addr) (fd : FuncData) : Prop where
  ex : ∃ (oc : Value) (od : Option Addr) (kV doc pm : Value) (an : Option Addr) (ct : Value) (osl : Array (Option Value)),
    fd = fnX x qual (defArgs st) (defBody st) (defScope st) [("__class__", cc)] .none kV doc pm an (.ref cda) ct ∧ K.lookup f = some ⟨oc, od, .func fd, osl⟩
  cd : PySem.W.codeIn K (.ref cda) qual = true
  rec_ : ∃ (ccl : Value) (cdd : Option Addr) (vs : Array Value) (ccs : Array (Option Value)) (file : Str) (tf : Tok), K.lookup cda = some ⟨ccl, cdd, .fields vs, ccs⟩ ∧ vs[2]? = some (.str file tf) ∧ ((P.main.file : Str) == file) = true
  cell : ∃ (cl : Value) (cld : Option Addr) (csl : Array (Option Value)), K.lookup cc = some ⟨cl, cld, .cell (some (.ref D)), csl⟩
  cls : PySem.W.isClsIn K D = true
  top : (P.main.scope.names.lookup ("super" : Str)).isSome = false
  sup : nsIn K mainGlobals "super" = some none
  opq : nsIn K cStatics "thirdparty.any" = some none
/-- what super() finds for an object of the class at C -/
structure SupAt (K : PySem.W.Frag) (C D f2 : Addr) : Prop where
  sub : mroIn K C (.ref D) = some true
  at_ : ks_superIn K C D "__init__" = some (some (.ref f2))
  ty : typeIn K (.ref f2) = some (.type "function")
  fi : fnIn K f2 = true
abbrev nfS (x qual : Str) (st : Stmt) (cc cda : Addr) : NF := ⟨x, qual, defArgs st, defBody st, defScope st, [("__class__", cc)], cda⟩
section
variable {P : Program} {w : World} {K : PySem.W.Frag} {mg : Str → Option Value} {base : Heap}
theorem fn_super {x qual : Str} {st : Stmt} {cc cda D f f2 : Addr} {fd : FuncData} {N ps : List Str} {k j : Nat} {sp sp2 : Sp} {p0 p1 apos cpos epos : Pos} {e : Expr} {es : List Expr} {rest : List Stmt} {ar : Arg} {pr : List Str}
    (F : FunS P K x qual st cc cda D f fd) (S : NScope N ps ["__class__"] (defScope st)) (hbd : defBody st = .Expr (.Call (.Attribute (.Call (.Name "super" p0) [] [] p1) "__init__" apos) (e :: es) [] cpos) epos :: rest)
    (hpar : ((defArgs st).posonlyargs ++ (defArgs st).args).head? = some ar) (har : ps = ar.arg :: pr) (hsc : (defScope st).names.lookup ("super" : Str) = some .globalImplicit)
    (hint : ∀ L : Addr, interactive (envF (nfS x qual st cc cda) f L) = false)
    (hsw : ∀ L : Addr, swapsWith (.Call (.Attribute (.Call (.Name "super" p0) [] [] p1) "__init__" apos) (e :: es) [] cpos) none epos.line (envF (nfS x qual st cc cda) f L) = pure false)
    (hev : ∀ L : Addr, ∃ pl : Sem Bool, eval (.Call (.Attribute (.Call (.Name "super" p0) [] [] p1) "__init__" apos) (e :: es) [] cpos) (envF (nfS x qual st cc cda) f L) = (do
      let ov ← attributeBase (.Call (.Name "super" p0) [] [] p1) "__init__" (envF (nfS x qual st cc cda) f L) (eval (.Call (.Name "super" p0) [] [] p1) (envF (nfS x qual st cc cda) f L))
      standAt apos.atName
      let (fv, first) ← holding [ov] (getMethod ov "__init__" pl)
      callWith cpos fv first (backTo cpos (starEach (e :: es) (envF (nfS x qual st cc cda) f L))) []))
    (hst : ∀ L : Addr, starEach (e :: es) (envF (nfS x qual st cc cda) f L) = (false, eval e (envF (nfS x qual st cc cda) f L)) :: starEach es (envF (nfS x qual st cc cda) f L))
    (hpl : ∀ L : Addr, (backTo cpos (starEach es (envF (nfS x qual st cc cda) f L))).any (·.1) = false)
    (F2 : FnR P w K mg base CX0 j f2 sp2) (hj : j ≤ k)
    (len : ∀ vs H Q E, sp vs H Q E → vs.length = ps.length)
    (hbody : ∀ (A : Around) (outer : List Env) (s : Shared) (H : Hp) (vs : List V) (Q : VK) (E : XK), Room k (A.deeper (envF (nfS x qual st cc cda) f s.heap.objs.size)) → sp vs H Q E →
      ∃ (ta : TA) (t : TS) (a C dx : Addr) (fs : List (Str × V)) (vr : List V), vs = .ref a :: vr ∧ H a = some (.ins C dx fs) ∧ SupAt K C D f2 ∧
        PA (ncx CX0 P w K mg base N (nfS x qual st cc cda) f A outer s H E).nox (e :: es) ta ∧ PSs (ncx CX0 P w K mg base N (nfS x qual st cc cda) f A outer s H E).nox rest t ∧
        ta (startF N vs [some (.ref D)]) H fun us H1 => sp2 (.ref a :: us) H1 (fun _ H2 => t { nx := fun _ H' => Q .non H', rt := Q } (startF N vs [some (.ref D)]) H2) E0) :
    FnOk P w K mg base CX0 (k + 1) f fd ps sp := by
  obtain ⟨oc, od, kV, doc, pm, an, ct, osl, rfl, lk⟩ := F.ex
  obtain ⟨ccl, cdd, cvs, ccs, file, tf, hcode, hvs, hfile⟩ := F.rec_
  obtain ⟨cl, cld, csl, hcell⟩ := F.cell
  refine ⟨len, fun A outer s H args us vs Q E hr e0 hb r hsp => ?_⟩
  have hl := len _ _ _ _ hsp
  have KX : K.In s.heap := e0.mod.kin.keeps fun b o e => (e0.bs b o e).1
  have lim : s.heap.NoLimit := e0.mod.nolimit.keeps fun b o e => (e0.bs b o e).1
  have hb' := hb
  refine codeAny_call_function hr.depth (KX _ _ lk) rfl S.co S.gen rfl (PySem.W.codeRec_of KX F.cd) (hb _ _ _ _ ?_)
  refine wpAny_newFunctionEnv S.nocell (fun ⟨n, _⟩ hy => S.par n (List.of_mem_zip hy).1) (fun h₁ hns hsb => ⟨lim.fresh _ hsb, ?_⟩) S.kind
  have kp : ∀ b o, s.heap.get? b = some o → h₁.get? b = some o := fun b o e => hsb.extBut b o (Nat.ne_of_lt (Heap.lt_size e)) (Heap.get?_push_of_some _ e)
  have cellHere : s.heap.IsCell cc (some (.ref D)) := ⟨_, KX _ _ hcell, rfl⟩
  have ccbase : base.get? cc = some ⟨cl, cld, .cell (some (.ref D)), csl⟩ := e0.mod.kin _ _ hcell
  have C : CellsAt (nfS x qual st cc cda).cl ["__class__"] [some (.ref D)] s.heap H := by
    refine ⟨rfl, fun y c h => ?_, fun y z c h1 h2 => ?_, fun i y h => ?_⟩
    · have hc : c = cc := by
        have h : List.lookup y [(("__class__" : Str), cc)] = some c := h
        unfold List.lookup at h
        split at h
        · exact (Option.some.inj h).symm
        · cases h
      subst hc
      exact ⟨(e0.bs _ _ ccbase).2, _, cellHere⟩
    · have g : ∀ {y : Str}, List.lookup y [(("__class__" : Str), cc)] = some c → y = "__class__" := fun {y} h => by
        unfold List.lookup at h
        split at h
        · rename_i q
          exact eq_of_beq q
        · cases h
      exact (g h1).trans (g h2).symm
    · cases i with
      | zero =>
        cases h
        exact ⟨cc, rfl, fun v hv => ⟨.ref D, by cases hv; rfl, cellHere⟩⟩
      | succ i => cases i <;> cases h
  have I : Inv (ncx CX0 P w K mg base N (nfS x qual st cc cda) f A outer s H E) [] (startF N vs [some (.ref D)]) H { s with heap := h₁, toks := s.toks + (ps.zip us).length } := inv_startN S hr.hd e0 hl r C hns kp
  have hmg : mg "super" = none := PySem.W.mg_none_of e0.mod.kin e0.mod.glob F.sup
  obtain ⟨ta, t, a, Co, dx, fs, vr, rfl, ha, hC, hPA, hPSs, hta⟩ := hbody A outer s H _ Q E (hr.deeper _) hsp
  have J : Inv (ncx CX0 P w K mg base N (nfS x qual st cc cda) f A outer s H E).nox [] (startF N (.ref a :: vr) [some (.ref D)]) H { s with heap := h₁, toks := s.toks + (ps.zip us).length } := I.wish _
  have ok := J.ok
  show codeAny _ _ (.func (defBody st) (ncx CX0 P w K mg base N (nfS x qual st cc cda) f A outer s H E).nox.env) _ _
  refine ks_codeAny_funcAt ?_
  refine ks_wpAt_mono (Q := SP (ncx CX0 P w K mg base N (nfS x qual st cc cda) f A outer s H E).nox [] { nx := fun _ H' => Q .non H', rt := Q }) (E := fun _ _ => False) ?_ (fun fl s' hs => ?_) (fun _ _ z => z.elim)
  · rw [hbd]
    have KX1 : K.In h₁ := fun b o e => kp _ _ (KX b o e)
    have glob1 : h₁.Ns mainGlobals mg := e0.mod.glob.keeps fun b o e => kp _ _ ((e0.bs b o e).1)
    obtain ⟨mb, hb1, hb2⟩ := e0.mod.blt
    have hmb : h₁.Ns builtinsNs mb := hb1.keeps fun b o e => kp _ _ ((e0.bs b o e).1)
    obtain ⟨oD, hD1, cdD, hD2⟩ : ∃ oD, h₁.get? D = some oD ∧ ∃ cd, oD.data = .cls cd := by
      have q := F.cls
      unfold PySem.W.isClsIn PySem.W.clsIn at q
      split at q
      · rename_i c d cd' sl ho
        exact ⟨_, KX1 _ _ ho, _, rfl⟩
      · cases q
    obtain ⟨pl, hev⟩ := hev s.heap.objs.size
    refine ks_wpAt_execs_cons (ks_wpAt_Expr_any (ks_wpAt_MethodCall (pl := pl) (ks_wpAt_super_base (f := f) (cc := cda) (ar := ar) hsc (S.frk _ List.mem_cons_self) rfl rfl (KX1 _ _ lk) rfl hpar rfl (KX1 _ _ hcode) rfl hvs hfile F.top ?_) hev) (hint _) (hsw _))
    refine ks_loadName_global S.kind hsc (Calls.loadGlobal_builtin glob1 hmg hmb ((hb2 _ (by decide)).trans (by decide +kernel)) ⟨rfl, ?_⟩)
    refine wpAny_loadName_free S.kind (S.frk _ List.mem_cons_self) rfl ⟨_, KX1 _ _ hcell, rfl⟩ ?_
    have hself : (ps.zip us).reverse.lookup ar.arg = some (.ref a) := by
      subst har
      cases r with
      | cons r0 rt =>
        obtain rfl := (show _ = Value.ref a from r0)
        exact zip_look (i := 0) (by
          have q := S.nd.sublist (List.take_sublist ((ar.arg :: pr).length + [Str.ofString "__class__"].length) N)
          rw [S.pre] at q
          exact (List.nodup_append.mp q).1) rfl rfl
    refine wpAny_loadName_local S.kind (S.par _ (har ▸ List.mem_cons_self)) hns hself ?_
    refine ks_wpAny_isType_cls hD1 hD2 ⟨rfl, ?_⟩
    obtain ⟨mA, O, _⟩ := ins_get J.hok ha
    obtain ⟨od2, IA, _⟩ := O.look
    refine ks_wpAny_call_super hD1 hD2 IA.at_ IA.cls (fun c q => ?_) (PySem.W.looks_mroIn KX1 hC.sub) (fun h2 hso k2 => ?_)
    · have z := IA.no
      unfold PySem.W.notCls at z
      rw [q] at z
      exact Bool.noConfusion z
    have KX2 : K.In h2 := fun b o q => k2 _ _ (KX1 b o q)
    obtain ⟨cdC, hcC, hal⟩ := Option.bind_eq_some_iff.mp hC.at_
    obtain ⟨of, hof, hofc⟩ : ∃ of, h2.get? f2 = some of ∧ of.cls = .type "function" := by
      have ht' : (K.lookup f2).map (·.cls) = some (.type "function") := hC.ty
      cases z : K.lookup f2 with
      | none => rw [z] at ht'; cases ht'
      | some of => rw [z] at ht'; exact ⟨of, KX2 _ _ z, Option.some.inj ht'⟩
    have J2 : Inv (ncx CX0 P w K mg base N (nfS x qual st cc cda) f A outer s H E).nox [] (startF N (.ref a :: vr) [some (.ref D)]) H { s with heap := h2, toks := s.toks + (ps.zip us).length } := J.kept (t' := s.toks + (ps.zip us).length) k2
    refine ks_wpAny_getMethod_super (l₀ := cdC.mro) hso (PySem.W.looks_opaque KX2 F.opq) (fun A Q E s k q => wpAny_bind ((PySem.W.looks_clsIn KX2 hcC) A _ E s k (wpAny_pure q))) rfl KX2 hal hof hofc (ks_ne KX1 IA hcC) (by decide) ?_
    have J3 := met_new (g := f2) (C := a) J2
    refine callwith_cm J3 (base_none J2 (Nat.le_refl _)) hC.fi (thn (hPA.run cpos _ _ _ H _ J3 hta) fun us2 s3 ⟨vs2, H2, J4, rv, q2⟩ => ⟨⟨pin_at J4, J4.kIn⟩, ?_⟩) (hst _) (hpl _)
    refine thn (run_cm F2 ((hr.deeper _).mono hj) (fun _ _ _ _ e _ _ z => (show False from z).elim) J4 rv q2) fun v s4 ⟨v2, H3, J5, rv2, q3⟩ => ?_
    exact wpAt_of_wpAny (hPSs.run [] _ _ H3 _ J5 q3)
  · have fin : ∀ {σ' : L2.St} {H' : Hp} {v : V} {u : Value}, Inv (ncx CX0 P w K mg base N (nfS x qual st cc cda) f A outer s H E).nox [] σ' H' s' → L2.RelV v u → Q v H' → CE outer P w H s Q u s' :=
      fun {σ' H' v u} J rv q => ⟨v, H', J.os, J.bare, J.base, J.hok, rv, q⟩
    cases fl with
    | ret u =>
      obtain ⟨v, σ', H', J, rv, q⟩ := hs
      exact fin J rv q
    | next =>
      obtain ⟨σ', H', J, q⟩ := hs
      exact fin (v := V.non) (u := Value.none) J rfl q
    | brk =>
      obtain ⟨_, _, _, q⟩ := hs
      exact False.elim q
    | cont =>
      obtain ⟨_, _, _, q⟩ := hs
      exact False.elim q
end
end PL
namespace PL
open PySem L2 PySem.W NdefX ClX
/-- what such a method does: the arguments, the base's method at the same object, the rest -/
def supW (n m : Nat) (dn : Str) (cs : List Str) (W2 : FW) (fa : FA) (fb : FS) : FW := fun bs S _ R => match bs with
  | .mt j :: br => (match S[j]? with
    | some (.ins c _) => c ∈ cs ∧ (.mt j :: br : List B).length = n ∧ fa ((.mt j :: br).map some ++ (some (.fz (.cls dn)) :: List.replicate m none)) S noX fun us S1 => W2 (.mt j :: us) S1 noX fun _ S2 => fb ((.mt j :: br).map some ++ (some (.fz (.cls dn)) :: List.replicate m none)) S2 { nx := fun _ S' => R (.fz .non) S', rt := R, xe := noX }
    | _ => False)
  | _ => False
theorem startF_ok {K : PySem.W.Frag} {n : Nat} {w : Wd} {bs : List B} {vs : List V} {N : List Str} {m : Nat} {dn : Str} {D : Addr} (hD : clsAt K dn = D) (h : DenBL K n w bs vs) (hN : N.length = bs.length + (1 + m)) :
    EvOk K n w (bs.map some ++ (some (.fz (.cls dn)) :: List.replicate m none)) (startF N vs [some (.ref D)]) := by
  have hlen := h.length
  unfold startF
  refine ⟨?_, fun i b e => ?_⟩
  · rw [List.length_append, List.length_append, List.length_append, List.length_map, List.length_map, List.length_cons, List.length_replicate, List.length_replicate]
    simp only [List.length_cons, List.length_nil]
    omega
  · by_cases hi : i < bs.length
    · rw [List.getElem?_append_left (by rw [List.length_map]; exact hi), List.getElem?_map] at e
      cases hb : bs[i]? with
      | none => rw [hb] at e; cases e
      | some b' =>
        rw [hb] at e
        cases e
        obtain ⟨v, h1, h2⟩ := h.get hb
        refine ⟨v, ?_, h2⟩
        rw [List.getElem?_append_left (by rw [List.length_map, ← hlen]; exact hi), List.getElem?_map, h1]
        rfl
    · rw [List.getElem?_append_right (by rw [List.length_map]; omega), List.length_map] at e
      cases hj : i - bs.length with
      | zero =>
        rw [hj] at e
        cases e
        refine ⟨.ref D, ?_, ?_⟩
        · rw [List.getElem?_append_right (by rw [List.length_map]; omega), List.length_map, ← hlen, hj]
          rfl
        · subst hD
          exact Den.cls dn
      | succ j =>
        rw [hj, List.getElem?_cons_succ, List.getElem?_replicate] at e
        split at e <;> cases e
section
variable {P : Program} {w : World} {K : PySem.W.Frag} {mg : Str → Option Value} {base : Heap}
theorem okSup {x qual : Str} {st : Stmt} {cc cda D f f2 : Addr} {fd : FuncData} {N ps : List Str} {k j n m : Nat} {p0 p1 apos cpos epos : Pos} {e : Expr} {es : List Expr} {rest : List Stmt} {ar : Arg} {pr : List Str} {dn : Str} {cs : List Str} {W2 : FW} {fa : FA} {fb : FS}
    (F : FunS P K x qual st cc cda D f fd) (S : NScope N ps ["__class__"] (defScope st)) (hD : clsAt K dn = D) (hcs : ∀ c ∈ cs, SupAt K (clsAt K c) D f2) (F2 : FnR P w K mg base CX0 j f2 (spP K W2)) (hj : j ≤ k)
    (hn : ps.length = n) (hm : N.length = n + (1 + m))
    (hbd : defBody st = .Expr (.Call (.Attribute (.Call (.Name "super" p0) [] [] p1) "__init__" apos) (e :: es) [] cpos) epos :: rest)
    (hpar : ((defArgs st).posonlyargs ++ (defArgs st).args).head? = some ar) (har : ps = ar.arg :: pr) (hsc : (defScope st).names.lookup ("super" : Str) = some .globalImplicit)
    (hint : ∀ L : Addr, interactive (envF (nfS x qual st cc cda) f L) = false)
    (hsw : ∀ L : Addr, swapsWith (.Call (.Attribute (.Call (.Name "super" p0) [] [] p1) "__init__" apos) (e :: es) [] cpos) none epos.line (envF (nfS x qual st cc cda) f L) = pure false)
    (hev : ∀ L : Addr, ∃ pl : Sem Bool, eval (.Call (.Attribute (.Call (.Name "super" p0) [] [] p1) "__init__" apos) (e :: es) [] cpos) (envF (nfS x qual st cc cda) f L) = (do
      let ov ← attributeBase (.Call (.Name "super" p0) [] [] p1) "__init__" (envF (nfS x qual st cc cda) f L) (eval (.Call (.Name "super" p0) [] [] p1) (envF (nfS x qual st cc cda) f L))
      standAt apos.atName
      let (fv, first) ← holding [ov] (getMethod ov "__init__" pl)
      callWith cpos fv first (backTo cpos (starEach (e :: es) (envF (nfS x qual st cc cda) f L))) []))
    (hst : ∀ L : Addr, starEach (e :: es) (envF (nfS x qual st cc cda) f L) = (false, eval e (envF (nfS x qual st cc cda) f L)) :: starEach es (envF (nfS x qual st cc cda) f L))
    (hpl : ∀ L : Addr, (backTo cpos (starEach es (envF (nfS x qual st cc cda) f L))).any (·.1) = false)
    (hbody : ∀ (A : Around) (outer : List Env) (s : Shared) (H : Hp) (E : XK), Room k (A.deeper (envF (nfS x qual st cc cda) f s.heap.objs.size)) →
      XA (ncx CX0 P w K mg base N (nfS x qual st cc cda) f A outer s H E).nox E0 (e :: es) fa ∧ XSs (ncx CX0 P w K mg base N (nfS x qual st cc cda) f A outer s H E).nox E0 rest fb) :
    FnOk P w K mg base CX0 (k + 1) f fd ps (spP K (supW n m dn cs W2 fa fb)) := by
  refine fn_super F S hbd hpar har hsc hint hsw hev hst hpl F2 hj (fun vs H Q E ⟨β, S, w, bs, R, _, _, hb, hW, _⟩ => ?_) fun A outer s H vs Q E hr ⟨β, S, w1, bs, R, eH, hR, hb, hW, hk⟩ => ?_
  · match bs, hW, hb with
    | .mt j :: br, hW, hb =>
      obtain ⟨c, fs, e1, h1⟩ := cell_ins (f := fun c fs => c ∈ cs ∧ (.mt j :: br : List B).length = n ∧ fa ((.mt j :: br).map some ++ (some (.fz (.cls dn)) :: List.replicate m none)) S noX fun us S1 => W2 (.mt j :: us) S1 noX fun _ S2 => fb ((.mt j :: br).map some ++ (some (.fz (.cls dn)) :: List.replicate m none)) S2 { nx := fun _ S' => R (.fz .non) S', rt := R, xe := noX }) hW
      rw [← hb.length, h1.2.1, hn]
  · match bs, hW, hb with
    | .mt i :: br, hW, .cons hd0 ht =>
      obtain ⟨c, fs, e1, hc, hl, h1⟩ := cell_ins (f := fun c fs => c ∈ cs ∧ (.mt i :: br : List B).length = n ∧ fa ((.mt i :: br).map some ++ (some (.fz (.cls dn)) :: List.replicate m none)) S noX fun us S1 => W2 (.mt i :: us) S1 noX fun _ S2 => fb ((.mt i :: br).map some ++ (some (.fz (.cls dn)) :: List.replicate m none)) S2 { nx := fun _ S' => R (.fz .non) S', rt := R, xe := noX }) hW
      obtain ⟨ta, pa, sa⟩ := (hbody A outer s H E hr).1.ex
      obtain ⟨t, ps', q⟩ := (hbody A outer s H E hr).2.ex
      obtain ⟨dx, us, hH, _⟩ := hR.cellI e1
      obtain ⟨_, rfl⟩ := id hd0
      subst eH
      have G0 := startF_ok (N := N) (m := m) hD (DenBL.cons hd0 ht) (by rw [hl, hm])
      have back : ∀ {S' : Sto} {w' : Wd}, Rel K (reb S w1) S' w' → Rel K β S' w' ∧ Later S.length w1 S'.length w' := fun R' => hR.unreb R'
      refine ⟨ta, t, w1.m i, clsAt K c, dx, us, _, rfl, hH, hcs c hc, pa, ps', ?_⟩
      refine sa (reb S w1) S w1 _ _ noX _ _ hR.reb G0 h1 (fun bs1 S1 w2 vs1 h2 R2 l2 d2 => ?_) xok_no
      refine ⟨_, S1, w2, .mt i :: bs1, _, rfl, R2, .cons ⟨Nat.lt_of_lt_of_le hd0.1 l2.le, by rw [l2.m i hd0.1]⟩ d2, h2, fun b S2 w3 v h3 R3 l3 d3 => ?_⟩
      exact q (reb S w1) S2 w3 _ _ _ _ R3 (G0.later (l2.trans l3)) h3 ⟨fun Γ S' w' σ h R' _ => hk _ S' w' .non h (back R').1 (back R').2 .non, fun b S' w' v h R' d => hk b S' w' v h (back R').1 (back R').2 d,
        fun C fs S' w' d vs h => h.elim, fun _ _ _ _ h => h.elim, fun _ _ _ _ h => h.elim⟩
end
end PL
namespace PL
open PySem L2
theorem raw0 {P : Program} {w : World} {K : PySem.W.Frag} {mg : Str → Option Value} {base : Heap} {k : Nat} {f : Addr} {fd : FuncData} {ps : List Str} {sp : Sp} (F : FnOk P w K mg base CX0 k f fd ps sp) (hb : Binds K fd ps []) : FnR P w K mg base CX0 k f sp :=
  fun A outer s H us vs Q E hr e0 r h => F.raw hb .nil A outer s H us vs Q E hr e0 r (by show sp (vs ++ []) H Q E; rw [List.append_nil]; exact h)
end PL
/-! defaults, text tests, class constants (own work) -/
namespace PL
open PySem L2
section
variable {P : Program} {w : World} {K : PySem.W.Frag} {mg : Str → Option Value} {base : Heap}
theorem okPD {x qual : Str} {params : Arguments} {body : List Stmt} {scope : Scope} {dvs : List V} {kws : List (Str × V)} {f : Addr} {fd : FuncData} {N ps : List Str} {k n m : Nat} {fb : FS} (F : FunD K x qual params body scope dvs kws f fd) (S : FnScope N ps scope) (hn : ps.length = n) (hm : N.length = n + m)
    (hbody : ∀ (cdv : Value) (A : Around) (outer : List Env) (s : Shared) (H : Hp) (E : XK), Room k (A.deeper (PyProof.Rows.envOfC qual scope s.heap.objs.size f cdv)) → XSs (cxOf CX0 P w K mg base N qual scope f cdv A outer s H E).nox E0 body fb) :
    FnOk P w K mg base CX0 (k + 1) f fd ps (spP K (defW n m fb)) :=
  F.ok S (fun vs H Q E ⟨β, S, w, bs, R, _, _, hb, hW, _⟩ => by rw [← hb.length, hW.1, hn]) fun cdv A outer s H vs Q E hr ⟨β, S, w1, bs, R, e, hR, hb, hW, hk⟩ => by
    obtain ⟨t, p, q⟩ := (hbody cdv A outer s H E hr).ex
    subst e
    have back : ∀ {S' : Sto} {w' : Wd}, Rel K (reb S w1) S' w' → Rel K β S' w' ∧ Later S.length w1 S'.length w' := fun R' => hR.unreb R'
    exact ⟨t, p.nox, q (reb S w1) S w1 _ _ _ _ hR.reb (start_ok hb (by rw [hW.1]; exact hm)) hW.2 ⟨fun Γ S' w' σ h R' _ => hk _ S' w' .non h (back R').1 (back R').2 .non, fun b S' w' v h R' d => hk b S' w' v h (back R').1 (back R').2 d,
      fun C fs S' w' d vs h => h.elim, fun _ _ _ _ h => h.elim, fun _ _ _ _ h => h.elim⟩⟩
/-- a test of a text: z.isalpha() .. -/
def gStrP (p : Str → Bool) (b : B) : GL := fun bs S R => match b, bs with
  | .fz (.str z), [] => R (.fz (.bl (p z))) S
  | _, _ => False
theorem snd_strP (p : Str → Bool) : SndM K (fun x xs H Q => ∃ a, x = .str a ∧ xs = [] ∧ True ∧ Q (.bl (p a)) H) (gStrP p) := fun β S w b bs v vs R Q hR hx hb hg hk => by
  match b, bs, hg, hx, hb with
  | .fz (.str z), [], hg, hx, .nil =>
    cases (show Den K w.F (.str z) v from hx)
    exact ⟨z, rfl, rfl, trivial, hk.fz hR hg (.bl _)⟩
/-- a constant of the class, by an instance -/
def gCon (kv : List (Str × D)) (f : Str) : G1 := fun b S R => match b with
  | .fz (.ins cn fs) => fs.lookup f = none ∧ optK (kv.lookup cn) fun d => R (.fz d) S
  | .mt k => (match S[k]? with
    | some (.ins cn fs) => fs.lookup f = none ∧ optK (kv.lookup cn) fun d => R (.fz d) S
    | _ => False)
  | _ => False
end
section
variable {K : PySem.W.Frag} {β : Base} {S : Sto} {w : Wd} {b : B} {v : V} {R : RB}
/-- an instance: its class, its own names -/
def insA (b : B) (S : Sto) (k : Str → (Str → Bool) → Prop) : Prop := match b with
  | .fz (.ins cn fs) => k cn fun m => (fs.lookup m).isNone
  | .mt j => (match S[j]? with
    | some (.ins cn fs) => k cn fun m => (fs.lookup m).isNone
    | _ => False)
  | _ => False
theorem insA_ok {k : Str → (Str → Bool) → Prop} (hR : Rel K β S w) (hb : DenB K S.length w b v) (h : insA b S k) : ∃ a cn dx fs p, v = .ref a ∧ w.H a = some (.ins (clsAt K cn) dx fs) ∧ (∀ m, p m = true → fs.lookup m = none) ∧ k cn p := by
  cases b with
  | fz d =>
    have hb : Den K w.F d v := hb
    cases hb with
    | ins h1 h2 => exact ⟨_, _, _, _, _, rfl, hR.fr _ _ h1, fun m hm => h2.look.2 (Option.isNone_iff_eq_none.mp hm), h⟩
    | _ => exact (show False from h).elim
  | mt j =>
    obtain ⟨_, rfl⟩ := hb
    obtain ⟨cn, fs, e1, h3⟩ := cell_ins (f := fun cn fs => k cn fun m => (fs.lookup m).isNone) h
    obtain ⟨dx, vs, h4, h5⟩ := hR.cellI e1
    exact ⟨_, cn, dx, vs, _, rfl, h4, fun m hm => h5.look.2 (Option.isNone_iff_eq_none.mp hm), h3⟩
end
section
variable {X : Cx} {E : XK} {e o : Expr} {es : List Expr} {f m : Str} {fe fo : FE} {fr : FA} {pos apos : Pos}
/-- o.F, a constant of o's class -/
def eCon (kv : List (Str × D)) (f : Str) (fo : FE) : FE := fun Γ S Rx R => fo Γ S Rx fun b S1 => insA b S1 fun cn p => p f = true ∧ optK (kv.lookup cn) fun d => R (.fz d) S1
structure ConOk (K : PySem.W.Frag) (cn f : Str) (d : D) : Prop where
  cls : Cls K (clsAt K cn)
  con : ∃ v u, Con K (clsAt K cn) f v u ∧ ∀ F, Den K F d v
theorem xcon {kv : List (Str × D)} (h : ∀ cn d, kv.lookup cn = some d → ConOk X.K cn f d) (he : XE X E e fe) (hb : attributeBase e f X.env (eval e X.env) = eval e X.env) : XE X E (.Attribute e f pos) (eCon kv f fe) :=
  let ⟨_, p, s⟩ := he.ex
  ⟨_, pe_con p hb, fun β S w σ Γ Rx R Q hR hG hf hk hx => s β S w σ Γ Rx _ _ hR hG hf (fun b S1 w1 v h1 R1 l1 d1 => by
    obtain ⟨a, cn, dx, fs, p, rfl, h2, h3, h4, h5⟩ := insA_ok R1 d1 h1
    obtain ⟨d, h6, h7⟩ := optK_ok h5
    obtain ⟨v, u, h8, h9⟩ := (h cn d h6).con
    exact ⟨a, _, dx, fs, v, u, rfl, h2, (h cn d h6).cls, h8, h3 f h4, hk _ S1 w1 v h7 R1 l1 (h9 w1.F)⟩) hx⟩
/-- o.f, of one of some classes -/
def eFldA (cs : List Str) (f : Str) (fo : FE) : FE := fun Γ S Rx R => fo Γ S Rx fun b S1 => match b with
  | .fz (.ins cn fs) => cn ∈ cs ∧ optK (fs.lookup f) fun d => R (.fz d) S1
  | .mt k => (match S1[k]? with
    | some (.ins cn fs) => cn ∈ cs ∧ optK (fs.lookup f) fun b => R b S1
    | _ => False)
  | _ => False
structure FldOk (K : PySem.W.Frag) (cn f : Str) : Prop where
  cls : Cls K (clsAt K cn)
  no : NoAttr K (clsAt K cn) f
theorem xfldA {cs : List Str} (h : ∀ cn ∈ cs, FldOk X.K cn f) (he : XE X E e fe) (hb : attributeBase e f X.env (eval e X.env) = eval e X.env) : XE X E (.Attribute e f pos) (eFldA cs f fe) :=
  let ⟨_, p, s⟩ := he.ex
  ⟨_, pe_fld p hb, fun β S w σ Γ Rx R Q hR hG hf hk hx => s β S w σ Γ Rx _ _ hR hG hf (fun b S1 w1 v h1 R1 l1 d1 => by
    have go : ∃ cn, cn ∈ cs ∧ gFld cn f b S1 R := by
      cases b with
      | fz d =>
        cases d with
        | ins cn fs => exact ⟨cn, h1.1, rfl, h1.2⟩
        | _ => exact (show False from h1).elim
      | mt k =>
        obtain ⟨cn, fs, e1, h3, h4⟩ := cell_ins (f := fun cn fs => cn ∈ cs ∧ optK (fs.lookup f) fun b => R b S1) h1
        refine ⟨cn, h3, ?_⟩
        show match S1[k]? with
          | some (.ins C' fs) => C' = cn ∧ optK (fs.lookup f) fun b => R b S1
          | _ => False
        rw [e1]
        exact ⟨rfl, h4⟩
    obtain ⟨cn, hc, hg⟩ := go
    obtain ⟨a, dx, fs, u, c, rfl, h2, h3, h4, h5⟩ := gFld_ok R1 d1 hg
    exact ⟨a, _, dx, fs, u, rfl, h2, (h cn hc).cls, (h cn hc).no, h3, hk c S1 w1 u h5 R1 l1 h4⟩) hx⟩
/-- o.f = e, o a cell of one of some classes -/
def sFldA (cs : List Str) (m : Str) (fo fv : FE) : FS := fun Γ S P => fv Γ S P.xe fun c S1 => fo Γ S1 P.xe fun b S2 => match b with
  | .mt k => (match S2[k]? with
    | some (.ins cn fs) => (cn ∈ cs ∧ fs.length < 1000) ∧ P.nx Γ (S2.set k (.ins cn (putB m c fs)))
    | _ => False)
  | _ => False
theorem xs_fldA {value : Expr} {fv : FE} {pos' : Pos} {cs : List Str} (h : ∀ cn ∈ cs, FldOk X.K cn m) (ho : XE X E o fo) (hv : XE X E value fv) (hs : swapsWith value (some (.Attribute o m pos')) pos.line X.env = pure false) : XS X E (.Assign [.Attribute o m pos'] value pos) (sFldA cs m fo fv) :=
  let ⟨_, p, s⟩ := ho.ex; let ⟨_, q, t⟩ := hv.ex
  ⟨_, ps_fld p q hs, fun β S w σ Γ P De hR hG hf hk => t β S w σ Γ _ _ _ hR hG hf (fun c S1 w1 u h1 R1 l1 d1 => s β S1 w1 σ Γ _ _ _ R1 (hG.later l1) h1 (fun b S2 w2 v h2 R2 l2 d2 => by
    cases b with
    | fz _ => exact (show False from h2).elim
    | mt k =>
      obtain ⟨_, rfl⟩ := d2
      obtain ⟨cn, fs, e1, ⟨hc, h3⟩, h4⟩ := cell_ins (f := fun cn fs => (cn ∈ cs ∧ fs.length < 1000) ∧ P.nx Γ (S2.set k (.ins cn (putB m c fs)))) h2
      obtain ⟨dx, vs, h5, h6⟩ := R2.cellI e1
      have lt : Later S2.length w2 S2.length ⟨w2.m, w2.F, upd w2.H (w2.m k) (.ins (clsAt X.K cn) dx (putF m u vs))⟩ := ⟨Nat.le_refl _, fun _ _ => rfl, .refl _⟩
      obtain ⟨R3, l3⟩ := R2.setC e1 (by intro z; cases z) (o := .ins (clsAt X.K cn) dx (putF m u vs)) (c' := .ins cn (putB m c fs)) ⟨dx, _, upd_same, (h6.later lt).put ((d1.later l2).later lt)⟩
      exact ⟨_, _, dx, vs, rfl, h5, (h cn hc).cls, (h cn hc).no, by rw [← h6.length]; exact h3, hk.nx Γ _ _ σ h4 R3 (hG.later ((l1.trans l2).trans l3))⟩) hk.x) hk.x⟩
/-- a property of one of some classes -/
structure PropOk (X : Cx) (cn f : Str) (W : FW) : Prop where
  cls : Cls X.K (clsAt X.K cn)
  ex : ∃ (p g : Addr) (fd : FuncData) (ps : List Str) (k : Nat), PropOf X.K (clsAt X.K cn) f p g ∧ FnOk X.prog X.w X.K X.mg X.base CX0 k g fd ps (spP X.K W) ∧ Room (k + 1) X.A ∧ Binds X.K fd ps []
def ePropA (tbl : List (Str × FW)) (g : FW → GW) (fo : FE) : FE := fun Γ S Rx R => fo Γ S Rx fun b S1 => insA b S1 fun cn _ => optK (tbl.lookup cn) fun W => g W [b] S1 noX R
theorem xpropA {tbl : List (Str × FW)} {g : FW → GW} (hg : ∀ W, SndW0 X.K W [] (g W)) (h : ∀ cn W, tbl.lookup cn = some W → PropOk X cn f W) (ho : XE X E o fo) (hx : Passes CX0 X.nox E0) (hb : attributeBase o f X.env (eval o X.env) = eval o X.env) : XE X E (.Attribute o f pos) (ePropA tbl g fo) :=
  let ⟨to, q, u⟩ := ho.ex
  ⟨fun σ H Q => to σ H fun x H1 => ∃ a cn dx fs W, x = .ref a ∧ H1 a = some (.ins (clsAt X.K cn) dx fs) ∧ PropOk X cn f W ∧ spP X.K W [.ref a] H1 Q E0,
    ⟨fun pins s σ H Q I hw => attr_of hb (thn (q.run pins s σ H _ I hw) fun vv s1 ⟨x, H1, I1, rx, a, cn, dx, fs, W, ex, ea, ok, sp⟩ => by
      subst ex
      have ev : vv = Value.ref a := rx
      rw [ev]
      obtain ⟨p, g, fd, ps, k, hp, hF, hr, hbi⟩ := ok.ex
      exact getprop_ok (dvs := []) (ds := []) I1 ea ok.cls hp hF hr hbi .nil hx sp)⟩,
    fun β S w σ Γ Rx R Q hR hG hf hk hx => u β S w σ Γ Rx _ _ hR hG hf (fun b S1 w1 v h1 R1 l1 d1 => by
      obtain ⟨a, cn, dx, fs, p, rfl, h2, _, h5⟩ := insA_ok R1 d1 h1
      obtain ⟨W, h6, h7⟩ := optK_ok h5
      exact ⟨a, cn, dx, fs, W, rfl, h2, h cn W h6, hg W β S1 w1 [b] [.ref a] R Q E0 R1 (.cons d1 .nil) h7 (hk.later l1)⟩) hx⟩
/-- a method of one of some classes -/
structure MethOk (X : Cx) (cn m : Str) (W : FW) : Prop where
  cls : Cls X.K (clsAt X.K cn)
  ex : ∃ (f : Addr) (fd : FuncData) (ps : List Str) (k : Nat), Meth X.K (clsAt X.K cn) m f ∧ FnOk X.prog X.w X.K X.mg X.base CX0 k f fd ps (spP X.K W) ∧ Room k X.A ∧ Binds X.K fd ps []
def eMethA (tbl : List (Str × FW)) (m : Str) (g : FW → GW) (fo : FE) (fr : FA) : FE := fun Γ S Rx R => fo Γ S Rx fun b S1 => insA b S1 fun cn p => p m = true ∧ optK (tbl.lookup cn) fun W => fr Γ S1 Rx fun bs S2 => g W (b :: bs) S2 noX R
theorem xmethA {pl : Sem Bool} {tbl : List (Str × FW)} {g : FW → GW} (hg : ∀ W, SndW0 X.K W [] (g W)) (h : ∀ cn W, tbl.lookup cn = some W → MethOk X cn m W) (hx0 : Passes CX0 X E0) (ho : XE X E o fo) (ha : XA X E (e :: es) fr)
    (hst : starEach (e :: es) X.env = (false, eval e X.env) :: starEach es X.env := by rfl) (hpl : (backTo pos (starEach es X.env)).any (·.1) = false := by rfl)
    (hev : eval (.Call (.Attribute o m apos) (e :: es) [] pos) X.env = (do
      let ov ← eval o X.env
      standAt apos.atName
      let (fv, first) ← holding [ov] (getMethod ov m pl)
      callWith pos fv first (backTo pos (starEach (e :: es) X.env)) (backToKw pos (keywordEach [] X.env))) := by rfl) :
    XE X E (.Call (.Attribute o m apos) (e :: es) [] pos) (eMethA tbl m g fo fr) :=
  let ⟨to, q, u⟩ := ho.ex; let ⟨ta, r, v⟩ := ha.ex
  ⟨fun σ H Q => to σ H fun x H1 => ∃ a cn dx fs W, x = .ref a ∧ H1 a = some (.ins (clsAt X.K cn) dx fs) ∧ MethOk X cn m W ∧ fs.lookup m = none ∧ ta σ H1 fun vs H2 => spP X.K W (.ref a :: vs) H2 Q E0,
    ⟨fun pins s σ H Q I hw => PySem.W.methodCall_KW (pl := pl) (thn (q.run pins s σ H _ I hw) fun vv s1 ⟨x, H1, I1, rx, a, cn, dx, fs, W, ex, ea, ok, hl, hq⟩ => by
      subst ex
      have ev : vv = Value.ref a := rx
      rw [ev]
      obtain ⟨f, fd, ps, k, hm, hF, hr, hbi⟩ := ok.ex
      exact getmeth_ok I1 ea ok.cls hm hl (PySem.W.callWith_K (first := [.ref a]) (h₀ := X.base) I.ok.mod.kin hm.kp (thn (r.run pos pins s1 σ H1 _ I1 hq) fun us s2 ⟨vs, H2, I2, rv, sp⟩ =>
        ⟨I2.kIn, run_fn (us := .ref a :: us) (vs := .ref a :: vs) (dvs := []) (ds := []) hF hr hbi .nil hx0 I2 (.cons rfl rv) (by rw [List.append_nil]; exact sp)⟩) hst hpl)) hev⟩,
    fun β S w σ Γ Rx R Q hR hG hf hk hx => u β S w σ Γ Rx _ _ hR hG hf (fun b S1 w1 vv h1 R1 l1 d1 => by
      obtain ⟨a, cn, dx, fs, p, rfl, h2, h3, h4, h5⟩ := insA_ok R1 d1 h1
      obtain ⟨W, h6, h7⟩ := optK_ok h5
      exact ⟨a, cn, dx, fs, W, rfl, h2, h cn W h6, h3 m h4, v β S1 w1 σ Γ Rx _ _ R1 (hG.later l1) h7 (fun bs S2 w2 vs h8 R2 l2 d2 => by
        have z := hg W β S2 w2 (b :: bs) (.ref a :: vs) R Q E0 R2 (.cons (d1.later l2) d2) h8 (hk.later (l1.trans l2))
        rw [List.append_nil] at z
        exact z) (hx.later l1)⟩) hx⟩
theorem xmethA0 {pl : Sem Bool} {tbl : List (Str × FW)} {g : FW → GW} (hg : ∀ W, SndW0 X.K W [] (g W)) (h : ∀ cn W, tbl.lookup cn = some W → MethOk X cn m W) (hx0 : Passes CX0 X E0) (ho : XE X E o fo)
    (hev : eval (.Call (.Attribute o m apos) [] [] pos) X.env = (do
      let ov ← eval o X.env
      standAt apos.atName
      let (fv, first) ← holding [ov] (getMethod ov m pl)
      callWith pos fv first (backTo pos (starEach [] X.env)) (backToKw pos (keywordEach [] X.env))) := by rfl) :
    XE X E (.Call (.Attribute o m apos) [] [] pos) (eMethA tbl m g fo aNil) :=
  let ⟨to, q, u⟩ := ho.ex
  ⟨fun σ H Q => to σ H fun x H1 => ∃ a cn dx fs W, x = .ref a ∧ H1 a = some (.ins (clsAt X.K cn) dx fs) ∧ MethOk X cn m W ∧ fs.lookup m = none ∧ spP X.K W [.ref a] H1 Q E0,
    ⟨fun pins s σ H Q I hw => PySem.W.methodCall_KW (pl := pl) (thn (q.run pins s σ H _ I hw) fun vv s1 ⟨x, H1, I1, rx, a, cn, dx, fs, W, ex, ea, ok, hl, sp⟩ => by
      subst ex
      have ev : vv = Value.ref a := rx
      rw [ev]
      obtain ⟨f, fd, ps, k, hm, hF, hr, hbi⟩ := ok.ex
      exact getmeth_ok I1 ea ok.cls hm hl (PySem.W.callWith_K0 (first := [.ref a]) I1.kIn hm.kp (run_fn (us := [.ref a]) (vs := [.ref a]) (dvs := []) (ds := []) hF hr hbi .nil hx0 I1 (.cons rfl .nil) sp))) hev⟩,
    fun β S w σ Γ Rx R Q hR hG hf hk hx => u β S w σ Γ Rx _ _ hR hG hf (fun b S1 w1 vv h1 R1 l1 d1 => by
      obtain ⟨a, cn, dx, fs, p, rfl, h2, h3, h4, h5⟩ := insA_ok R1 d1 h1
      obtain ⟨W, h6, h7⟩ := optK_ok h5
      exact ⟨a, cn, dx, fs, W, rfl, h2, h cn W h6, h3 m h4, hg W β S1 w1 [b] [.ref a] R Q E0 R1 (.cons d1 .nil) h7 (hk.later l1)⟩) hx⟩
end
end PL
namespace PL
open PySem L2
/-- isinstance, the package's classes too: own objects and classes, built-in values and own classes, own objects and built-in classes -/
structure IsaT where
  oo : List ((Str × Str) × Bool)
  bo : List ((String × Str) × Bool)
  ob : List ((Str × String) × Bool)
def isaC (T : IsaT) (x c : D) : Option Bool := match x, c with
  | .ins a _, .cls d => T.oo.lookup (a, d)
  | .ins a _, .ty n => T.ob.lookup (a, n)
  | x, .cls d => (match tyName x with
    | some t => T.bo.lookup (t, d)
    | none => none)
  | x, c => isa0 x c
structure InsTy (K : PySem.W.Frag) (C : Addr) : Prop where
  cl : Cls K C
  ha : PySem.W.findIn K (.ref C) "__class__" = some (some (.builtin "object.__class__"))
  hn : PySem.W.specialIn K (.builtin "object.__class__") "__get__" = some (some (.builtin "getset_descriptor.__get__"))
  ht : PySem.W.takesIn K (.builtin "object.__class__") = some true
  hm : PySem.W.mroIn K C (.type "object") = some true
structure IsaTOk (K : PySem.W.Frag) (T : IsaT) : Prop where
  oo : ∀ a d b, T.oo.lookup (a, d) = some b → InsTy K (clsAt K a) ∧ PySem.W.kitOne K (.ref (clsAt K a)) (.ref (clsAt K d)) = some b
  bo : ∀ t d b, T.bo.lookup (t, d) = some b → PySem.W.kitOne K (.type t) (.ref (clsAt K d)) = some b
  ob : ∀ a n b, T.ob.lookup (a, n) = some b → InsTy K (clsAt K a) ∧ PySem.W.kitOne K (.ref (clsAt K a)) (.type n) = some b
theorem isaC_ok {K : PySem.W.Frag} {T : IsaT} (h : IsaTOk K T) : IsaOk K (isaC T) := fun F H x v s hx c0 b0 e0 => by
  cases x with
  | ins a fs =>
    cases hx with
    | @ins y dx _ _ vs h1 h2 =>
      have it : InsTy K (clsAt K a) := by
        cases c0 with
        | ty n => exact (h.ob a n b0 e0).1
        | cls d => exact (h.oo a d b0 e0).1
        | _ => cases e0
      refine ⟨.ref (clsAt K a), .base (.ins (s _ _ h1) it.cl it.ha it.hn it.ht it.hm), fun c u b hc e => ?_⟩
      cases hc with
      | ty n => exact ⟨_, .ty n, (h.ob a n b e).2⟩
      | cls d => exact ⟨_, .own _, (h.oo a d b e).2⟩
      | _ => cases e
  | _ =>
    first
      | (exfalso; cases c0 <;> first | exact (Option.some_ne_none _ (e0.symm.trans rfl)).elim | cases e0)
      | (refine ⟨_, tyX_of s hx rfl, fun c u b hc e => ?_⟩
         cases hc with
         | ty n => exact ⟨_, .ty n, kit_ty e⟩
         | cls d => exact ⟨_, .own _, h.bo _ d b e⟩
         | _ => cases e)
end PL
namespace PL
open PySem L2
inductive AllI (p : Str → Prop) : List Str → Prop
  | nil : AllI p []
  | cons {c : Str} {cs : List Str} : p c → AllI p cs → AllI p (c :: cs)
theorem AllI.all {p : Str → Prop} : ∀ {cs : List Str}, AllI p cs → ∀ c ∈ cs, p c
  | _, .nil, _, h => by cases h
  | _, .cons a t, c, h => by
    rcases List.mem_cons.mp h with e | e
    · rw [e]; exact a
    · exact AllI.all t c e
inductive AllT {κ α : Type} (p : κ → α → Prop) : List (κ × α) → Prop
  | nil : AllT p []
  | cons {c : κ} {a : α} {t : List (κ × α)} : p c a → AllT p t → AllT p ((c, a) :: t)
theorem AllT.look {κ α : Type} [BEq κ] [LawfulBEq κ] {p : κ → α → Prop} : ∀ {t : List (κ × α)}, AllT p t → ∀ c a, t.lookup c = some a → p c a
  | _, .nil, _, _, h => by cases h
  | _, @AllT.cons _ _ _ c' a' t h r, c, a, e => by
    rw [List.lookup_cons] at e
    cases q : c == c' with
    | true => rw [q] at e; cases e; rw [eq_of_beq q]; exact h
    | false => rw [q] at e; exact AllT.look r c a e
section
variable {X : Cx} {K : PySem.W.Frag} {cn f m : Str} {C : Addr}
theorem fldok (h : clsAt K cn = C) (c : Cls K C) (n : NoAttr K C f) : FldOk K cn f := by subst h; exact ⟨c, n⟩
theorem conok {v : V} {u : Value} {d : D} (h : clsAt K cn = C) (c : Cls K C) (n : Con K C f v u) (hd : ∀ F, Den K F d v) : ConOk K cn f d := by subst h; exact ⟨c, v, u, n, hd⟩
theorem methok {W : FW} {g : Addr} {fd : FuncData} {ps : List Str} {k : Nat} (h : clsAt X.K cn = C) (c : Cls X.K C) (n : Meth X.K C m g) (F : FnOk X.prog X.w X.K X.mg X.base CX0 k g fd ps (spP X.K W)) (hr : Room k X.A) (hb : Binds X.K fd ps []) : MethOk X cn m W := by
  subst h; exact ⟨c, g, fd, ps, k, n, F, hr, hb⟩
theorem propok {W : FW} {p g : Addr} {fd : FuncData} {ps : List Str} {k : Nat} (h : clsAt X.K cn = C) (c : Cls X.K C) (n : PropOf X.K C f p g) (F : FnOk X.prog X.w X.K X.mg X.base CX0 k g fd ps (spP X.K W)) (hr : Room (k + 1) X.A) (hb : Binds X.K fd ps []) : PropOk X cn f W := by
  subst h; exact ⟨c, p, g, fd, ps, k, n, F, hr, hb⟩
theorem supat {D f2 : Addr} (h : clsAt K cn = C) (u : SupAt K C D f2) : SupAt K (clsAt K cn) D f2 := by subst h; exact u
end
end PL
namespace PL
open PySem L2
/-- C.F, a constant of an own class -/
theorem xcval {X : Cx} {E : XK} {C : Addr} {mc : Value} {f cn : Str} {v : V} {u : Value} {d : D} {p0 pos : Pos} (r : ClX.CRead X.K C mc) (k : ClX.CVal X.K C mc f v u) (hd : ∀ F, Den X.K F d v) (hg : Gl X cn) (hm : X.mg cn = some (.ref C))
    (hdb : (cn == ("__debug__" : Str)) = false := by decide) (hb : attributeBase (.Name cn p0) f X.env (eval (.Name cn p0) X.env) = eval (.Name cn p0) X.env := by rfl) : XE X E (.Attribute (.Name cn p0) f pos) (eC d) :=
  ⟨_, ClX.pe_cval (pe_glob (v := .ref C) hg hm rfl hdb) hb, fun β S w σ Γ Rx R Q hR hG hf hk hx => ⟨C, mc, v, u, rfl, r, k, hk _ S w v hf hR (.refl _ _) (hd w.F)⟩⟩
end PL
/-! list.insert; sets of numbers and texts (own work) -/
namespace PL
open PySem L2
section
variable {K : PySem.W.Frag}
def gInsert (b : B) : GL := fun bs S R => match b, bs with
  | .mt k, [.fz (.int i), c] => (match S[k]? with
    | some (.lst xs) => (xs.length < sizeLine ∧ 0 ≤ i ∧ i < 2 ^ 63) ∧ R (.fz .non) (S.set k (.lst (xs.take i.toNat ++ [c] ++ xs.drop i.toNat)))
    | _ => False)
  | _, _ => False
theorem DenBL.takeB {n : Nat} {w : Wd} : ∀ (i : Nat) {bs : List B} {vs : List V}, DenBL K n w bs vs → DenBL K n w (bs.take i) (vs.take i)
  | 0, _, _, _ => .nil
  | _ + 1, _, _, .nil => .nil
  | i + 1, _, _, .cons a t => .cons a (DenBL.takeB i t)
theorem DenBL.dropB {n : Nat} {w : Wd} : ∀ (i : Nat) {bs : List B} {vs : List V}, DenBL K n w bs vs → DenBL K n w (bs.drop i) (vs.drop i)
  | 0, _, _, h => h
  | _ + 1, _, _, .nil => .nil
  | i + 1, _, _, .cons _ t => DenBL.dropB i t
theorem snd_insert : SndM K (fun x vs H Q => ∃ (l : Addr) (xs : List V) (i : Int) (y : V), x = .ref l ∧ vs = [.int i, y] ∧ H l = some (.lst xs) ∧ xs.length < sizeLine ∧ 0 ≤ i ∧ i < 2 ^ 63 ∧
    Q .non (upd H l (.lst (xs.take i.toNat ++ [y] ++ xs.drop i.toNat)))) gInsert := fun β S w b bs v vs R Q hR hx hb hg hk => by
  match b, bs, hg, hx, hb with
  | .mt k, [.fz (.int i), c], hg, hx, hb =>
    obtain ⟨_, rfl⟩ := hx
    obtain ⟨v1, u, rfl, hi, h1⟩ := hb.two
    cases (show Den K w.F (.int i) v1 from hi)
    obtain ⟨xs, e1, ⟨h2, h3, h4⟩, h5⟩ := cell_lst (f := fun xs => (xs.length < sizeLine ∧ 0 ≤ i ∧ i < 2 ^ 63) ∧ R (.fz .non) (S.set k (.lst (xs.take i.toNat ++ [c] ++ xs.drop i.toNat)))) hg
    obtain ⟨us, h6, h7⟩ := hR.cellL e1
    exact ⟨_, us, i, u, rfl, rfl, h6, by rw [← h7.length]; exact h2, h3, h4, hk.setL hR e1 h5 .non (((h7.takeB i.toNat).app (.cons h1 .nil)).app (h7.dropB i.toNat))⟩
/-! sets -/
def keyD : D → Option Key
  | .int i => some (.inl i)
  | .str z => some (.inr z)
  | _ => none
theorem keyD_ok {F : Hp} {d : D} {v : V} {k : Key} (h : Den K F d v) (e : keyD d = some k) : v = kV k := by
  cases h <;> first | (cases e; rfl) | cases e
theorem Rel.cellK {β : Base} {S : Sto} {w : Wd} (hR : Rel K β S w) {k : Nat} {P : Program} {wo : World} {T : Key → Bool} {n : Nat} (h : S[k]? = some (.kset P wo T n)) : w.H (w.m k) = some (SetK P wo (w.m k) T n) := (hR.live k _ h (by intro z; cases z)).ok
/-- a set that is a cell -/
def setB (P : Program) (wo : World) (b : B) (S : Sto) (f : Nat → (Key → Bool) → Nat → Prop) : Prop := match b with
  | .mt k => (match S[k]? with
    | some (.kset P' wo' T n) => (P' = P ∧ wo' = wo) ∧ f k T n
    | _ => False)
  | _ => False
theorem setB_ok {P : Program} {wo : World} {b : B} {S : Sto} {f : Nat → (Key → Bool) → Nat → Prop} (h : setB P wo b S f) : ∃ k T n, b = .mt k ∧ S[k]? = some (.kset P wo T n) ∧ f k T n := by
  cases b with
  | fz _ => exact (show False from h).elim
  | mt k =>
    have g : (match S[k]? with
      | some (.kset P' wo' T n) => (P' = P ∧ wo' = wo) ∧ f k T n
      | _ => False) := h
    clear h
    cases hc : S[k]? with
    | none => rw [hc] at g; exact g.elim
    | some cl =>
      rw [hc] at g
      cases cl with
      | kset P' wo' T n =>
        obtain ⟨⟨rfl, rfl⟩, g2⟩ := g
        exact ⟨k, T, n, rfl, hc, g2⟩
      | _ => exact (show False from g).elim
def gSet0 (P : Program) (wo : World) : GL := fun bs S R => match bs with
  | [] => R (.mt S.length) (S ++ [.kset P wo (fun _ => false) 0])
  | _ => False
theorem snd_set0 {P : Program} {wo : World} : SndL K (rSet0K P wo) (gSet0 P wo) := fun β S w bs vs R Q hR hb hg hk => by
  match bs, hg, hb with
  | [], hg, .nil =>
    refine ⟨rfl, fun p hp => ?_⟩
    obtain ⟨R1, l1⟩ := hR.newC hp (SetK P wo p (fun _ => false) 0) (c := .kset P wo (fun _ => false) 0) upd_same
    exact hk _ _ _ (.ref p) hg R1 l1 ⟨by rw [List.length_append]; exact Nat.lt_succ_self _, congrArg V.ref (if_pos rfl).symm⟩
def gSAdd (P : Program) (wo : World) (b : B) : GL := fun bs S R => match bs with
  | [.fz d] => setB P wo b S fun k T n => optK (keyD d) fun y => n + 1 < scanBound ∧ R (.fz .non) (S.set k (.kset P wo (fun j => T j || decide (j = y)) (if T y = true then n else n + 1)))
  | _ => False
theorem snd_sadd {P : Program} {wo : World} : SndM K (rSAddK P wo) (gSAdd P wo) := fun β S w b bs v vs R Q hR hx hb hg hk => by
  match bs, hg, hb with
  | [.fz d], hg, hb =>
    obtain ⟨k, T, n, rfl, e1, h1⟩ := setB_ok hg
    obtain ⟨y, e2, h2, h3⟩ := optK_ok h1
    obtain ⟨u, rfl, hd⟩ := hb.one
    obtain ⟨_, rfl⟩ := hx
    obtain rfl := keyD_ok (show Den K w.F d u from hd) e2
    obtain ⟨R1, l1⟩ := hR.setC e1 (by intro z; cases z) (o := SetK P wo (w.m k) (fun j => T j || decide (j = y)) (if T y = true then n else n + 1)) (c' := .kset P wo (fun j => T j || decide (j = y)) (if T y = true then n else n + 1)) upd_same
    exact ⟨w.m k, y, T, n, rfl, rfl, hR.cellK e1, h2, hk _ _ _ .non h3 R1 l1 .non⟩
def gSIn (P : Program) (wo : World) (neg : Bool) : G2 := fun b c S R => match b with
  | .fz d => setB P wo c S fun _ T _ => optK (keyD d) fun y => R (.fz (.bl (if neg then !T y else T y))) S
  | _ => False
theorem snd_sin {P : Program} {wo : World} {neg : Bool} : Snd2 K (rSInK P wo neg) (gSIn P wo neg) := fun β S w b c v u R Q hR hb hc hg hk => by
  cases b with
  | mt _ => exact (show False from hg).elim
  | fz d =>
    obtain ⟨k, T, n, rfl, e1, h1⟩ := setB_ok hg
    obtain ⟨y, e2, h2⟩ := optK_ok h1
    obtain ⟨_, rfl⟩ := hc
    obtain rfl := keyD_ok (show Den K w.F d v from hb) e2
    exact ⟨y, w.m k, T, n, rfl, rfl, hR.cellK e1, hk.fz hR h2 (.bl _)⟩
end
end PL
/-! ### set(xs), xs a list of whole numbers -/
namespace SL
open PySem PySem.Spec PyProof.Rows L2
section
variable {P : Program} {w : World} {A : Around} {E : Value → Shared → Prop} {s : Shared}
/-- an empty set -/
def emp (w : World) : Obj := { cls := .type "set", dict := none, data := .set #[] 0 (.fresh 0 0 (!w.params.followText "set-order")) }
theorem emp_at {h : Heap} {a : Addr} {ns : List Int} (ho : h.get? a = some (emp w)) : SetR w h a (fun j => decide (j ∈ ns.take 0)) 0 := setR_new_at ho
set_option maxHeartbeats 3200000 in
theorem make {l : Addr} {vs : Array Value} (ns : List Int) {Q : Value → Shared → Prop} (calm : A.handled = none) (pl : s.heap.IsList l vs) (iv : IntsAre vs.toList ns) (few : ns.length + 1 < scanBound)
    (q : ∀ (g : Heap) (tk c : Nat), SetR w g s.heap.objs.size (fun j => decide (j ∈ ns)) c → c ≤ ns.length → (∀ b o, s.heap.get? b = some o → g.get? b = some o) → Q (.ref s.heap.objs.size) { s with heap := g, toks := tk }) :
    wpAny (model P w) A (call (.type "set") [.ref l]) Q E s := by
  have vn : vs.size = ns.length := by have := IntsAre.length iv; rwa [Array.length_toList] at this
  obtain ⟨mc, mt, mm⟩ := F.called_set.mro
  have k1 := F.called_set.made
  have k2 := F.called_set.sub
  refine wpAny_call (codeAny_of_tree ?_)
  show wpAny _ _ (callAny (.type "set") _) _ _ _
  refine wpAny_pure ⟨Code.quiet_builtin _ (by decide +kernel), codeAny_builtin F.entry_type_call ?_⟩
  rw [Around.under_plain (weight_type_call_type "set" [.ref l] []) rfl]
  have k3 := F.called_set.notType
  have k4 := F.called_set.canCreate
  have k5 := F.typeCall_set_1 (.ref l)
  repeat (any_goals (first | assumption | wp_step))
  refine codeAny_mono (code_set_led1 (.ref l) (E := E) (Q₁ := fun o t => o = .ref s.heap.objs.size ∧ t = { s with heap := s.heap.push (emp w) }) ⟨rfl, rfl⟩) fun r t hr => ?_
  match r, hr with
  | .error _, hr => exact hr
  | .ok (.ret o), hr =>
    obtain ⟨rfl, rfl⟩ := hr
    have top : (s.heap.push (emp w)).get? s.heap.objs.size = some (emp w) := Heap.get?_push_size _ rfl
    have ty : Shared.TypeIs { s with heap := s.heap.push (emp w) } (.ref s.heap.objs.size) "set" := ⟨_, top, rfl⟩
    have k6 := F.called_set.init.lookup
    have k7 := F.called_set.init.bind (.ref s.heap.objs.size)
    repeat (any_goals (first | assumption | wp_step))
    refine codeAny_mono (codeAny_call_builtin (R := wants (fun v t => v = .none ∧ ∃ g tk c, t = { s with heap := g, toks := tk } ∧ SetR w g s.heap.objs.size (fun j => decide (j ∈ ns)) c ∧ c ≤ ns.length ∧ (∀ b o, s.heap.get? b = some o → g.get? b = some o)) E)
      F.called_set.init.plain F.entry_set_init (check_set_init_1 ty ?_)) fun r2 t2 hr2 => ?_
    · obtain ⟨⟨cl, dl, da, sl⟩, ho, h1, nl, h2⟩ := pl
      simp only at h1 h2
      subst h1 h2
      have ho' : (s.heap.push (emp w)).get? l = some { cls := .type "list", dict := dl, data := .seq vs nl, slots := sl } := Heap.get?_push_of_some _ ho
      have k8 := F.sub_list_set
      have k9 := F.sub_list_frozenset
      have kd : (Value.type "list" == Value.type "dict") = false := by decide
      have pl' : (s.heap.push (emp w)).IsList l vs := ⟨_, ho', rfl, nl, rfl⟩
      unfold Builtin.«set.__init__» noKeywords Builtin.Frozenset.updateFrom
      generalize hi : pyIter = PI
      wp_walk
      subst hi
      refine wpAny_pyIter_list pl' (wpAny_bind (wpAny_runValue ?_))
      have ls : l < s.heap.objs.size := Heap.lt_size ho
      have c3 : A.in1.in1.in1.handled = none := by simp [calm]
      have sz : (s.heap.push (emp w)).objs.size = s.heap.objs.size + 1 := Heap.size_push ..
      have n1 : l ≠ (s.heap.push (emp w)).objs.size := by rw [sz]; exact Nat.ne_of_lt (Nat.lt_succ_of_lt ls)
      have n2 : s.heap.objs.size ∉ [(s.heap.push (emp w)).objs.size, l] := by
        rw [sz]
        intro m
        rcases List.mem_cons.mp m with e | m
        · exact Nat.ne_of_lt (Nat.lt_succ_self _) e
        · exact Nat.ne_of_gt ls (List.mem_singleton.mp m)
      have val : ∀ (i : Nat) (v : Value), vs[i]? = some v → ∃ k t, ns[i]? = some k ∧ v = .int k t := fun i v hv => by
        have il : i < ns.length := by rw [← vn]; exact (Array.getElem?_eq_some_iff.mp hv).1
        obtain ⟨t, e⟩ := PyProof.Rows.IntsAre.int_at iv i v (by rw [Array.getElem?_toList]; exact hv)
        refine ⟨ns[i], t, List.getElem?_eq_getElem il, ?_⟩
        rw [e, List.getD_eq_getElem?_getD, List.getElem?_eq_getElem il] <;> rfl
      refine set_update_ints ((Walks.list c3 _ l n1 vs).toS) s.heap.objs.size n2 ns vn few val (vs.size - 0) 0 _ (by omega) (Nat.zero_le _) ⟨⟨_, Heap.get?_push_size _ rfl, rfl, rfl⟩, pl'.push _⟩ ⟨0, Nat.le_refl 0, emp_at (Heap.get?_push_of_some _ top)⟩ fun t c mv hc hS => ?_
      obtain ⟨g, g2, d2, tk, o2⟩ := t
      have e1 : g2 = s.gens := mv.gens
      have e2 : d2 = s.drawn := mv.drawn
      have e3 : o2 = s.os := mv.os
      subst e1 e2 e3
      show wpAny _ _ _ _ _ _
      refine wpAny_pure ?_
      show wpAny _ _ (ret Value.none) _ _ _
      rw [vn] at hc
      refine wpAny_pure ⟨rfl, g, tk, c, rfl, hS, hc, fun b o e => mv.heap b o (fun m => ?_) (Heap.get?_push_of_some _ (Heap.get?_push_of_some _ e))⟩
      have b0 : b < s.heap.objs.size := Heap.lt_size e
      rcases List.mem_cons.mp m with z | m
      · exact Nat.ne_of_lt b0 z
      · refine Nat.ne_of_lt (Nat.lt_succ_of_lt b0) ((List.mem_singleton.mp m).trans sz)
    · match r2, hr2 with
      | .error _, hr2 => exact hr2
      | .ok (.ret v), hr2 =>
        obtain ⟨rfl, g, tk, c, rfl, hS, hc, hk⟩ := hr2
        repeat (any_goals (first | assumption | wp_step))
        exact q _ _ _ hS hc hk
      | .ok .next, hr2 => exact hr2.elim
      | .ok .brk, hr2 => exact hr2.elim
      | .ok .cont, hr2 => exact hr2.elim
  | .ok .next, hr => exact hr.elim
  | .ok .brk, hr => exact hr.elim
  | .ok .cont, hr => exact hr.elim
end
section
variable {X : Cx}
def rSetL (K : PySem.W.Frag) (w : World) : List V → Hp → VK → Prop := fun xs H Q => ∃ (l : Addr) (ns : List Int), xs = [.ref l] ∧ SqL K H l (ns.map V.int) ∧ ns.length + 1 < scanBound ∧ ∀ p c, H p = none → c ≤ ns.length → Q (.ref p) (upd H p (SetO w p (fun j => decide (j ∈ ns)) c))
theorem cr_setL (hc : X.calm = true) : CallR X (.type "set") (rSetL X.K X.w) := by
  intro pins s σ H xs us Q I r h
  obtain ⟨l, ns, rfl, hl, hb, q⟩ := h
  rw [Vals.ref1 r]
  obtain ⟨its, rv, pl, hz⟩ := I.list hl
  refine make ns (I.ok.hd hc) pl.isList (by simpa using rv.ints) hb fun g tk c new hcn hk => ?_
  exact ⟨.ref _, upd H s.heap.objs.size (SetO X.w s.heap.objs.size (fun j => decide (j ∈ ns)) c), I.laid (t' := tk) hk (Nat.le_refl _) (setO_new new), rfl, q _ _ (I.hok.fresh (Nat.le_refl _)) hcn⟩
end
end SL

/-! sets: rules (own work) -/
namespace PL
open PySem L2
section
variable {X : Cx} {E : XK} {e o : Expr} {es : List Expr} {fe fo : FE} {fr : FA} {pos p0 apos cpos : Pos}
theorem xset0 (hg : Gl X "set") (hm : X.mg "set" = none) (hv : bootBuiltins "set" = some (.type "set")) : XE X E (.Call (.Name "set" p0) [] [] pos) (eCall (gSet0 X.prog X.w) aNil) :=
  ⟨_, pe_callTy0 cr_set0K hg hm hv, snd_call (fun β S w σ Γ Rx R Q hR hG hf hk hx => hk [] S w [] hf hR (.refl _ _) .nil) snd_set0⟩
def eSAdd (P : Program) (wo : World) (fo : FE) (fr : FA) : FE := fun Γ S Rx R => fo Γ S Rx fun b S1 => setB P wo b S1 (fun _ _ _ => True) ∧ fr Γ S1 Rx fun bs S2 => gSAdd P wo b bs S2 R
theorem xsadd (ho : XE X E o fo) (ha : XA X E (e :: es) fr) (hpe : ∀ {to : TE} {t : TA}, PE X o to → PA X (e :: es) t → PE X (.Call (.Attribute o "add" apos) (e :: es) [] cpos) (tSAddK X.prog X.w to t)) : XE X E (.Call (.Attribute o "add" apos) (e :: es) [] cpos) (eSAdd X.prog X.w fo fr) :=
  let ⟨_, q, u⟩ := ho.ex; let ⟨_, p, s⟩ := ha.ex
  ⟨_, hpe q p, fun β S w σ Γ Rx R Q hR hG hf hk hx => u β S w σ Γ Rx _ _ hR hG hf (fun b S1 w1 v h1 R1 l1 d1 => by
    obtain ⟨k, T, n, rfl, e1, _⟩ := setB_ok h1.1
    obtain ⟨_, rfl⟩ := id d1
    exact ⟨⟨_, _, _, rfl, R1.cellK e1⟩, s β S1 w1 σ Γ Rx _ _ R1 (hG.later l1) h1.2 (fun bs S2 w2 vs h2 R2 l2 d2 => snd_sadd β S2 w2 (.mt k) bs _ vs R Q R2 (d1.later l2) d2 h2 (hk.later (l1.trans l2))) (hx.later l1)⟩) hx⟩
theorem denInts {K : PySem.W.Frag} {F : Hp} : ∀ ns : List Int, DenL K F (ns.map .int) (ns.map V.int)
  | [] => .nil
  | n :: ns => .cons (.int n) (denInts ns)
/-- sorted(set(xs)), of numbers -/
def eSortSet (fe : FE) : FE := fun Γ S Rx R => fe Γ S Rx fun b S1 => lstD b S1 fun ds => asInts ds fun is => is.length < 63 ∧ ∀ ns : List Int, ns.Pairwise (· < ·) → (∀ k, k ∈ ns ↔ k ∈ is) → R (.fz (.lst (ns.map .int))) S1
theorem xsortSet {p1 p2 : Pos} (hc : X.calm = true) (hg : Gl X "sorted") (hm : X.mg "sorted" = none) (hv : bootBuiltins "sorted" = some (.builtin "sorted")) (hg2 : Gl X "set") (hm2 : X.mg "set" = none) (hv2 : bootBuiltins "set" = some (.type "set")) (he : XE X E e fe)
    (hs1 : starEach [.Call (.Name "set" p1) [e] [] p2] X.env = (false, eval (.Call (.Name "set" p1) [e] [] p2) X.env) :: starEach [] X.env := by rfl) (hs2 : starEach [e] X.env = (false, eval e X.env) :: starEach [] X.env := by rfl) :
    XE X E (.Call (.Name "sorted" p0) [.Call (.Name "set" p1) [e] [] p2] [] pos) (eSortSet fe) :=
  let ⟨_, p, s⟩ := he.ex
  ⟨_, pe_callB (cr_sortedSet hc) hg hm hv (pa_cons (pe_callTy (SL.cr_setL hc) hg2 hm2 hv2 (pa_cons p pa_nil hs2) (he := hs2)) pa_nil hs1) (he := hs1), fun β S w σ Γ Rx R Q hR hG hf hk hx => s β S w σ Γ Rx _ _ hR hG hf (fun b S1 w1 v h1 R1 l1 d1 => by
    obtain ⟨l, ds, vs, rfl, h2, h3, h4⟩ := lstD_ok R1 d1 h1
    obtain ⟨is, rfl, rfl, h5, h6⟩ := asInts_ok h4 h3
    have hsb : is.length + 1 < scanBound := Nat.lt_of_lt_of_le (by omega : is.length + 1 < 64) (by decide)
    refine ⟨l, is, rfl, SqL.of h2, hsb, fun p c hp hcl => ⟨p, _, c, rfl, upd_same, by omega, fun ns q hs hmem hl hq => ?_⟩⟩
    obtain ⟨R2, l2⟩ := R1.newF hp (SetO X.w p (fun j => decide (j ∈ is)) c)
    exact (hk.later (l1.trans l2)).newL R2 (h6 ns hs fun k => (hmem k).trans decide_eq_true_iff) (denInts ns) hq) hx⟩
end
end PL
/-! dict comprehensions: for good at once, or a cell (own work) -/
namespace PL
open PySem L2
def putKB (bs : List (Key × B)) (k : Key) (b : B) : List (Key × B) := if (bs.any fun kv => decide (kv.1 = k)) = true then bs.map (fun kv => if kv.1 = k then (kv.1, b) else kv) else bs ++ [(k, b)]
theorem DenBK.anyK {K : PySem.W.Frag} {n : Nat} {w : Wd} {k : Key} : ∀ {bs : List (Key × B)} {vs : List (Key × V)}, DenBK K n w bs vs → (bs.any fun kv => decide (kv.1 = k)) = (vs.any fun kv => decide (kv.1 = k))
  | _, _, .nil => rfl
  | _, _, .cons _ t => by rw [List.any_cons, List.any_cons, DenBK.anyK t]
theorem DenBK.put {K : PySem.W.Frag} {n : Nat} {w : Wd} {k : Key} {b : B} {v : V} (h : DenB K n w b v) {bs : List (Key × B)} {vs : List (Key × V)} (hb : DenBK K n w bs vs) : DenBK K n w (putKB bs k b) (putK vs k v) := by
  unfold putKB putK
  rw [hb.anyK (k := k)]
  have mp : ∀ {bs : List (Key × B)} {vs : List (Key × V)}, DenBK K n w bs vs → DenBK K n w (bs.map fun kv => if kv.1 = k then (kv.1, b) else kv) (vs.map fun kv => if kv.1 = k then (kv.1, v) else kv) := fun {bs vs} q => by
    induction q with
    | nil => exact .nil
    | @cons k' b' v' bs vs h' t ih =>
      rw [List.map_cons, List.map_cons]
      by_cases e : k' = k
      · rw [if_pos e, if_pos e]; exact .cons h ih
      · rw [if_neg e, if_neg e]; exact .cons h' ih
  have ap : ∀ {bs : List (Key × B)} {vs : List (Key × V)}, DenBK K n w bs vs → DenBK K n w (bs ++ [(k, b)]) (vs ++ [(k, v)]) := fun {bs vs} q => by
    induction q with
    | nil => exact .cons h .nil
    | cons h' t ih => exact .cons h' ih
  by_cases e : (vs.any fun kv => decide (kv.1 = k)) = true
  · rw [if_pos e, if_pos e]; exact mp hb
  · rw [if_neg e, if_neg e]; exact ap hb
/-- all for good -/
def asDK : List (Key × B) → (List (Key × D) → Prop) → Prop
  | [], k => k []
  | (x, .fz d) :: bs, k => asDK bs fun ds => k ((x, d) :: ds)
  | (_, .mt _) :: _, _ => False
theorem asDK_ok {K : PySem.W.Frag} {n : Nat} {w : Wd} : ∀ {bs : List (Key × B)} {vs : List (Key × V)} {k : List (Key × D) → Prop}, asDK bs k → DenBK K n w bs vs → ∃ ds, k ds ∧ DenK K w.F ds vs
  | [], _, _, h, .nil => ⟨[], h, .nil⟩
  | (x, .fz d) :: bs, _, _, h, .cons a t => by
    obtain ⟨ds, h1, h2⟩ := asDK_ok (bs := bs) h t
    exact ⟨(x, d) :: ds, h1, .cons a h2⟩
  | (_, .mt _) :: _, _, _, h, _ => (show False from h).elim
theorem asDK_map {ds : List (Key × D)} {k : List (Key × D) → Prop} (h : k ds) : asDK (ds.map fun p => (p.1, B.fz p.2)) k := by
  induction ds generalizing k with
  | nil => exact h
  | cons d ds ih => exact ih (k := fun ds => k (d :: ds)) h
def dcW (g : FG) (ft : FT) (fk fv : FE) (Γ0 : Ev) : List D → List (Key × B) → Sto → (List (Key × B) → Sto → Prop) → Prop
  | [], acc, S, R => R acc S
  | d :: ds, acc, S, R => g (.fz d) Γ0 S fun Γ1 S1 => ft Γ1 S1 noX fun k S2 => cnd k (fk Γ1 S2 noX fun bk S3 => fv Γ1 S3 noX fun bv S4 => match bk with
      | .fz x => optK (keyD x) fun y => acc.length < sizeLine ∧ dcW g ft fk fv Γ0 ds (putKB acc y bv) S4 R
      | .mt _ => False) (dcW g ft fk fv Γ0 ds acc S2 R)
theorem putKB_len (bs : List (Key × B)) (k : Key) (b : B) : (putKB bs k b).length ≤ bs.length + 1 := by
  unfold putKB
  by_cases e : (bs.any fun kv => decide (kv.1 = k)) = true
  · rw [if_pos e, List.length_map]; exact Nat.le_succ _
  · rw [if_neg e, List.length_append]; exact Nat.le_refl _
theorem dc_run {K : PySem.W.Frag} {E : XK} {wi : TI} {tgt : TG} {tt : TT} {tk tv : TE} {vs : List Nat} {fi : FI} {g : FG} {ft : FT} {fk fv : FE} {is : List Nat} {β : Base} {S0 : Sto} {w0 : Wd} {σ : St} {Γ : Ev} {Rx : XP} {fin : List (Key × B) → Sto → Prop} {Q0 : VK}
    (hi : SndI K E wi fi) (hg : SndG K tgt g is) (hin : ∀ i ∈ is, i ∈ vs) (ht : SndT K (fun _ _ _ => False) tt ft) (hk : SndE K (fun _ _ _ => False) tk fk) (hv : SndE K (fun _ _ _ => False) tv fv)
    (R0 : Rel K β S0 w0) (hG : EvOk K S0.length w0 Γ σ) (hx : XOk K E β S0.length w0 Rx) (hf : fi Γ S0 Rx fun ds S1 => dcW g ft fk fv (EvWipe Γ vs) ds [] S1 fin)
    (hfin : ∀ S w out D us, Rel K β S w → Later S0.length w0 S.length w → fin out S → DenBK K S.length w out us → w.H D = some (.dK us) → w.F D = none → β.H0 D = none → (∀ k c, S[k]? = some c → c ≠ .dead → w.m k ≠ D) → Q0 (.ref D) w.H) :
    tDc wi tgt tt tk tv vs σ w0.H Q0 :=
  hi β S0 w0 σ Γ Rx _ _ R0 hG hf (fun ds S1 w1 J h1 R1 l1 zs it D hD => by
    have G1 := (hG.later l1).wipe vs
    obtain ⟨R2, l2⟩ := R1.updFree (o := .dK []) (R1.fr.free hD) (R1.keep.free hD) (R1.freshL hD)
    refine ⟨fun i m H => m = ds.length - i ∧ i ≤ ds.length ∧ ∃ S w acc us, w.H = H ∧ Rel K β S w ∧ Later S1.length w1 S.length w ∧ w.H D = some (.dK us) ∧ DenBK K S.length w acc us ∧ w.F D = none ∧ β.H0 D = none ∧ (∀ k c, S[k]? = some c → c ≠ .dead → w.m k ≠ D) ∧ dcW g ft fk fv (EvWipe Γ vs) (ds.drop i) acc S fin,
      ⟨ds.length, rfl, Nat.zero_le _, S1, _, [], [], rfl, R2, l2, upd_same, .nil, R1.fr.free hD, R1.keep.free hD, R1.freshL hD, h1⟩, ?_⟩
    rintro i m _ ⟨rfl, hi, S, w, acc, us, rfl, hR, l, hw, hacc, hF, h0, hl, h⟩
    cases hd : ds.drop i with
    | nil =>
      rw [hd] at h
      have hle : ds.length ≤ i := by
        have := congrArg List.length hd
        rw [List.length_drop] at this
        have z : ([] : List PL.D).length = 0 := rfl
        omega
      exact .inl ⟨it.stop S w hR l i hle, hfin S w acc D us hR (l1.trans l) h hacc hw hF h0 hl⟩
    | cons d r =>
      rw [hd] at h
      obtain ⟨hx, hr⟩ := drop_at hd
      obtain ⟨go, y⟩ := it.go S w hR l i d hx
      have hlt := get_lt hx
      refine .inr ⟨go, fun H' => ∃ S w acc us, w.H = H' ∧ Rel K β S w ∧ Later S1.length w1 S.length w ∧ w.H D = some (.dK us) ∧ DenBK K S.length w acc us ∧ w.F D = none ∧ β.H0 D = none ∧ (∀ k c, S[k]? = some c → c ≠ .dead → w.m k ≠ D) ∧ dcW g ft fk fv (EvWipe Γ vs) r acc S fin,
        fun H' ⟨S, w, acc, us, q1, q2, q3, q4, q5, q6, q7, q8, q10⟩ => ⟨ds.length - (i + 1), by omega, rfl, hlt, S, w, acc, us, q1, q2, q3, q4, q5, q6, q7, q8, by rw [hr]; exact q10⟩, fun x H' hy => ?_⟩
      obtain ⟨w2, rfl, R2, l2, sm, d2⟩ := y x H' hy
      have hw2 := sm.1 _ _ hw
      have hF2 : w2.F D = none := by
        cases q : w2.F D with
        | none => rfl
        | some o =>
          rcases sm.2 D o q with z | z
          · rw [hF] at z; cases z
          · rw [hw] at z; cases z
      have hl2 : ∀ k c, S[k]? = some c → c ≠ .dead → w2.m k ≠ D := fun k c h1 h2 e => by
        rw [l2.m k (get_lt h1)] at e
        exact hl k c h1 h2 e
      have G2 := ((hG.later (l1.trans l)).later l2).wipe vs
      have kept : ∀ {S' : Sto} {w' : Wd}, Rel K (reb S w2) S' w' → w'.H D = some (.dK us) ∧ w'.F D = none ∧ (∀ k c, S'[k]? = some c → c ≠ .dead → w'.m k ≠ D) := fun {S' w'} R' => by
        have hD0 : (reb S w2).H0 D = some (.dK us) := reb_of hw2 hl2
        refine ⟨R'.keep _ _ hD0, ?_, fun k c h1 h2 e => ?_⟩
        · cases q : w'.F D with
          | none => rfl
          | some o =>
            rcases R'.fn D o q with z | z
            · have z : w2.F D = some o := z
              rw [hF2] at z; cases z
            · rw [hD0] at z; cases z
        · have := (R'.live k c h1 h2).n0
          rw [e, hD0] at this
          cases this
      have back : ∀ {S' : Sto} {w' : Wd}, Rel K (reb S w2) S' w' → Rel K β S' w' ∧ Later S.length w S'.length w' := fun R' => by
        obtain ⟨a1, a2⟩ := R2.unreb R'
        exact ⟨a1, l2.trans a2⟩
      refine hg (reb S w2) S w2 _ (EvWipe Γ vs) (.fz d) x _ _ R2.reb G2 d2 h fun Γ3 S3 w3 σ3 h3 R3 l3 G3 wp => ⟨(wp vs hin).trans (wipe_sub σ vs vs fun _ h => h), ?_⟩
      refine ht (reb S w2) S3 w3 σ3 Γ3 noX _ _ R3 G3 h3 (fun k S4 w4 h4 R4 l4 => ?_) xok_no
      cases k with
      | false =>
        obtain ⟨k1, k2, k3⟩ := kept R4
        obtain ⟨b1, b2⟩ := back R4
        exact ⟨S4, w4, acc, us, rfl, b1, l.trans b2, k1, hacc.later b2, k2, h0, k3, h4⟩
      | true =>
        refine hk (reb S w2) S4 w4 σ3 Γ3 noX _ _ R4 (G3.later l4) h4 (fun bk S5 w5 vk h5 R5 l5 d5 => ?_) xok_no
        refine hv (reb S w2) S5 w5 σ3 Γ3 noX _ _ R5 (G3.later (l4.trans l5)) h5 (fun bv S6 w6 vv h6 R6 l6 d6 => ?_) xok_no
        cases bk with
        | mt _ => exact (show False from h6).elim
        | fz xk =>
          obtain ⟨yk, e1, hz, h7⟩ := optK_ok h6
          obtain rfl := keyD_ok (show Den K w5.F xk vk from d5) e1
          obtain ⟨k1, k2, k3⟩ := kept R6
          obtain ⟨b1, b2⟩ := back R6
          have la := hacc.length
          obtain ⟨R7, l7⟩ := b1.updFree (o := .dK (putK us yk vv)) k2 h0 k3
          exact ⟨us, yk, rfl, k1, by omega, S6, _, putKB acc yk bv, putK us yk vv, rfl, R7, l.trans (b2.trans l7), upd_same, DenBK.put (d6.later l7) ((hacc.later b2).later l7), k2, h0, k3, h7⟩) hx
/-- a new dict, locked at once -/
def tLock (t : TE) : TE := fun σ H Q => t σ H fun v H1 => ∃ a kvs, v = .ref a ∧ H1 a = some (.dK kvs) ∧ ∀ o, Q v (upd H1 a (.frz o (.dK kvs)))
theorem pe_lock {X : Cx} {e : Expr} {t : TE} (h : PE X e t) : PE X e (tLock t) :=
  ⟨fun pins s σ H Q I hw => thn (h.run pins s σ H _ I hw) fun u s1 ⟨v, H1, I1, rv, a, kvs, ev, ha, hq⟩ => by
    obtain ⟨od, I2⟩ := I1.lock ha (by trivial)
    exact ⟨v, _, I2, rv, hq od⟩⟩
end PL
namespace PL
open PySem L2
/-- a new thing, locked: for good -/
theorem Rel.lockF {K : PySem.W.Frag} {β : Base} {S : Sto} {w : Wd} (hR : Rel K β S w) {D : Addr} (hF : w.F D = none) (h0 : β.H0 D = none) (hl : ∀ k c, S[k]? = some c → c ≠ .dead → w.m k ≠ D) (o : HO) :
    Rel K β S ⟨w.m, upd w.F D o, upd w.H D o⟩ ∧ Later S.length w S.length ⟨w.m, upd w.F D o, upd w.H D o⟩ := by
  obtain ⟨R2, l2⟩ := hR.updFree (o := o) hF h0 hl
  obtain ⟨R3, l3⟩ := R2.adoptF (D := D) (o := o) upd_same hF h0 hl
  exact ⟨R3, l2.trans l3⟩
section
variable {X : Cx} {E : XK} {kx vx tg iter : Expr} {ifs : List Expr} {scope : Scope} {own : List (Str × Nat)} {fi : FI} {g : FG} {ft : FT} {fk fv : FE} {pos : Pos} {is : List Nat}
def eDc (fi : FI) (g : FG) (ft : FT) (fk fv : FE) (is : List Nat) : FE := fun Γ S Rx R => fi Γ S Rx fun ds S1 => dcW g ft fk fv (EvWipe Γ is) ds [] S1 fun out S2 => asDK out fun os => R (.fz (.dic os)) S2
def eDcM (fi : FI) (g : FG) (ft : FT) (fk fv : FE) (is : List Nat) : FE := fun Γ S Rx R => fi Γ S Rx fun ds S1 => dcW g ft fk fv (EvWipe Γ is) ds [] S1 fun out S2 => R (.mt S2.length) (S2 ++ [.dic out])
theorem x_dc (hc : X.calm = true) (hN : X.N.Nodup) (hi : XI X E tg iter fi) (ok : BlkOk X.N X.env.scope scope own) (hin : ∀ i ∈ is, i ∈ own.map (·.2))
    (hg : ∀ c : Ctx5, XG (X.blk c.1 c.2.1 scope (compEnvC scope c.2.2.2.1 c.2.2.1 X.env) c.2.2.2.2) tg g is)
    (ht : ∀ c : Ctx5, XIfs (X.blk c.1 c.2.1 scope (compEnvC scope c.2.2.2.1 c.2.2.1 X.env) c.2.2.2.2) ifs ft)
    (hk : ∀ c : Ctx5, XE (X.blk c.1 c.2.1 scope (compEnvC scope c.2.2.2.1 c.2.2.1 X.env) c.2.2.2.2) (fun _ _ _ => False) kx fk)
    (hv : ∀ c : Ctx5, XE (X.blk c.1 c.2.1 scope (compEnvC scope c.2.2.2.1 c.2.2.1 X.env) c.2.2.2.2) (fun _ _ _ => False) vx fv)
    (hs : ∀ x, foldedSetIterable iter X.env x = pure x := by intro _; rfl) : XE X E (.DictComp kx vx [⟨tg, iter, ifs, 0⟩] scope pos) (eDc fi g ft fk fv (own.map (·.2))) :=
  let ⟨_, o, r⟩ := hi.ex
  let ⟨_, p, s⟩ := allG (Xf := fun c : Ctx5 => X.blk c.1 c.2.1 scope (compEnvC scope c.2.2.2.1 c.2.2.1 X.env) c.2.2.2.2) (K := X.K) (fun _ => rfl) hg
  let ⟨_, q, t⟩ := allIf (Xf := fun c : Ctx5 => X.blk c.1 c.2.1 scope (compEnvC scope c.2.2.2.1 c.2.2.1 X.env) c.2.2.2.2) (K := X.K) (fun _ => rfl) ht
  let ⟨_, u, v⟩ := allE (Xf := fun c : Ctx5 => X.blk c.1 c.2.1 scope (compEnvC scope c.2.2.2.1 c.2.2.1 X.env) c.2.2.2.2) (K := X.K) (fun _ => rfl) hk
  let ⟨_, u2, v2⟩ := allE (Xf := fun c : Ctx5 => X.blk c.1 c.2.1 scope (compEnvC scope c.2.2.2.1 c.2.2.1 X.env) c.2.2.2.2) (K := X.K) (fun _ => rfl) hv
  ⟨_, pe_lock (pe_dc hc hN o ok (fun s H C cl fp => p (s, H, C, cl, fp)) (fun s H C cl fp => q (s, H, C, cl, fp)) (fun s H C cl fp => u (s, H, C, cl, fp)) (fun s H C cl fp => u2 (s, H, C, cl, fp)) hs),
    fun β S w σ Γ Rx R Q hR hG hf hk hx => dc_run r s hin t v v2 hR hG hx hf fun S2 w2 out D us R2 l2 h hacc hw hF h0 hl => ⟨D, us, rfl, hw, fun ob => by
      obtain ⟨os, h3, h4⟩ := asDK_ok h hacc
      obtain ⟨R3, l3⟩ := R2.lockF hF h0 hl (.frz ob (.dK us))
      exact (hk.later l2) _ S2 _ (.ref D) h3 R3 l3 (Den.dic (vs := us) upd_same (DenK.mono l3.F h4))⟩⟩
theorem x_dcM (hc : X.calm = true) (hN : X.N.Nodup) (hi : XI X E tg iter fi) (ok : BlkOk X.N X.env.scope scope own) (hin : ∀ i ∈ is, i ∈ own.map (·.2))
    (hg : ∀ c : Ctx5, XG (X.blk c.1 c.2.1 scope (compEnvC scope c.2.2.2.1 c.2.2.1 X.env) c.2.2.2.2) tg g is)
    (ht : ∀ c : Ctx5, XIfs (X.blk c.1 c.2.1 scope (compEnvC scope c.2.2.2.1 c.2.2.1 X.env) c.2.2.2.2) ifs ft)
    (hk : ∀ c : Ctx5, XE (X.blk c.1 c.2.1 scope (compEnvC scope c.2.2.2.1 c.2.2.1 X.env) c.2.2.2.2) (fun _ _ _ => False) kx fk)
    (hv : ∀ c : Ctx5, XE (X.blk c.1 c.2.1 scope (compEnvC scope c.2.2.2.1 c.2.2.1 X.env) c.2.2.2.2) (fun _ _ _ => False) vx fv)
    (hs : ∀ x, foldedSetIterable iter X.env x = pure x := by intro _; rfl) : XE X E (.DictComp kx vx [⟨tg, iter, ifs, 0⟩] scope pos) (eDcM fi g ft fk fv (own.map (·.2))) :=
  let ⟨_, o, r⟩ := hi.ex
  let ⟨_, p, s⟩ := allG (Xf := fun c : Ctx5 => X.blk c.1 c.2.1 scope (compEnvC scope c.2.2.2.1 c.2.2.1 X.env) c.2.2.2.2) (K := X.K) (fun _ => rfl) hg
  let ⟨_, q, t⟩ := allIf (Xf := fun c : Ctx5 => X.blk c.1 c.2.1 scope (compEnvC scope c.2.2.2.1 c.2.2.1 X.env) c.2.2.2.2) (K := X.K) (fun _ => rfl) ht
  let ⟨_, u, v⟩ := allE (Xf := fun c : Ctx5 => X.blk c.1 c.2.1 scope (compEnvC scope c.2.2.2.1 c.2.2.1 X.env) c.2.2.2.2) (K := X.K) (fun _ => rfl) hk
  let ⟨_, u2, v2⟩ := allE (Xf := fun c : Ctx5 => X.blk c.1 c.2.1 scope (compEnvC scope c.2.2.2.1 c.2.2.1 X.env) c.2.2.2.2) (K := X.K) (fun _ => rfl) hv
  ⟨_, pe_dc hc hN o ok (fun s H C cl fp => p (s, H, C, cl, fp)) (fun s H C cl fp => q (s, H, C, cl, fp)) (fun s H C cl fp => u (s, H, C, cl, fp)) (fun s H C cl fp => u2 (s, H, C, cl, fp)) hs,
    fun β S w σ Γ Rx R Q hR hG hf hk hx => dc_run r s hin t v v2 hR hG hx hf fun S2 w2 out D us R2 l2 h hacc hw hF h0 hl => by
      obtain ⟨R3, l3⟩ := R2.adoptC (c := .dic out) ⟨us, hw, hacc⟩ (by intro z; cases z) hF h0 hl
      exact (hk.later l2) _ _ ⟨fun k => if k = S2.length then D else w2.m k, w2.F, w2.H⟩ (.ref D) h R3 l3 ⟨by rw [List.length_append]; exact Nat.lt_succ_self _, congrArg V.ref (if_pos rfl).symm⟩⟩
end
end PL
/-! dicts that are read (own work) -/
namespace PL
open PySem L2
def valB (bs : List (Key × B)) (k : Key) : Option B := (bs.find? fun kv => decide (kv.1 = k)).map (·.2)
section
variable {K : PySem.W.Frag} {β : Base} {S : Sto} {w : Wd} {n : Nat}
theorem DenBK.val {k : Key} : ∀ {bs : List (Key × B)} {vs : List (Key × V)}, DenBK K n w bs vs → (valB bs k = none ∧ valV vs k = none) ∨ ∃ b v, valB bs k = some b ∧ valV vs k = some v ∧ DenB K n w b v
  | _, _, .nil => .inl ⟨rfl, rfl⟩
  | _, _, @DenBK.cons _ _ _ k' b v bs vs h t => by
    by_cases e : k' = k
    · refine .inr ⟨b, v, ?_, valV_pos (p := (k', v)) e, h⟩
      unfold valB
      rw [List.find?_cons_of_pos (by exact decide_eq_true e)]
      rfl
    · have e1 : valB ((k', b) :: bs) k = valB bs k := by
        unfold valB
        rw [List.find?_cons_of_neg (by show ¬ decide (k' = k) = true; rw [decide_eq_true_eq]; exact e)]
      rw [e1, valV_neg (p := (k', v)) e]
      exact DenBK.val t
theorem DenK.bzK : ∀ {ds : List (Key × D)} {vs : List (Key × V)}, DenK K w.F ds vs → DenBK K n w (ds.map fun p => (p.1, B.fz p.2)) vs
  | _, _, .nil => .nil
  | _, _, .cons h t => .cons (b := .fz _) h (DenK.bzK t)
/-- a dict's rows -/
def dicAt (b : B) (S : Sto) (k : List (Key × B) → Prop) : Prop := match b with
  | .fz (.dic ds) => k (ds.map fun p => (p.1, B.fz p.2))
  | .mt j => (match S[j]? with
    | some (.dic bs) => k bs
    | _ => False)
  | _ => False
theorem dicAt_ok {b : B} {v : V} {k : List (Key × B) → Prop} (hR : Rel K β S w) (hb : DenB K S.length w b v) (h : dicAt b S k) : ∃ a bs us, v = .ref a ∧ Rd w.H a (.dK us) ∧ DenBK K S.length w bs us ∧ k bs := by
  cases b with
  | fz y =>
    have hb : Den K w.F y v := hb
    cases hb with
    | dic h1 h2 => exact ⟨_, _, _, rfl, .inr ⟨_, hR.fr _ _ h1⟩, h2.bzK, h⟩
    | _ => exact (show False from h).elim
  | mt j =>
    obtain ⟨_, rfl⟩ := hb
    have g : (match S[j]? with
      | some (.dic bs) => k bs
      | _ => False) := h
    clear h
    cases hc : S[j]? with
    | none => rw [hc] at g; exact g.elim
    | some cl =>
      rw [hc] at g
      cases cl with
      | dic bs =>
        obtain ⟨us, h3, h4⟩ := hR.cellD hc
        exact ⟨_, bs, us, rfl, .inl h3, h4, g⟩
      | _ => exact (show False from g).elim
end
section
variable {X : Cx} {E : XK} {o i e f : Expr} {fo fi fe ff : FE} {pos apos cpos : Pos}
theorem dget {K : PySem.W.Frag} {H : Hp} {a : Addr} {us : List (Key × V)} {k : Key} (h : Rd H a (.dK us)) : DGet H a (kV k) (valV us k) := .inl ⟨us, k, h, rfl, rfl⟩
/-- d[i] -/
def eDIx (fo fi : FE) : FE := fun Γ S Rx R => fo Γ S Rx fun b S1 => fi Γ S1 Rx fun c S2 => match c with
  | .fz x => optK (keyD x) fun y => dicAt b S2 fun bs => optK (valB bs y) fun z => R z S2
  | .mt _ => False
theorem xdix (hu : X.A.units + 1 < cLine) (ho : XE X E o fo) (hi : XE X E i fi) (hs : NoSl i) : XE X E (.Subscript o i pos) (eDIx fo fi) :=
  let ⟨_, p, s⟩ := ho.ex; let ⟨_, q, t⟩ := hi.ex
  ⟨_, pe_dget hu p q hs, fun β S w σ Γ Rx R Q hR hG hf hk hx => s β S w σ Γ Rx _ _ hR hG hf (fun b S1 w1 v h1 R1 l1 d1 => t β S1 w1 σ Γ Rx _ _ R1 (hG.later l1) h1 (fun c S2 w2 u h2 R2 l2 d2 => by
    cases c with
    | mt _ => exact (show False from h2).elim
    | fz x =>
      obtain ⟨y, e1, h3⟩ := optK_ok h2
      obtain rfl := keyD_ok (show Den X.K w2.F x u from d2) e1
      obtain ⟨a, bs, us, rfl, h4, h5, h6⟩ := dicAt_ok R2 (d1.later l2) h3
      obtain ⟨z, e2, h7⟩ := optK_ok h6
      rcases h5.val (k := y) with ⟨e3, _⟩ | ⟨z', v', e3, e4, d3⟩
      · rw [e3] at e2; cases e2
      · rw [e3] at e2; cases e2
        exact ⟨a, v', rfl, e4 ▸ dget (K := X.K) h4, hk _ S2 w2 v' h7 R2 (l1.trans l2) d3⟩) (hx.later l1)) hx⟩
/-- i in d -/
def eDIn (neg : Bool) (fi fo : FE) : FE := fun Γ S Rx R => fi Γ S Rx fun c S1 => fo Γ S1 Rx fun b S2 => match c with
  | .fz x => optK (keyD x) fun y => dicAt b S2 fun bs => R (.fz (.bl (neg != (valB bs y).isSome))) S2
  | .mt _ => False
theorem din_core {β : Base} {S : Sto} {w : Wd} {σ : St} {Γ : Ev} {Rx : XP} {R : RB} {Q : VK} {ti to : TE} {neg : Bool} {K : PySem.W.Frag} (t : SndE K E ti fi) (s : SndE K E to fo) (hR : Rel K β S w) (hG : EvOk K S.length w Γ σ) (hf : eDIn neg fi fo Γ S Rx R) (hk : KOk K β S.length w R Q) (hx : XOk K E β S.length w Rx) :
    ti σ w.H fun y H1 => to σ H1 fun x H2 => ∃ a ob, x = .ref a ∧ DGet H2 a y ob ∧ Q (.bl (neg != ob.isSome)) H2 :=
  t β S w σ Γ Rx _ _ hR hG hf (fun c S1 w1 u h1 R1 l1 d1 => s β S1 w1 σ Γ Rx _ _ R1 (hG.later l1) h1 (fun b S2 w2 v h2 R2 l2 d2 => by
    cases c with
    | mt _ => exact (show False from h2).elim
    | fz x =>
      obtain ⟨y, e1, h3⟩ := optK_ok h2
      obtain rfl := keyD_ok (show Den K w1.F x u from d1) e1
      obtain ⟨a, bs, us, rfl, h4, h5, h6⟩ := dicAt_ok R2 d2 h3
      refine ⟨a, valV us y, rfl, dget (K := K) h4, ?_⟩
      have e : (valV us y).isSome = (valB bs y).isSome := by
        rcases h5.val (k := y) with ⟨e3, e4⟩ | ⟨z', v', e3, e4, _⟩ <;> rw [e3, e4] <;> rfl
      rw [e]
      exact (hk.later (l1.trans l2)).fz R2 h6 (.bl _)) (hx.later l1)) hx
theorem xt_din (hu : X.A.units + 1 < cLine) (hi : XE X E i fi) (ho : XE X E o fo) (hm : behindInMarks .In o = false) : XT X E (.Compare i [.In] [o] pos) (tBl (eDIn false fi fo)) :=
  let ⟨_, q, t⟩ := hi.ex; let ⟨_, p, s⟩ := ho.ex
  ⟨_, pt_cmp (pc_din hu q p) hm, sndT_bl fun β S w σ Γ Rx R Q hR hG hf hk hx => by
    have z := din_core (neg := false) t s hR hG hf hk hx
    simp only [Bool.false_bne] at z
    exact z⟩
theorem xt_dnotin (hu : X.A.units + 1 < cLine) (hi : XE X E i fi) (ho : XE X E o fo) (hm : behindInMarks .NotIn o = false) : XT X E (.Compare i [.NotIn] [o] pos) (tBl (eDIn true fi fo)) :=
  let ⟨_, q, t⟩ := hi.ex; let ⟨_, p, s⟩ := ho.ex
  ⟨_, pt_cmp (pc_dnotin hu q p) hm, sndT_bl fun β S w σ Γ Rx R Q hR hG hf hk hx => by
    have z := din_core (neg := true) t s hR hG hf hk hx
    simp only [Bool.true_bne] at z
    exact z⟩
theorem x_din (hu : X.A.units + 1 < cLine) (hi : XE X E i fi) (ho : XE X E o fo) (hm : behindInMarks .In o = false) : XE X E (.Compare i [.In] [o] pos) (eDIn false fi fo) :=
  let ⟨_, q, t⟩ := hi.ex; let ⟨_, p, s⟩ := ho.ex
  ⟨_, pe_cmp (pc_din hu q p) hm, fun β S w σ Γ Rx R Q hR hG hf hk hx => by
    have z := din_core (neg := false) t s hR hG hf hk hx
    simp only [Bool.false_bne] at z
    exact z⟩
theorem x_dnotin (hu : X.A.units + 1 < cLine) (hi : XE X E i fi) (ho : XE X E o fo) (hm : behindInMarks .NotIn o = false) : XE X E (.Compare i [.NotIn] [o] pos) (eDIn true fi fo) :=
  let ⟨_, q, t⟩ := hi.ex; let ⟨_, p, s⟩ := ho.ex
  ⟨_, pe_cmp (pc_dnotin hu q p) hm, fun β S w σ Γ Rx R Q hR hG hf hk hx => by
    have z := din_core (neg := true) t s hR hG hf hk hx
    simp only [Bool.true_bne] at z
    exact z⟩
/-- d.get(e, f) -/
def eDGet2 (fo fe ff : FE) : FE := fun Γ S Rx R => fo Γ S Rx fun b S1 => dicAt b S1 (fun _ => True) ∧ fe Γ S1 Rx fun c S2 => ff Γ S2 Rx fun d S3 => match c with
  | .fz x => optK (keyD x) fun y => dicAt b S3 fun bs => R ((valB bs y).getD d) S3
  | .mt _ => False
theorem xdget2 (hu : X.A.units + 1 < cLine) (m : M2 X o "get" apos e f cpos) (ho : XE X E o fo) (he : XE X E e fe) (hf : XE X E f ff) : XE X E (.Call (.Attribute o "get" apos) [e, f] [] cpos) (eDGet2 fo fe ff) :=
  let ⟨_, p, s⟩ := ho.ex; let ⟨_, q, t⟩ := he.ex; let ⟨_, r, t2⟩ := hf.ex
  ⟨_, pe_dget2 hu p q r m, fun β S w σ Γ Rx R Q hR hG hf hk hx => s β S w σ Γ Rx _ _ hR hG hf (fun b S1 w1 v h1 R1 l1 d1 => by
    obtain ⟨a, bs, us, rfl, h4, _, _⟩ := dicAt_ok R1 d1 h1.1
    refine ⟨a, rfl, .inl ⟨us, h4⟩, t β S1 w1 σ Γ Rx _ _ R1 (hG.later l1) h1.2 (fun c S2 w2 u h2 R2 l2 d2 => t2 β S2 w2 σ Γ Rx _ _ R2 (hG.later (l1.trans l2)) h2 (fun d S3 w3 z h3 R3 l3 d3 => ?_) (hx.later (l1.trans l2))) (hx.later l1)⟩
    cases c with
    | mt _ => exact (show False from h3).elim
    | fz x =>
      obtain ⟨y, e1, h5⟩ := optK_ok h3
      obtain rfl := keyD_ok (show Den X.K w2.F x u from d2) e1
      obtain ⟨a', bs2, us2, e2, h6, h7, h8⟩ := dicAt_ok R3 ((d1.later l2).later l3) h5
      cases e2
      refine ⟨valV us2 y, dget (K := X.K) h6, ?_⟩
      rcases h7.val (k := y) with ⟨e3, e4⟩ | ⟨z', v', e3, e4, d4⟩
      · rw [e3] at h8; rw [e4]; exact hk _ S3 w3 z h8 R3 ((l1.trans l2).trans l3) d3
      · rw [e3] at h8; rw [e4]; exact hk _ S3 w3 v' h8 R3 ((l1.trans l2).trans l3) d4) hx⟩
end
end PL
/-! the rows of a dict, walked; list(d) (own work) -/
namespace PL
open PySem L2
def keyV : Key → D
  | .inl i => .int i
  | .inr z => .str z
section
variable {K : PySem.W.Frag} {F : Hp}
theorem den_key : ∀ k : Key, Den K F (keyV k) (kV k)
  | .inl i => .int i
  | .inr z => .str z
theorem DenK.getK : ∀ {ds : List (Key × D)} {vs : List (Key × V)}, DenK K F ds vs → ∀ {i : Nat} {p : Key × D}, ds[i]? = some p → ∃ v, vs[i]? = some (p.1, v) ∧ Den K F p.2 v
  | _, _, .nil, _, _, h => by cases h
  | _, _, .cons a _, 0, _, h => by cases h; exact ⟨_, rfl, a⟩
  | _, _, .cons _ t, i + 1, _, h => DenK.getK t (i := i) h
theorem DenK.lengthK : ∀ {ds : List (Key × D)} {vs : List (Key × V)}, DenK K F ds vs → ds.length = vs.length
  | _, _, .nil => rfl
  | _, _, .cons _ t => congrArg (· + 1) (DenK.lengthK t)
def rowD (p : Key × D) : D := .tup [keyV p.1, p.2]
theorem row_at {ds : List (Key × D)} {i : Nat} {x : D} (h : (ds.map rowD)[i]? = some x) : ∃ p, ds[i]? = some p ∧ x = rowD p := by
  rw [List.getElem?_map] at h
  cases q : ds[i]? with
  | none => rw [q] at h; cases h
  | some p => rw [q] at h; cases h; exact ⟨p, rfl, rfl⟩
end
section
variable {X : Cx} {E : XK} {e : Expr} {fe : FE} {elts : List Expr} {kk : Nat} {tpos apos cpos : Pos}
def iDItems (fe : FE) : FI := fun Γ S Rx R => fe Γ S Rx fun b S1 => match b with
  | .fz (.dic ds) => ds.length ≤ sizeLine ∧ R (ds.map rowD) S1
  | _ => False
theorem xi_items (he : XE X E e fe) (hbase : attributeBase e "items" X.env (eval e X.env) = eval e X.env := by rfl) (hline : (apos.endLine == cpos.line) = true := by rfl) : XI X E (.Tuple elts kk tpos) (.Call (.Attribute e "items" apos) [] [] cpos) (iDItems fe) :=
  let ⟨_, p, s⟩ := he.ex
  ⟨_, pi_items p hbase hline, fun β S w σ Γ Rx R Q hR hG hf hk hx => s β S w σ Γ Rx _ _ hR hG hf (fun b S1 w1 v h1 R1 l1 d1 => by
    cases b with
    | mt _ => exact (show False from h1).elim
    | fz y =>
      have d1 : Den X.K w1.F y v := d1
      cases d1 with
      | @dic a o ds vs h2 h3 =>
        refine ⟨a, o, vs, rfl, R1.fr _ _ h2, hk _ S1 w1 _ h1.2 R1 l1 (by rw [List.length_map]; exact h1.1) ⟨fun S' w' R' l' i d hd => ?_, fun S' w' R' l' i hi => ⟨R'.fr _ _ (l'.F _ _ h2), by rw [List.length_map] at hi; rw [← h3.lengthK]; exact hi⟩⟩⟩
        obtain ⟨p, hp, rfl⟩ := row_at hd
        obtain ⟨v, hv, dv⟩ := (DenK.mono l'.F h3).getK hp
        refine ⟨⟨R'.fr _ _ (l'.F _ _ h2), get_lt hv⟩, fun x H' ⟨T, k', v', e1, e2, e3, e4⟩ => ?_⟩
        rw [hv] at e1
        cases e1
        subst e2 e4
        exact new_pair R' e3 (den_key p.1) dv
      | _ => exact (show False from h1).elim) hx⟩
end
section
variable {K : PySem.W.Frag}
def gListD : GL := fun bs S R => match bs with
  | [b] => dicAt b S fun rows => R (.fz (.lst (rows.map fun p => keyV p.1))) S
  | _ => False
theorem den_keys {n : Nat} {w : Wd} : ∀ {bs : List (Key × B)} {vs : List (Key × V)}, DenBK K n w bs vs → DenL K w.F (bs.map fun p => keyV p.1) (vs.map fun kv => kV kv.1)
  | _, _, .nil => .nil
  | _, _, .cons _ t => .cons (den_key _) (den_keys t)
theorem snd_listD : SndL K (fun xs H Q => ∃ (a : Addr) (kvs : List (Key × V)), xs = [.ref a] ∧ Rd H a (.dK kvs) ∧ ∀ p, H p = none → Q (.ref p) (upd H p (.lst (kvs.map fun kv => kV kv.1)))) gListD := fun β S w bs vs R Q hR hb hg hk => by
  match bs, hg, hb with
  | [b], hg, hb =>
    obtain ⟨v, rfl, h1⟩ := hb.one
    obtain ⟨a, rows, us, rfl, h2, h3, h4⟩ := dicAt_ok (k := fun rows => R (.fz (.lst (rows.map fun p : Key × B => keyV p.1))) S) hR h1 hg
    exact ⟨a, us, rfl, h2, fun p hp => hk.newL hR h4 (den_keys h3) hp⟩
end
end PL
namespace PL
open PySem L2
theorem unit1 {X : Cx} (h : X.A.units + 64 < cLine) : X.A.units + 1 < cLine := by omega
end PL
/-! dicts that change: {}, d.setdefault(k, []), for good with their lists (own work) -/
namespace PL
open PySem L2
section
variable {K : PySem.W.Frag} {β : Base} {S : Sto} {w : Wd}
/-- the rows for good, the lists in them too -/
def rowsD : Sto → List (Key × B) → (List (Key × D) → Sto → Prop) → Prop
  | S, [], k => k [] S
  | S, (x, .fz d) :: r, k => rowsD S r fun ds S' => k ((x, d) :: ds) S'
  | S, (x, .mt j) :: r, k => match S[j]? with
    | some (.lst bs) => asDs bs fun es => rowsD (S.set j .dead) r fun ds S' => k ((x, .lst es) :: ds) S'
    | _ => False
theorem rows_frz : ∀ {rows : List (Key × B)} {us : List (Key × V)} {S : Sto} {w : Wd} {k : List (Key × D) → Sto → Prop}, Rel K β S w → DenBK K S.length w rows us → rowsD S rows k →
    ∃ ds S' F', S'.length = S.length ∧ Rel K β S' ⟨w.m, F', w.H⟩ ∧ Later S.length w S'.length ⟨w.m, F', w.H⟩ ∧ DenK K F' ds us ∧ (∀ (i : Nat) (c : Cell), S[i]? = some c → (∀ bs : List B, c ≠ Cell.lst bs) → S'[i]? = some c) ∧ k ds S'
  | [], _, S, w, _, hR, .nil, h => ⟨[], S, w.F, rfl, hR, .refl _ _, .nil, fun _ _ e _ => e, h⟩
  | (x, .fz d) :: r, _, S, w, _, hR, .cons a t, h => by
    obtain ⟨ds, S', F', h1, h2, h3, h4, h5, h6⟩ := rows_frz (rows := r) hR t h
    exact ⟨(x, d) :: ds, S', F', h1, h2, h3, .cons (Den.mono h3.F a) h4, h5, h6⟩
  | (x, .mt j) :: r, _, S, w, k, hR, .cons a t, h => by
    obtain ⟨bs, e1, h1⟩ := cell_lst (f := fun bs => asDs bs fun es => rowsD (S.set j .dead) r fun ds S' => k ((x, .lst es) :: ds) S') h
    obtain ⟨es, rfl, h2⟩ := asDs_eq h1
    obtain ⟨vs, h3, h4⟩ := hR.cellL e1
    obtain ⟨R1, l1⟩ := hR.freeze e1 (by intro z; cases z) h3
    obtain ⟨ds, S', F', q1, q2, q3, q4, q5, q6⟩ := rows_frz (rows := r) R1 (t.later l1) h2
    obtain ⟨_, rfl⟩ := a
    have hd : Den K F' (.lst es) (.ref (w.m j)) := Den.mono q3.F (Den.lst upd_same (DenL.mono l1.F h4.fz))
    refine ⟨(x, .lst es) :: ds, S', F', by rw [q1, List.length_set], q2, l1.trans q3, .cons hd q4, fun i c e ne => q5 i c ?_ ne, q6⟩
    have ij : j ≠ i := fun z => by
      subst z
      rw [e1] at e
      cases e
      exact ne _ rfl
    rw [List.getElem?_set_ne ij]
    exact e
/-- a slot's dict is for good from here on, with its lists -/
def sFrzD (i : Nat) (f : FS) : FS := fun Γ S P => match Γ[i]? with
  | some (some (.mt k)) => (match S[k]? with
    | some (.dic rows) => rowsD S rows fun ds S' => f (Γ.set i (some (.fz (.dic ds)))) (S'.set k .dead) P
    | _ => False)
  | _ => False
theorem pss_lock {X : Cx} {sts : List Stmt} {t : TS} (h : PSs X sts t) : PSs X sts (fun D σ H => ∃ a kvs, H a = some (.dK kvs) ∧ ∀ o, t D σ (upd H a (.frz o (.dK kvs)))) :=
  ⟨fun pins s σ H D I ⟨a, kvs, ha, hq⟩ => by
    obtain ⟨od, I2⟩ := I.lock ha (by trivial)
    exact h.run pins s σ _ D I2 (hq od)⟩
theorem xs_frzD {X : Cx} {E : XK} {sts : List Stmt} {f : FS} {i : Nat} (h : XSs X E sts f) : XSs X E sts (sFrzD i f) :=
  let ⟨_, p, s⟩ := h.ex
  ⟨_, pss_lock p, fun β S w σ Γ P De hR hG hf hk => by
    unfold sFrzD at hf
    cases hb : Γ[i]? with
    | none => rw [hb] at hf; exact hf.elim
    | some ob =>
      rw [hb] at hf
      cases ob with
      | none => exact (show False from hf).elim
      | some b =>
        cases b with
        | fz _ => exact (show False from hf).elim
        | mt k =>
          have hf : (match S[k]? with
            | some (.dic rows) => rowsD S rows fun ds S' => f (Γ.set i (some (.fz (.dic ds)))) (S'.set k .dead) P
            | _ => False) := hf
          cases hc : S[k]? with
          | none => rw [hc] at hf; exact hf.elim
          | some cl =>
            rw [hc] at hf
            cases cl with
            | dic rows =>
              obtain ⟨us, h3, h4⟩ := hR.cellD hc
              obtain ⟨ds, S', F', q1, R1, l1, q4, q5, q6⟩ := rows_frz hR h4 hf
              have hc' := q5 k _ hc (fun bs z => by cases z)
              have L := R1.live k _ hc' (by intro z; cases z)
              refine ⟨w.m k, us, h3, fun ob => ?_⟩
              obtain ⟨R2, l2⟩ := R1.setC hc' (by intro z; cases z) (o := .frz ob (.dK us)) (c' := .dead) trivial
              obtain ⟨R3, l3⟩ := R2.adoptF (D := w.m k) (o := .frz ob (.dK us)) upd_same L.nf L.n0 fun j c hj hd e => by
                by_cases z : j = k
                · subst z
                  rw [List.getElem?_set_self (get_lt hc')] at hj
                  cases hj
                  exact hd rfl
                · rw [List.getElem?_set_ne (fun y => z y.symm)] at hj
                  exact z (R1.inj j k c _ hj hc' hd (by intro y; cases y) e)
              have ll := (l1.trans l2).trans l3
              obtain ⟨v, h5, h6⟩ := hG.at_ i _ hb
              obtain ⟨_, rfl⟩ := h6
              have G1 := (hG.later ll).set (v := .ref (w.m k)) (b := .fz (.dic ds)) i (Den.dic (vs := us) upd_same (DenK.mono (l2.trans l3).F q4))
              have es : σ.set i (some (.ref (w.m k))) = σ := by
                refine List.ext_getElem? fun j => ?_
                by_cases hj : j = i
                · subst hj
                  rw [List.getElem?_set_self (get_lt h5), h5]
                · rw [List.getElem?_set_ne (Ne.symm hj)]
              rw [es] at G1
              exact s β _ _ σ _ P De R3 G1 q6 hk
            | _ => exact (show False from hf).elim⟩
end
end PL
namespace PL
open PySem L2
section
variable {X : Cx} {E : XK} {o e f : Expr} {fo fe : FE} {pos apos cpos : Pos}
/-- {} -/
def eDicM : FE := fun _ S _ R => R (.mt S.length) (S ++ [.dic []])
theorem x_dicM : XE X E (.Dict [] [] pos) eDicM := ⟨_, pe_dnewK, fun β S w σ Γ Rx R Q hR hG hf hk hx p hp => by
  obtain ⟨R1, l1⟩ := hR.newC hp (.dK []) (c := .dic []) ⟨[], upd_same, .nil⟩
  exact hk _ _ _ (.ref p) hf R1 l1 ⟨by rw [List.length_append]; exact Nat.lt_succ_self _, congrArg V.ref (if_pos rfl).symm⟩⟩
/-- a cell's dict -/
def dicM (b : B) (S : Sto) (k : Nat → List (Key × B) → Prop) : Prop := match b with
  | .mt j => (match S[j]? with
    | some (.dic bs) => k j bs
    | _ => False)
  | _ => False
theorem dicM_ok {b : B} {S : Sto} {k : Nat → List (Key × B) → Prop} (h : dicM b S k) : ∃ j bs, b = .mt j ∧ S[j]? = some (.dic bs) ∧ k j bs := by
  cases b with
  | fz _ => exact (show False from h).elim
  | mt j =>
    have g : (match S[j]? with
      | some (.dic bs) => k j bs
      | _ => False) := h
    clear h
    cases hc : S[j]? with
    | none => rw [hc] at g; exact g.elim
    | some cl =>
      rw [hc] at g
      cases cl with
      | dic bs => exact ⟨j, bs, rfl, hc, g⟩
      | _ => exact (show False from g).elim
/-- d.setdefault(e, f), f a new thing that may change -/
def eSetd (fo fe ff : FE) : FE := fun Γ S Rx R => fo Γ S Rx fun b S1 => dicM b S1 (fun _ _ => True) ∧ fe Γ S1 Rx fun c S2 => ff Γ S2 Rx fun d S3 => match c with
  | .fz x => optK (keyD x) fun y => dicM b S3 fun j bs => bs.length < sizeLine ∧ match valB bs y with
    | some z => R z S3
    | none => R d (S3.set j (.dic (putKB bs y d)))
  | .mt _ => False
theorem xsetd {ff : FE} (m : M2 X o "setdefault" apos e f cpos) (ho : XE X E o fo) (he : XE X E e fe) (hf : XE X E f ff) : XE X E (.Call (.Attribute o "setdefault" apos) [e, f] [] cpos) (eSetd fo fe ff) :=
  let ⟨_, p, s⟩ := ho.ex; let ⟨_, q, t⟩ := he.ex; let ⟨_, r, t2⟩ := hf.ex
  ⟨_, pe_dsetd p q r m, fun β S w σ Γ Rx R Q hR hG hf hk hx => s β S w σ Γ Rx _ _ hR hG hf (fun b S1 w1 v h1 R1 l1 d1 => by
    obtain ⟨j0, bs0, rfl, e0, _⟩ := dicM_ok h1.1
    obtain ⟨_, rfl⟩ := id d1
    obtain ⟨us0, g0, _⟩ := R1.cellD e0
    refine ⟨w1.m j0, rfl, .inl ⟨us0, .inl g0⟩, t β S1 w1 σ Γ Rx _ _ R1 (hG.later l1) h1.2 (fun c S2 w2 u h2 R2 l2 d2 => t2 β S2 w2 σ Γ Rx _ _ R2 (hG.later (l1.trans l2)) h2 (fun d S3 w3 z h3 R3 l3 d3 => ?_) (hx.later (l1.trans l2))) (hx.later l1)⟩
    cases c with
    | mt _ => exact (show False from h3).elim
    | fz x =>
      obtain ⟨y, e1, h4⟩ := optK_ok h3
      obtain rfl := keyD_ok (show Den X.K w2.F x u from d2) e1
      obtain ⟨j, bs, ej, e2, h5, h6⟩ := dicM_ok h4
      cases ej
      obtain ⟨us, h7, h8⟩ := R3.cellD e2
      have em : w3.m j0 = w1.m j0 := (l2.trans l3).m j0 d1.1
      have l13 := (l1.trans l2).trans l3
      refine ⟨us, y, em ▸ h7, rfl, by rw [← h8.length]; exact h5, fun v' hv => ?_, fun hn => ?_⟩
      · rcases h8.val (k := y) with ⟨_, e4⟩ | ⟨z', v'', e3, e4, d4⟩
        · rw [e4] at hv; cases hv
        · rw [e4] at hv; cases hv
          rw [e3] at h6
          exact hk _ S3 w3 _ h6 R3 l13 d4
      · rcases h8.val (k := y) with ⟨e3, _⟩ | ⟨_, _, _, e4, _⟩
        · rw [e3] at h6
          obtain ⟨R4, l4⟩ := R3.setC e2 (by intro z; cases z) (o := .dK (putK us y z)) (c' := .dic (putKB bs y d)) ⟨_, upd_same, (DenBK.put (k := y) d3 h8).later later_H⟩
          have q := hk d _ _ z h6 R4 (l13.trans l4) (d3.later l4)
          rw [em] at q
          exact q
        · rw [e4] at hn; cases hn) hx⟩
end
end PL
/-! sorted of texts; d[k] = v, l[i] = v (own work) -/
namespace PL
open PySem L2 PyProof.Rows
section
variable {K : PySem.W.Frag}
theorem denStrs {F : Hp} : ∀ zs : List Str, DenL K F (zs.map .str) (zs.map V.str)
  | [] => .nil
  | z :: zs => .cons (.str z) (denStrs zs)
def gSortS : GL := fun bs S R => match bs with
  | [b] => lstD b S fun ds => asStrs ds fun zs => zs.length < 64 ∧ ∀ ys : List Str, ys.Perm zs → sortedS ys = true → R (.fz (.lst (ys.map .str))) S
  | _ => False
theorem snd_sortS : SndL K (rSortedS K) gSortS := fun β S w bs vs R Q hR hb hg hk => by
  match bs, hg, hb with
  | [b], hg, hb =>
    obtain ⟨v, rfl, h1⟩ := hb.one
    obtain ⟨l, ds, vs, rfl, h2, h3, h4⟩ := lstD_ok (k := fun ds => asStrs ds fun zs => zs.length < 64 ∧ ∀ ys : List Str, ys.Perm zs → sortedS ys = true → R (.fz (.lst (ys.map .str))) S) hR h1 hg
    obtain ⟨zs, rfl, rfl, h5, h6⟩ := asStrs_ok h4 h3
    exact ⟨l, zs, rfl, SqL.of h2, h5, fun ys p hp hs hq => hk.newL hR (h6 ys hp hs) (denStrs ys) hq⟩
def txtKeys : List (Key × B) → Option (List Str)
  | [] => some []
  | (.inr z, _) :: r => (txtKeys r).map (z :: ·)
  | (.inl _, _) :: _ => none
theorem txtKeys_ok {n : Nat} {w : Wd} : ∀ {bs : List (Key × B)} {us : List (Key × V)} {ks : List Str}, DenBK K n w bs us → txtKeys bs = some ks → us.map (·.1) = ks.map Sum.inr
  | _, _, _, .nil, h => by cases h; rfl
  | (.inr z, b) :: r, _, ks, .cons _ t, h => by
    have h : (txtKeys r).map (z :: ·) = some ks := h
    cases q : txtKeys r with
    | none => rw [q] at h; cases h
    | some ks' =>
      rw [q] at h
      cases h
      rw [List.map_cons, List.map_cons, txtKeys_ok t q]
  | (.inl _, _) :: _, _, _, .cons _ _, h => by cases h
def gSortD : GL := fun bs S R => match bs with
  | [b] => dicAt b S fun rows => optK (txtKeys rows) fun ks => ks.length < 64 ∧ ∀ ys : List Str, ys.Perm ks → sortedS ys = true → R (.fz (.lst (ys.map .str))) S
  | _ => False
theorem snd_sortD : SndL K (fun xs H Q => ∃ (a : Addr) (kvs : List (Key × V)) (ks : List Str), xs = [.ref a] ∧ Rd H a (.dK kvs) ∧ kvs.map (·.1) = ks.map Sum.inr ∧ ks.length < 64 ∧ ∀ (ys : List Str) (p : Addr), ys.Perm ks → sortedS ys = true → H p = none → Q (.ref p) (upd H p (.lst (ys.map V.str)))) gSortD := fun β S w bs vs R Q hR hb hg hk => by
  match bs, hg, hb with
  | [b], hg, hb =>
    obtain ⟨v, rfl, h1⟩ := hb.one
    obtain ⟨a, rows, us, rfl, h2, h3, h4⟩ := dicAt_ok (k := fun rows => optK (txtKeys rows) fun ks => ks.length < 64 ∧ ∀ ys : List Str, ys.Perm ks → sortedS ys = true → R (.fz (.lst (ys.map .str))) S) hR h1 hg
    obtain ⟨ks, e1, h5, h6⟩ := optK_ok h4
    exact ⟨a, us, ks, rfl, h2, txtKeys_ok h3 e1, h5, fun ys p hp hs hq => hk.newL hR (h6 ys hp hs) (denStrs ys) hq⟩
end
section
variable {X : Cx} {E : XK} {o i : Expr} {fo fi : FE} {pos : Pos}
/-- d[i] = .. -/
def gPutD (fo fi : FE) : FG := fun b Γ S R => fo Γ S noX fun d S1 => fi Γ S1 noX fun c S2 => match c with
  | .fz x => optK (keyD x) fun y => dicM d S2 fun j bs => bs.length < sizeLine ∧ R Γ (S2.set j (.dic (putKB bs y b)))
  | .mt _ => False
theorem xg_putD (hu : X.A.units + 1 < cLine) (ho : XE X (fun _ _ _ => False) o fo) (hi : XE X (fun _ _ _ => False) i fi)
    (hasg : ∀ v, assign (.Subscript o i pos) X.env v = (do
      let ov ← holding [v] (eval o X.env)
      let iv ← holding [v, ov] (eval i X.env)
      standAt pos
      holding [v, ov, iv] (setItem ov iv v)
      release [v, ov, iv] []) := by intro _; rfl) : XG X (.Subscript o i pos) (gPutD fo fi) [] :=
  let ⟨_, p, s⟩ := ho.ex; let ⟨_, q, t⟩ := hi.ex
  ⟨_, pg_sub p q (set_dict hu) hasg, fun β S w σ Γ b v R Q hR hG hb hg hk => s β S w σ Γ noX _ _ hR hG hg (fun d S1 w1 u h1 R1 l1 d1 => t β S1 w1 σ Γ noX _ _ R1 (hG.later l1) h1 (fun c S2 w2 z h2 R2 l2 d2 => by
    cases c with
    | mt _ => exact (show False from h2).elim
    | fz x =>
      obtain ⟨y, e1, h3⟩ := optK_ok h2
      obtain rfl := keyD_ok (show Den X.K w2.F x z from d2) e1
      obtain ⟨j, bs, rfl, e2, h4, h5⟩ := dicM_ok h3
      obtain ⟨_, rfl⟩ := id d1
      obtain ⟨us, h6, h7⟩ := R2.cellD e2
      have em : w2.m j = w1.m j := l2.m j d1.1
      obtain ⟨R3, l3⟩ := R2.setC e2 (by intro z; cases z) (o := .dK (putK us y v)) (c' := .dic (putKB bs y b)) ⟨_, upd_same, (DenBK.put (k := y) ((hb.later l1).later l2) h7).later later_H⟩
      refine ⟨w1.m j, _, rfl, .inl ⟨us, y, em ▸ h6, rfl, by rw [← h7.length]; exact h4, rfl⟩, ?_⟩
      have q := hk Γ _ _ σ h5 R3 ((l1.trans l2).trans l3) (hG.later ((l1.trans l2).trans l3)) fun _ _ => rfl
      rw [em] at q
      exact q) xok_no) xok_no⟩
end
end PL
namespace PL
open PySem L2
/-- {} for good -/
theorem x_dicF {X : Cx} {E : XK} {pos : Pos} : XE X E (.Dict [] [] pos) (eC (.dic [])) := ⟨_, pe_lock pe_dnewK, fun β S w σ Γ Rx R Q hR hG hf hk hx p hp => ⟨p, [], rfl, upd_same, fun o => by
  rw [upd_upd]
  obtain ⟨R1, l1⟩ := hR.newF hp (.frz o (.dK []))
  exact hk _ _ _ (.ref p) hf R1 l1 (Den.dic upd_same .nil)⟩⟩
end PL
/-! name = {k: v for ..} (own work; the step behind follows the library's rule for name = [..]) -/
namespace PL
open PySem L2 PyProof.Rows
section
variable {X : Cx}
theorem dc_stored {n : Nat} {nm : Str} {np : Pos} {kx vx tg iter : Expr} {ifs : List Expr} {scope : Scope} {own : List (Str × Nat)} {pos spos : Pos} {wi : TI} {g : TG} {tt : TT} {tk tv : TE} (calm : X.calm = true) (nod : X.N.Nodup) (at_ : X.N[n]? = some nm) (loc : X.env.scope.names.lookup nm = some .local)
    (sw : swapsWith (.DictComp kx vx [⟨tg, iter, ifs, 0⟩] scope pos) (some (.Name nm np)) spos.line X.env = pure true) (walk : PI X tg iter wi) (ok : BlkOk X.N X.env.scope scope own)
    (pg : ∀ (s : Shared) (H : Hp) (C : Addr) (cl : List (Str × Addr)) (fp : List Addr), PG (X.blk s H scope (compEnvC scope cl C X.env) fp) tg g) (pt : ∀ (s : Shared) (H : Hp) (C : Addr) (cl : List (Str × Addr)) (fp : List Addr), PTs (X.blk s H scope (compEnvC scope cl C X.env) fp) ifs tt)
    (pk : ∀ (s : Shared) (H : Hp) (C : Addr) (cl : List (Str × Addr)) (fp : List Addr), PE (X.blk s H scope (compEnvC scope cl C X.env) fp) kx tk)
    (pv : ∀ (s : Shared) (H : Hp) (C : Addr) (cl : List (Str × Addr)) (fp : List Addr), PE (X.blk s H scope (compEnvC scope cl C X.env) fp) vx tv) (fold : ∀ x, foldedSetIterable iter X.env x = pure x) :
    PS X (.Assign [.Name nm np] (.DictComp kx vx [⟨tg, iter, ifs, 0⟩] scope pos) spos) (tAsg (tDc wi g tt tk tv (own.map (·.2))) (gName n)) := by
  refine ⟨fun ps sh sg hp De inv read => ?_⟩
  rw [exec_Assign_Name_used _ _ _ _ sw]
  refine wpAny_bind (wpAny_standAt (wpAny_bind ?_))
  show wpAny _ X.A (do let _ ← comprehension (.DictComp kx vx [⟨tg, iter, ifs, 0⟩] scope pos) scope X.env (firstIterPos [⟨tg, iter, ifs, 0⟩] pos) newDict false (eval iter X.env) (some (assign (.Name nm np) X.env))) _ _ sh
  have read : tDc wi g tt tk tv (own.map (·.2)) sg hp (fun x H1 => gName n x sg H1 De.nx) := read
  refine wpAny_bind (thn (dc_core (Qf := fun _ s' => SP X ps De .next s') calm nod inv walk ok pg pt pk pv fold read fun dd cc s1 mm hp1 inv1 q ns fo => ?_) fun _ _ z => wpAny_pure (wpAny_pure z))
  show wpAny _ _ (assign (.Name nm np) X.env (.ref dd)) _ _ _
  refine wpAny_assign_Name (store_ok2 (v := V.ref dd) inv1 nod at_ (.inl loc) rfl (fun s2 inv2 ⟨a, same, where_⟩ => ?_) (.inr loc))
  obtain ⟨o0, o1, o2, o3, o4, o5⟩ := fo
  have apart : cc ≠ a := where_.elim (fun z => z ▸ o1) fun z y => o4 nm a z y.symm
  exact ⟨mm, ns.sameBut same apart, fun h3 same3 => ⟨_, hp1, inv2.turned (t' := s2.toks) (fun b o hb z => (same3.2 b hb).trans z) o0 o1 o3 o4 o5, q⟩⟩
theorem swd_true {kx vx : Expr} {gs : List Comprehension} {scope : Scope} {pos np : Pos} {nm : Str} {l : Nat} {env : Env} (kind : env.scope.kind = .function) (loc : env.scope.names.lookup nm = some .local) (line : (np.line == pos.line) = true)
    (own : (scope.names.any fun (n, k) => n == nm && (k == .local || k == .cell)) = false) : swapsWith (.DictComp kx vx gs scope pos) (some (.Name nm np)) l env = pure true := by
  have k1 : env.kindOf nm = some .local := loc
  have k2 : env.blockKind = .function := by unfold Env.blockKind; rw [kind]; rfl
  unfold swapsWith
  simp only [k2, k1, own, Expr.pos, line]
  rfl
end
end PL
namespace PL
open PySem L2
section
variable {X : Cx} {E : XK} {kx vx tg iter : Expr} {ifs : List Expr} {scope : Scope} {own : List (Str × Nat)} {fi : FI} {g : FG} {ft : FT} {fk fv : FE} {pos spos : Pos} {is : List Nat}
theorem xs_setDcM {i : Nat} {y : Str} {py : Pos} (hc : X.calm = true) (hN : X.N.Nodup) (hy : X.N[i]? = some y) (hyl : X.env.scope.names.lookup y = some .local)
    (hsw : swapsWith (.DictComp kx vx [⟨tg, iter, ifs, 0⟩] scope pos) (some (.Name y py)) spos.line X.env = pure true) (hi : XI X E tg iter fi) (ok : BlkOk X.N X.env.scope scope own) (hin : ∀ i ∈ is, i ∈ own.map (·.2))
    (hg : ∀ c : Ctx5, XG (X.blk c.1 c.2.1 scope (compEnvC scope c.2.2.2.1 c.2.2.1 X.env) c.2.2.2.2) tg g is)
    (ht : ∀ c : Ctx5, XIfs (X.blk c.1 c.2.1 scope (compEnvC scope c.2.2.2.1 c.2.2.1 X.env) c.2.2.2.2) ifs ft)
    (hk : ∀ c : Ctx5, XE (X.blk c.1 c.2.1 scope (compEnvC scope c.2.2.2.1 c.2.2.1 X.env) c.2.2.2.2) (fun _ _ _ => False) kx fk)
    (hv : ∀ c : Ctx5, XE (X.blk c.1 c.2.1 scope (compEnvC scope c.2.2.2.1 c.2.2.1 X.env) c.2.2.2.2) (fun _ _ _ => False) vx fv)
    (hs : ∀ x, foldedSetIterable iter X.env x = pure x := by intro _; rfl) :
    XS X E (.Assign [.Name y py] (.DictComp kx vx [⟨tg, iter, ifs, 0⟩] scope pos) spos) (sAsg (eDcM fi g ft fk fv (own.map (·.2))) (gN i)) :=
  let ⟨_, o, r⟩ := hi.ex
  let ⟨_, p, s⟩ := allG (Xf := fun c : Ctx5 => X.blk c.1 c.2.1 scope (compEnvC scope c.2.2.2.1 c.2.2.1 X.env) c.2.2.2.2) (K := X.K) (fun _ => rfl) hg
  let ⟨_, q, t⟩ := allIf (Xf := fun c : Ctx5 => X.blk c.1 c.2.1 scope (compEnvC scope c.2.2.2.1 c.2.2.1 X.env) c.2.2.2.2) (K := X.K) (fun _ => rfl) ht
  let ⟨_, u, v⟩ := allE (Xf := fun c : Ctx5 => X.blk c.1 c.2.1 scope (compEnvC scope c.2.2.2.1 c.2.2.1 X.env) c.2.2.2.2) (K := X.K) (fun _ => rfl) hk
  let ⟨_, u2, v2⟩ := allE (Xf := fun c : Ctx5 => X.blk c.1 c.2.1 scope (compEnvC scope c.2.2.2.1 c.2.2.1 X.env) c.2.2.2.2) (K := X.K) (fun _ => rfl) hv
  ⟨_, dc_stored hc hN hy hyl hsw o ok (fun s H C cl fp => p (s, H, C, cl, fp)) (fun s H C cl fp => q (s, H, C, cl, fp)) (fun s H C cl fp => u (s, H, C, cl, fp)) (fun s H C cl fp => u2 (s, H, C, cl, fp)) hs, fun β S w σ Γ P De hR hG hf hk =>
    dc_run r s hin t v v2 hR hG hk.x hf fun S2 w2 out D us R2 l2 h hacc hw hF h0 hl => by
      obtain ⟨R3, l3⟩ := R2.adoptC (c := .dic out) ⟨us, hw, hacc⟩ (by intro z; cases z) hF h0 hl
      have d3 : DenB X.K (S2 ++ [Cell.dic out]).length ⟨fun k => if k = S2.length then D else w2.m k, w2.F, w2.H⟩ (.mt S2.length) (.ref D) := ⟨by rw [List.length_append]; exact Nat.lt_succ_self _, congrArg V.ref (if_pos rfl).symm⟩
      exact hk.nx _ _ ⟨fun k => if k = S2.length then D else w2.m k, w2.F, w2.H⟩ _ h R3 ((hG.later (l2.trans l3)).set i d3)⟩
end
end PL
/-! list.index of a text (own work) -/
namespace PL
open PySem L2
theorem find_first {p : Str → Bool} : ∀ {zs : List Str} {j : Nat}, zs.findIdx? p = some j → (∃ z, zs[j]? = some z ∧ p z = true) ∧ ∀ (m : Nat) (z : Str), m < j → zs[m]? = some z → p z = false
  | [], j, h => by cases h
  | z :: zs, j, h => by
    rw [List.findIdx?_cons] at h
    cases q : p z with
    | true =>
      rw [q] at h
      cases h
      exact ⟨⟨z, rfl, q⟩, fun m _ hm _ => absurd hm (Nat.not_lt_zero _)⟩
    | false =>
      rw [q] at h
      cases r : zs.findIdx? p with
      | none => rw [r] at h; cases h
      | some i =>
        rw [r] at h
        cases h
        obtain ⟨⟨y, h1, h2⟩, h3⟩ := find_first r
        refine ⟨⟨y, h1, h2⟩, fun m y' hm hy => ?_⟩
        cases m with
        | zero => cases hy; exact q
        | succ m => exact h3 m y' (Nat.lt_of_succ_lt_succ hm) hy
def gIndexS (b : B) : GL := fun bs S R => match bs with
  | [.fz (.str y)] => lstD b S fun ds => asStrs ds fun zs => optK (zs.findIdx? fun z => decide (z = y)) fun j => R (.fz (.int (j : Nat))) S
  | _ => False
theorem flat_strs : ∀ zs : List Str, (zs.map V.str).all flatV = true
  | [] => rfl
  | _ :: zs => flat_strs zs
theorem snd_indexS {K : PySem.W.Frag} : SndM K (rIndex K) gIndexS := fun β S w b bs v vs R Q hR hx hb hg hk => by
  match bs, hg, hb with
  | [.fz (.str y)], hg, hb =>
    obtain ⟨u, rfl, h1⟩ := hb.one
    cases (show Den K w.F (.str y) u from h1)
    obtain ⟨l, ds, vs, rfl, h2, h3, h4⟩ := lstD_ok (k := fun ds => asStrs ds fun zs => optK (zs.findIdx? fun z => decide (z = y)) fun j => R (.fz (.int (j : Nat))) S) hR hx hg
    obtain ⟨zs, rfl, rfl, h5⟩ := asStrs_ok h4 h3
    obtain ⟨j, e1, h6⟩ := optK_ok h5
    obtain ⟨⟨z, q1, q2⟩, q3⟩ := find_first e1
    refine ⟨l, zs.map V.str, .str y, j, .str z, rfl, rfl, SqL.of h2, rfl, flat_strs zs, by rw [List.getElem?_map, q1]; rfl, ?_, fun m z' hm hz => ?_, hk.fz hR h6 (.int _)⟩
    · exact q2
    · rw [List.getElem?_map] at hz
      cases e : zs[m]? with
      | none => rw [e] at hz; cases hz
      | some z2 => rw [e] at hz; cases hz; exact q3 m z2 hm e
end PL
/-! l[i] = v (own work) -/
namespace PL
open PySem L2
section
variable {X : Cx} {o i : Expr} {fo fi : FE} {pos : Pos}
def gPutL (fo fi : FE) : FG := fun b Γ S R => fo Γ S noX fun d S1 => fi Γ S1 noX fun c S2 => match d, c with
  | .mt j, .fz (.int n) => (match S2[j]? with
    | some (.lst bs) => optK (ixN bs.length n) fun m => R Γ (S2.set j (.lst (bs.set m b)))
    | _ => False)
  | _, _ => False
theorem xg_putL (ho : XE X (fun _ _ _ => False) o fo) (hi : XE X (fun _ _ _ => False) i fi)
    (hasg : ∀ v, assign (.Subscript o i pos) X.env v = (do
      let ov ← holding [v] (eval o X.env)
      let iv ← holding [v, ov] (eval i X.env)
      standAt pos
      holding [v, ov, iv] (setItem ov iv v)
      release [v, ov, iv] []) := by intro _; rfl) : XG X (.Subscript o i pos) (gPutL fo fi) [] :=
  let ⟨_, p, s⟩ := ho.ex; let ⟨_, q, t⟩ := hi.ex
  ⟨_, pg_sub p q set_list hasg, fun β S w σ Γ b v R Q hR hG hb hg hk => s β S w σ Γ noX _ _ hR hG hg (fun d S1 w1 u h1 R1 l1 d1 => t β S1 w1 σ Γ noX _ _ R1 (hG.later l1) h1 (fun c S2 w2 z h2 R2 l2 d2 => by
    cases d with
    | fz _ => cases c <;> exact (show False from h2).elim
    | mt j =>
      cases c with
      | mt _ => exact (show False from h2).elim
      | fz x =>
        have d2 : Den X.K w2.F x z := d2
        cases d2 with
        | int n =>
          obtain ⟨bs, e2, h3⟩ := cell_lst (f := fun bs => optK (ixN bs.length n) fun m => R Γ (S2.set j (.lst (bs.set m b)))) h2
          obtain ⟨m, e3, h4⟩ := optK_ok h3
          obtain ⟨_, rfl⟩ := id d1
          obtain ⟨us, h6, h7⟩ := R2.cellL e2
          have em : w2.m j = w1.m j := l2.m j d1.1
          obtain ⟨R3, l3⟩ := R2.setC e2 (by intro z; cases z) (o := .lst (us.set m v)) (c' := .lst (bs.set m b)) ⟨_, upd_same, (DenBL.set ((hb.later l1).later l2) m h7).later later_H⟩
          refine ⟨w1.m j, us, n, m, rfl, rfl, em ▸ h6, by rw [← h7.length]; exact e3, ?_⟩
          have q := hk Γ _ _ σ h4 R3 ((l1.trans l2).trans l3) (hG.later ((l1.trans l2).trans l3)) fun _ _ => rfl
          rw [em] at q
          exact q
        | _ => exact (show False from h2).elim) xok_no) xok_no⟩
end
end PL
/-! raise of own exceptions (own work) -/
namespace PL
open PySem PySem.Spec PyProof.Rows L2
/-- an own exception class over any built-in base, to be raised -/
structure OexR (K : PySem.W.Frag) (C : Addr) : Prop where
  g : ∃ (B newId initId : String) (bmB : List Value), Ex.OexG K C B newId initId bmB
  exC : PySem.W.subIn K (.ref C) (.type "BaseException") = some true
  tyC : PySem.W.typeIn K (.ref C) = some (.type "type")
section
variable {X : Cx} {CX : CXT} {k : Nat} {C fI : Addr} {sp : Sp} {x : Str} {p pos : Pos} {e : Expr} {es : List Expr} {ta : TA}
/-- C(e, ..), made to be raised -/
theorem pmk_oexR (T : OexR X.K C) (iC : PySem.W.findIn X.K (.ref C) "__init__" = some (some (.ref fI))) (tI : PySem.W.typeIn X.K (.ref fI) = some (.type "function")) (F1 : FnR X.prog X.w X.K X.mg X.base CX k fI sp)
    (hr : Room (k + 1) X.A) (hx : Passes CX X (fun _ _ _ => False)) (hg : Gl X x) (hm : X.mg x = some (.ref C)) (ha : PA X (e :: es) ta)
    (hdb : (x == ("__debug__" : Str)) = false := by decide) (he : starEach (e :: es) X.env = (false, eval e X.env) :: starEach es X.env := by rfl) (hpl : (backTo pos (starEach es X.env)).any (·.1) = false := by rfl) :
    PMk X (.Call (.Name x p) (e :: es) [] pos) (tMkO C sp [] ta) := fun pins s σ H Q I h => by
  obtain ⟨B, newId, initId, bmB, G⟩ := T.g
  obtain ⟨nm, q, N, bs, bm, sn, sub, ab, col, dd, k0, k1, k2, k3, k5, hC, hT⟩ := G.cls
  refine wpAny_Call_Name_kw (ld_glob I hg hm (PySem.W.callWith_K (h₀ := X.base) I.ok.mod.kin G.kC (thn (ha.run pos pins s σ H _ I h) fun us s1 ⟨vs, H1, I1, r1, hz, q1⟩ => ⟨I1.kIn, ?_⟩) he hpl) hdb)
  obtain ⟨hp, g, dr, tk, os⟩ := s1
  have sz : hp.objs.size ≤ hp.objs.size + 1 := Nat.le_add_right _ 1
  have told := q1 (hp.objs.size + 1) (I1.hok.fresh sz)
  rw [List.append_nil] at told
  have old : ∀ b o, hp.get? b = some o → ((hp.push (PySem.W.kdv_tup us)).push (PySem.HandSPX.excO C hp.objs.size)).get? b = some o := fun b o z => Heap.get?_push_of_some _ (Heap.get?_push_of_some _ z)
  have there : ((hp.push (PySem.W.kdv_tup us)).push (PySem.HandSPX.excO C hp.objs.size)).get? (hp.objs.size + 1) = some (PySem.HandSPX.excO C hp.objs.size) := by heap_get
  have I2 : Inv X pins σ (upd H1 (hp.objs.size + 1) (exo (hp.objs.size + 1) C none)) ⟨(hp.push (PySem.W.kdv_tup us)).push (PySem.HandSPX.excO C hp.objs.size), g, dr, tk, os⟩ := I1.laid (t' := tk) old sz (exo_ok there)
  have few : us.length ≤ sizeLine := Nat.le_trans (Nat.le_of_eq (Paired.length r1).symm) (Nat.le_trans hz (by rw [sizeLine_eq]; decide))
  show wpAny _ _ (call (.ref C) us) _ _ _
  refine wpAny_call (PySem.HandSPX.call_own G.base hT (I1.kIn _ _ hC) (PySem.W.looks_findIn I1.kIn iC) (fun self => PySem.W.bind_fn I1.kIn self tI) few (codeAny_mono (F1 _ X.stack _ _ (Value.ref (hp.objs.size + 1) :: us) (V.ref (hp.objs.size + 1) :: vs) _ (fun _ _ _ => False) (hr.make C us []) (I2.env0.make C us []) (.cons rfl r1) told) fun r s' z => ?_))
  cases r with
  | error er => exact hx pins σ _ _ er s' I2 z
  | ok fl =>
    cases fl with
    | ret u =>
      obtain ⟨v, H2, os2, bare2, un2, hok2, rv, ev, d, fs, ea, ed, n1, q2⟩ := z
      obtain rfl := ev
      obtain ⟨h2, g2, d2, t2, os'⟩ := s'
      exact ⟨rv, mk_end (raises_own T.exC T.tyC) I1 sz old un2 hok2 os2 bare2 ea ed n1 q2⟩
    | _ => exact False.elim z
end
section
variable {K : PySem.W.Frag} {β : Base} {S : Sto} {w : Wd}
theorem Rel.sameG (R : Rel K β S w) {H' : Hp} (s : Same w.H H') : Rel K β S ⟨w.m, w.F, H'⟩ ∧ Later S.length w S.length ⟨w.m, w.F, H'⟩ := by
  refine ⟨⟨R.fr.trans s, R.keep.trans s, R.f0, R.fn, R.m0, R.n0, fun k c h hd => ?_, R.inj⟩, later_H⟩
  have L := R.live k c h hd
  obtain ⟨o, ho⟩ := L.ok.some hd
  exact ⟨L.nf, L.n0, L.ok.later later_H ((s _ _ ho).trans ho.symm)⟩
/-- the heap has grown, the new thing at a is for good -/
theorem Rel.grown (R : Rel K β S w) {H' : Hp} {a : Addr} {o : HO} (na : w.H a = none) (s : Same w.H H') (h : H' a = some o) : Rel K β S ⟨w.m, upd w.F a o, H'⟩ ∧ Later S.length w S.length ⟨w.m, upd w.F a o, H'⟩ := by
  obtain ⟨R1, l1⟩ := R.sameG s
  obtain ⟨R2, l2⟩ := R1.adoptF (D := a) (o := o) h (R.fr.free na) (R.keep.free na) (R.freshL na)
  exact ⟨R2, l1.trans l2⟩
end
/-- raise C(e): C stores e at f, its own name at code -/
def sRaise (C f : Str) (fe : FE) : FS := fun Γ S P => fe Γ S P.xe fun b S1 => match b with
  | .fz d => P.xe C [("code", .str C), (f, d)] S1
  | _ => False
section
variable {X : Cx} {E : XK} {e : Expr} {fe : FE} {pos p0 pos2 : Pos} {C fI : Addr} {cn x f : Str} {k : Nat}
theorem xs_raise (hc : clsAt X.K cn = C) (T : OexR X.K C) (iC : PySem.W.findIn X.K (.ref C) "__init__" = some (some (.ref fI))) (tI : PySem.W.typeIn X.K (.ref fI) = some (.type "function")) (F1 : FnR X.prog X.w X.K X.mg X.base CX0 k fI (Ex.spX C f cn))
    (hr : Room (k + 1) X.A) (hm : X.mg x = some (.ref C)) (hg : Gl X x) (hcalm : X.calm = true) (tk : Takes X (fun cls d _ H => E cls d H)) (he : XE X E e fe)
    (hst : starEach (e :: []) X.env = (false, eval e X.env) :: starEach [] X.env := by rfl) (hpl : (backTo pos (starEach [] X.env)).any (·.1) = false := by rfl) (hdb : (x == ("__debug__" : Str)) = false := by decide) :
    XS X E (.Raise (some (.Call (.Name x p0) [e] [] pos)) none pos2) (sRaise cn f fe) :=
  let ⟨_, p, s⟩ := he.ex
  ⟨_, ps_raise hcalm tk (pmk_oexR T iC tI F1 hr pass0 hg hm (pa_cons p pa_nil hst) hdb hst hpl), fun β S w σ Γ P D hR hG hf hk => s β S w σ Γ _ _ _ hR hG hf (fun b S1 w1 v h1 R1 l1 d1 => by
    cases b with
    | mt j => exact (show False from h1).elim
    | fz d =>
      have d1 : Den X.K w1.F d v := d1
      refine ⟨by show 1 ≤ 1000; decide, fun a na => ⟨a, v, rfl, upd_same, fun dd H' nd da kp h2 h3 => ⟨rfl, dd, _, h2, h3, (upd_ne da).symm.trans nd, ?_⟩⟩⟩
      have n1 : w1.H dd = none := (upd_ne da).symm.trans nd
      have sm : Same w1.H (upd (del H' a) dd (.xd [("code", .str cn), (f, v)])) := fun b o z => by
        have ba : b ≠ a := ne_of_none z na
        rw [upd_ne (ne_of_none z n1), del_ne ba]
        exact kp b o ba ((upd_ne ba).trans z)
      obtain ⟨R2, l2⟩ := R1.grown n1 sm upd_same
      have q := hk.xe cn _ S1 _ dd _ h1 R2 upd_same (.cons (.str _) (.cons (Den.mono l2.F d1) .nil))
      rw [hc] at q
      exact q) hk.x⟩
end
end PL
/-! lambdas: a call over all that is not told (own work) -/
namespace PL
open PySem PySem.Spec PyProof.Rows L2 LamX
section
variable {K : PySem.W.Frag} {F : Hp} {N : List Addr}
theorem off_lst (hD : Lg.ExtD F N) {a : Addr} {o : HO} (h : F a = some o) (n : ∀ φ, o ≠ .ext φ) : Lg.undo F N a = some o := (Lg.undo_out (hD.off h n)).trans h
mutual
theorem Den.undo (hD : Lg.ExtD F N) {d : D} {v : V} : Den K F d v → Den K (Lg.undo F N) d v
  | .non => .non
  | .bl b => .bl b
  | .int i => .int i
  | .str z => .str z
  | .ty n => .ty n
  | .opq a => .opq a
  | .scr h l => .scr (by
      rcases h with (h | ⟨o, h⟩) | h
      · exact .inl (.inl (off_lst hD h fun φ z => by cases z))
      · exact .inl (.inr ⟨o, off_lst hD h fun φ z => by cases z⟩)
      · exact .inr h) l
  | .cls c => .cls c
  | .lst h l => .lst (off_lst hD h fun φ z => by cases z) (DenL.undo hD l)
  | .tup h l => .tup (by
      rcases h with (h | ⟨o, h⟩) | h
      · exact .inl (.inl (off_lst hD h fun φ z => by cases z))
      · exact .inl (.inr ⟨o, off_lst hD h fun φ z => by cases z⟩)
      · exact .inr h) (DenL.undo hD l)
  | .dic h l => .dic (off_lst hD h fun φ z => by cases z) (DenK.undo hD l)
  | .ins h l => .ins (off_lst hD h fun φ z => by cases z) (DenF.undo hD l)
theorem DenL.undo (hD : Lg.ExtD F N) {ds : List D} {vs : List V} : DenL K F ds vs → DenL K (Lg.undo F N) ds vs
  | .nil => .nil
  | .cons h t => .cons (Den.undo hD h) (DenL.undo hD t)
theorem DenK.undo (hD : Lg.ExtD F N) {ds : List (Key × D)} {vs : List (Key × V)} : DenK K F ds vs → DenK K (Lg.undo F N) ds vs
  | .nil => .nil
  | .cons h t => .cons (Den.undo hD h) (DenK.undo hD t)
theorem DenF.undo (hD : Lg.ExtD F N) {ds : List (Str × D)} {vs : List (Str × V)} : DenF K F ds vs → DenF K (Lg.undo F N) ds vs
  | .nil => .nil
  | .cons h t => .cons (Den.undo hD h) (DenF.undo hD t)
end
end
/-- the world with these given back -/
abbrev unW (w : Wd) (N : List Addr) : Wd := ⟨w.m, Lg.undo w.F N, Lg.undo w.H N⟩
/-- .. and told again -/
abbrev reW (w' w : Wd) (N : List Addr) : Wd := ⟨w'.m, Lg.redo w'.F w.F N, Lg.redo w'.H w.H N⟩
section
variable {K : PySem.W.Frag} {n : Nat} {w : Wd} {N : List Addr}
theorem DenB.undo (hD : Lg.ExtD w.F N) {b : B} {v : V} (h : DenB K n w b v) : DenB K n (unW w N) b v := by
  cases b with
  | fz d => exact Den.undo hD h
  | mt k => exact h
theorem DenBL.undo (hD : Lg.ExtD w.F N) : ∀ {bs : List B} {vs : List V}, DenBL K n w bs vs → DenBL K n (unW w N) bs vs
  | _, _, .nil => .nil
  | _, _, .cons h t => .cons (h.undo hD) (DenBL.undo hD t)
theorem DenBK.undo (hD : Lg.ExtD w.F N) : ∀ {bs : List (Key × B)} {vs : List (Key × V)}, DenBK K n w bs vs → DenBK K n (unW w N) bs vs
  | _, _, .nil => .nil
  | _, _, .cons h t => .cons (h.undo hD) (DenBK.undo hD t)
theorem DenBF.undo (hD : Lg.ExtD w.F N) : ∀ {bs : List (Str × B)} {vs : List (Str × V)}, DenBF K n w bs vs → DenBF K n (unW w N) bs vs
  | _, _, .nil => .nil
  | _, _, .cons h t => .cons (h.undo hD) (DenBF.undo hD t)
/-- a cell that has nothing to do with lambdas -/
def plainC : Cell → Bool
  | .lams _ => false
  | .tab _ _ => false
  | _ => true
theorem CellOk.undo (hD : Lg.ExtD w.F N) {a : Addr} {c : Cell} (hp : plainC c = true) (na : a ∉ N) (h : CellOk K n w a c) : CellOk K n (unW w N) a c := by
  have e : (unW w N).H a = w.H a := Lg.undo_out na
  cases c with
  | lst bs => obtain ⟨vs, h1, h2⟩ := h; exact ⟨vs, e.trans h1, h2.undo hD⟩
  | dic bs => obtain ⟨vs, h1, h2⟩ := h; exact ⟨vs, e.trans h1, h2.undo hD⟩
  | ins C bs => obtain ⟨dx, vs, h1, h2⟩ := h; exact ⟨dx, vs, e.trans h1, h2.undo hD⟩
  | bag => obtain ⟨q, cells, i, b, s, c, h1, h2, h3⟩ := h; exact ⟨q, cells, i, b, s, c, e.trans h1, off_lst hD h2 (fun φ z => by cases z), h3⟩
  | dead => trivial
  | kset P wo T n => exact e.trans h
  | lams Ls => cases hp
  | tab P q => cases hp
end
section
variable {K : PySem.W.Frag} {β : Base} {S S' : Sto} {w w' : Wd} {N : List Addr}
/-- a cell forgotten -/
theorem Rel.kill (R : Rel K β S w) (k : Nat) : Rel K β (S.set k .dead) w := by
  have get : ∀ {i : Nat} {ci : Cell}, (S.set k .dead)[i]? = some ci → ci ≠ .dead → i ≠ k ∧ S[i]? = some ci := fun {i ci} h hci => by
    by_cases e : i = k
    · subst e
      have hl := get_lt h
      rw [List.length_set] at hl
      rw [List.getElem?_set_self hl] at h
      cases h
      exact absurd rfl hci
    · rw [List.getElem?_set_ne (fun z => e z.symm)] at h
      exact ⟨e, h⟩
  refine ⟨R.fr, R.keep, R.f0, R.fn, R.m0, by rw [List.length_set]; exact R.n0, fun i c h hd => ?_, fun i j ci cj hi hj di dj e => R.inj i j ci cj (get hi di).2 (get hj dj).2 di dj e⟩
  rw [List.length_set]
  exact R.live i c (get h hd).2 hd
theorem off_live (R : Rel K β S w) (hD : Lg.ExtD w.F N) {k : Nat} {c : Cell} (h : S[k]? = some c) (hd : c ≠ .dead) : w.m k ∉ N := fun m => by
  obtain ⟨φ, z⟩ := hD _ m
  rw [(R.live k c h hd).nf] at z
  cases z
theorem ext_H (R : Rel K β S w) (hD : Lg.ExtD w.F N) : Lg.ExtD w.H N := fun b m => let ⟨φ, z⟩ := hD b m; ⟨φ, R.fr _ _ z⟩
/-- given back: a state of its own -/
theorem Rel.undo (R : Rel K β S w) (hD : Lg.ExtD w.F N) (hp : S.all plainC = true) : Rel K (PL.reb S (unW w N)) S (unW w N) := by
  refine ⟨fun b o h => ?_, fun a o h => (reb_some h).1, .refl _, fun a o h => .inl h, fun _ _ => rfl, Nat.le_refl _, fun k c h hd => ?_, R.inj⟩
  · have nb : b ∉ N := fun m => by rw [show (unW w N).F b = none from Lg.undo_in m] at h; cases h
    exact (Lg.undo_out nb).trans (R.fr _ _ ((Lg.undo_out nb).symm.trans h))
  · have L := R.live k c h hd
    have na := off_live R hD h hd
    exact ⟨(Lg.undo_out na).trans L.nf, reb_live h hd, L.ok.undo hD (List.all_eq_true.mp hp c (List.mem_of_getElem? h)) na⟩
theorem EvOk.undo (hD : Lg.ExtD w.F N) {Γ : Ev} {σ : L2.St} {n : Nat} (h : EvOk K n w Γ σ) : EvOk K n (unW w N) Γ σ := ⟨h.len, fun i b e => let ⟨v, h1, h2⟩ := h.at_ i b e; ⟨v, h1, h2.undo hD⟩⟩
/-- told again; j: the table's place -/
theorem Rel.redo (R : Rel K β S w) {j : Nat} {PT : Addr} {q : Str} (hj : S[j]? = some (.tab PT q)) (hD : Lg.ExtD w.F N) (R' : Rel K (PL.reb (S.set j .dead) (unW w N)) S' w') (hn : ∀ b ∈ N, w'.H b = none) (hj' : S'[j]? = some .dead) :
    Rel K β (S'.set j (.tab PT q)) (reW w' w N) ∧ Later S.length w (S'.set j (.tab PT q)).length (reW w' w N) ∧ ∀ (n : Nat) (b : B) (v : V), DenB K n w' b v → DenB K n (reW w' w N) b v := by
  have Lj := R.live j _ hj (by intro z; cases z)
  obtain ⟨ePT, ps, t1, t2, t3⟩ := (show w.m j = PT ∧ ∃ ps : Array Value, w.H (w.m j) = some (.tbl ps) ∧ PySem.TriplesOk ps.toList ∧ Lg.CodesOf ps q w.F from Lj.ok)
  have offj : w.m j ∉ N := off_live R hD hj (by intro z; cases z)
  have lenS : (S.set j .dead).length = S.length := List.length_set
  have leS : S.length ≤ S'.length := by have := R'.n0; rwa [show (PL.reb (S.set j .dead) (unW w N)).n0 = _ from lenS] at this
  have ltj : j < S.length := get_lt hj
  have noF : ∀ b ∈ N, w'.F b = none := fun b m => R'.fr.free (hn b m)
  have rF : ∀ {b : Addr}, b ∉ N → (reW w' w N).F b = w'.F b := fun h => Lg.redo_out h
  have rH : ∀ {b : Addr}, b ∉ N → (reW w' w N).H b = w'.H b := fun h => Lg.redo_out h
  have iF : ∀ {b : Addr}, b ∈ N → (reW w' w N).F b = w.F b := fun h => Lg.redo_in h
  have iH : ∀ {b : Addr}, b ∈ N → (reW w' w N).H b = w.H b := fun h => Lg.redo_in h
  have smF : Same w'.F (reW w' w N).F := fun b o h => (rF fun m => by rw [noF b m] at h; cases h).trans h
  -- what the entry's heap tells stands in that of the call
  have h0 : ∀ {a : Addr} {o : HO}, a ∉ N → w.H a = some o → (∀ k c, (S.set j .dead)[k]? = some c → c ≠ .dead → w.m k ≠ a) → w'.H a = some o := fun {a o} na h nl => R'.keep _ _ (reb_of ((Lg.undo_out na).trans h) nl)
  have dead : ∀ {k : Nat} {c : Cell}, (S.set j .dead)[k]? = some c → c ≠ .dead → k ≠ j ∧ S[k]? = some c := fun {k c} h hd => by
    by_cases e : k = j
    · subst e
      rw [List.getElem?_set_self ltj] at h
      cases h
      exact absurd rfl hd
    · rw [List.getElem?_set_ne (fun z => e z.symm)] at h
      exact ⟨e, h⟩
  have base0 : ∀ {a : Addr} {o : HO}, β.H0 a = some o → ∀ k c, (S.set j .dead)[k]? = some c → c ≠ .dead → w.m k ≠ a := fun {a o} h k c hk hc e => by
    rw [← e, (R.live k c (dead hk hc).2 hc).n0] at h
    cases h
  have PTH : w'.H (w.m j) = some (.tbl ps) := h0 offj t1 fun k c hk hc e => (dead hk hc).1 (R.inj k j c _ (dead hk hc).2 hj hc (by intro z; cases z) e)
  have h00 : ∀ {a : Addr}, a ∉ N → (PL.reb (S.set j .dead) (unW w N)).H0 a = none → β.H0 a = none := fun {a} na h => by
    cases z : β.H0 a with
    | none => rfl
    | some o =>
      rw [reb_of (w := unW w N) ((Lg.undo_out na).trans (R.keep _ _ z)) (base0 z)] at h
      cases h
  have FsubF : ∀ {b : Addr} {o : HO}, b ∉ N → w.F b = some o → w'.F b = some o := fun {b o} nb h => R'.f0 _ _ ((Lg.undo_out nb).trans h)
  have smW : Same w.F (reW w' w N).F := fun b o h => by
    by_cases m : b ∈ N
    · exact (iF m).trans h
    · exact (rF m).trans (FsubF m h)
  have lt' : Later S.length w (S'.set j (.tab PT q)).length (reW w' w N) := ⟨by rw [List.length_set]; exact leS, fun k hk => R'.m0 k (by rw [show (PL.reb (S.set j .dead) (unW w N)).n0 = _ from lenS]; exact hk), smW⟩
  have emj : w'.m j = w.m j := R'.m0 j (by rw [show (PL.reb (S.set j .dead) (unW w N)).n0 = _ from lenS]; exact ltj)
  have nl2 : ∀ {k : Nat} {c : Cell}, S'[k]? = some c → c ≠ .dead → w'.m k ∉ N ∧ w'.m k ≠ w.m j := fun {k c} hk hd => by
    obtain ⟨o, ho⟩ := (R'.live k c hk hd).ok.some hd
    refine ⟨fun m => (by rw [hn _ m] at ho; cases ho), fun e => ?_⟩
    have z := (R'.live k c hk hd).n0
    rw [e, reb_of (w := unW w N) ((Lg.undo_out offj).trans t1) fun i ci hi hci e2 => (dead hi hci).1 (R.inj i j ci _ (dead hi hci).2 hj hci (by intro z; cases z) e2)] at z
    cases z
  have ltj' : j < S'.length := Nat.lt_of_lt_of_le ltj leS
  have get : ∀ {k : Nat} {c : Cell}, (S'.set j (.tab PT q))[k]? = some c → (k = j ∧ c = .tab PT q) ∨ (k ≠ j ∧ S'[k]? = some c) := fun {k c} h => by
    by_cases e : k = j
    · subst e
      rw [List.getElem?_set_self ltj'] at h
      cases h
      exact .inl ⟨rfl, rfl⟩
    · rw [List.getElem?_set_ne (fun z => e z.symm)] at h
      exact .inr ⟨e, h⟩
  have lt2 : Later S'.length w' S'.length (reW w' w N) := ⟨Nat.le_refl _, fun _ _ => rfl, smF⟩
  refine ⟨⟨fun b o h => ?_, fun a o h => ?_, fun b o h => smW _ _ (R.f0 _ _ h), fun a o h => ?_, fun k hk => (lt'.m k (Nat.lt_of_lt_of_le hk R.n0)).trans (R.m0 k hk), Nat.le_trans R.n0 lt'.le, fun k c h hd => ?_, fun i1 i2 c1 c2 g1 g2 d1 d2 e => ?_⟩, lt', fun n b v h => ?_⟩
  · by_cases m : b ∈ N
    · exact (iH m).trans (R.fr _ _ ((iF m).symm.trans h))
    · exact (rH m).trans (R'.fr _ _ ((rF m).symm.trans h))
  · by_cases m : a ∈ N
    · exact (iH m).trans (R.keep _ _ h)
    · exact (rH m).trans (h0 m (R.keep _ _ h) (base0 h))
  · by_cases m : a ∈ N
    · exact R.fn _ _ ((iF m).symm.trans h)
    · rcases R'.fn a o ((rF m).symm.trans h) with z | z
      · exact R.fn _ _ ((Lg.undo_out m).symm.trans z)
      · exact .inr (h00 m z)
  · rcases get h with ⟨rfl, rfl⟩ | ⟨ne, h'⟩
    · have eH : (reW w' w N).H (w.m k) = some (.tbl ps) := (rH offj).trans PTH
      have nF : w'.F (w.m k) = none := by
        cases z : w'.F (w.m k) with
        | none => rfl
        | some o =>
          rcases R'.fn _ _ z with y | y
          · rw [show (PL.reb (S.set k .dead) (unW w N)).F0 (w.m k) = w.F (w.m k) from Lg.undo_out offj, Lj.nf] at y; cases y
          · rw [reb_of (w := unW w N) ((Lg.undo_out offj).trans t1) fun i ci hi hci e2 => (dead hi hci).1 (R.inj i k ci _ (dead hi hci).2 hj hci (by intro z; cases z) e2)] at y; cases y
      show Live K _ _ _ (w'.m k) _
      rw [emj]
      exact ⟨(rF offj).trans nF, Lj.n0, ePT, ps, eH, t2, fun p cv hc => let ⟨c, e1, e2⟩ := t3 p cv hc; ⟨c, e1, smW _ _ e2⟩⟩
    · have L := R'.live k c h' hd
      obtain ⟨na, _⟩ := nl2 h' hd
      refine ⟨(rF na).trans L.nf, h00 na L.n0, ?_⟩
      rw [List.length_set]
      exact L.ok.later lt2 (rH na)
  · rcases get g1 with ⟨y1, _⟩ | ⟨y1, k1⟩ <;> rcases get g2 with ⟨y2, _⟩ | ⟨y2, k2⟩
    · exact y1.trans y2.symm
    · exact absurd (e.symm.trans (y1 ▸ emj)) (nl2 k2 d2).2
    · exact absurd (e.trans (y2 ▸ emj)) (nl2 k1 d1).2
    · exact R'.inj i1 i2 c1 c2 k1 k2 d1 d2 e
  · cases b with
    | fz d => exact Den.mono smF h
    | mt k => exact h
end
end PL
/-! lambdas made, lambdas called, the bag at any place (own work) -/
namespace PL
open PySem PySem.Spec PyProof.Rows L2 LamX
section
variable {K : PySem.W.Frag} {β : Base} {S S' : Sto} {w w' : Wd}
/-- things told at these places -/
noncomputable abbrev tellF (F H1 : Hp) (N : List Addr) : Hp := fun b => if b ∈ N then H1 b else F b
theorem Rel.told (R : Rel K β S w) {j : Nat} {PT : Addr} {q : Str} (hj : S[j]? = some (.tab PT q)) {H1 : Hp} {N : List Addr} (keep : ∀ b o, b ≠ PT → w.H b = some o → H1 b = some o)
    {ps1 : Array Value} (h1 : H1 PT = some (.tbl ps1)) (h2 : TriplesOk ps1.toList) (h3 : ∀ (pos : Pos) (cv : Value), codeAmong pos ps1.toList = some cv → ∃ c, cv = .ref c ∧ (w.F c = some (CodeO c q) ∨ c ∈ N ∧ H1 c = some (CodeO c q)))
    (hN : ∀ b ∈ N, b ≠ PT ∧ (w.H b = none ∨ ∃ o, w.F b = some o)) : Rel K β S ⟨w.m, tellF w.F H1 N, H1⟩ ∧ Later S.length w S.length ⟨w.m, tellF w.F H1 N, H1⟩ := by
  have Lj := R.live j _ hj (by intro z; cases z)
  have ePT : w.m j = PT := Lj.ok.1
  have nF : w.F PT = none := ePT ▸ Lj.nf
  have smF : ∀ b o, w.F b = some o → H1 b = some o := fun b o h => keep b o (fun e => by rw [e, nF] at h; cases h) (R.fr _ _ h)
  have sm : Same w.F (tellF w.F H1 N) := fun b o h => by
    by_cases m : b ∈ N
    · exact (if_pos m).trans (smF b o h)
    · exact (if_neg m).trans h
  have lt : Later S.length w S.length ⟨w.m, tellF w.F H1 N, H1⟩ := ⟨Nat.le_refl _, fun _ _ => rfl, sm⟩
  refine ⟨⟨fun b o h => ?_, fun a o h => keep a o (fun e => ?_) (R.keep _ _ h), fun b o h => sm _ _ (R.f0 _ _ h), fun a o h => ?_, R.m0, R.n0, fun k c h hd => ?_, R.inj⟩, lt⟩
  · by_cases m : b ∈ N
    · exact (if_pos m).symm.trans h
    · exact smF b o ((if_neg m).symm.trans h)
  · rw [e, ← ePT, Lj.n0] at h
    cases h
  · by_cases m : a ∈ N
    · rcases (hN a m).2 with z | ⟨o', z⟩
      · exact .inr (R.keep.free z)
      · have e : o' = o := Option.some.inj ((smF a o' z).symm.trans ((if_pos m).symm.trans h))
        exact R.fn a o (e ▸ z)
    · exact R.fn a o ((if_neg m).symm.trans h)
  · have L := R.live k c h hd
    obtain ⟨o, ho⟩ := L.ok.some hd
    have nm : w.m k ∉ N := fun m => by
      rcases (hN _ m).2 with z | ⟨o', z⟩
      · rw [z] at ho; cases ho
      · rw [L.nf] at z; cases z
    by_cases e : k = j
    · subst e
      rw [hj] at h
      cases h
      exact ⟨(if_neg nm).trans L.nf, L.n0, ePT, ps1, by show H1 (w.m k) = _; rw [ePT]; exact h1, h2, fun p cv hc => by
        obtain ⟨c, e1, e2⟩ := h3 p cv hc
        refine ⟨c, e1, ?_⟩
        rcases e2 with z | ⟨m, z⟩
        · exact sm _ _ z
        · exact (if_pos m).trans z⟩
    · have ne : w.m k ≠ PT := fun z => e (R.inj k j c _ h hj hd (by intro z; cases z) (z.trans ePT.symm))
      exact ⟨(if_neg nm).trans L.nf, L.n0, L.ok.later lt ((keep _ _ ne ho).trans ho.symm)⟩
/-- a lambda is made -/
theorem Rel.lam (R : Rel K β S w) {j : Nat} {PT : Addr} {q : Str} (hj : S[j]? = some (.tab PT q)) {ps : Array Value} (hP : w.H PT = some (.tbl ps)) {L : LamD} (hq : L.qual = q) {f c' : Addr} {dV : Value} {H0 H1 : Hp}
    (hd : L.dft = false ∧ dV = .none ∧ H0 = w.H ∨ L.dft = true ∧ ∃ t, dV = .ref t ∧ w.H t = none ∧ H0 = upd w.H t (Lg.TupE t)) (N : Lg.LamNew PT q ps ⟨L.qual, L.params, L.body, L.scope, L.cl, dV, c'⟩ f H0 H1) :
    ∃ F1 : Hp, Rel K β S ⟨w.m, F1, H1⟩ ∧ Later S.length w S.length ⟨w.m, F1, H1⟩ ∧ LamFs F1 f L := by
  have Lj := R.live j _ hj (by intro z; cases z)
  obtain ⟨ePT, ps', t1, t2, t3⟩ := (show w.m j = PT ∧ ∃ ps : Array Value, w.H (w.m j) = some (.tbl ps) ∧ PySem.TriplesOk ps.toList ∧ Lg.CodesOf ps q w.F from Lj.ok)
  have ep : ps' = ps := by
    rw [ePT, hP] at t1
    cases t1
    rfl
  subst ep
  have nF : w.F PT = none := ePT ▸ Lj.nf
  have k0 : ∀ b o, w.H b = some o → H0 b = some o := fun b o h => by
    rcases hd with ⟨_, _, e⟩ | ⟨_, t, _, nt, e⟩
    · rw [e]; exact h
    · rw [e]; exact (upd_ne (ne_of_none h nt)).trans h
  have free0 : ∀ b, H0 b = none → w.H b = none := fun b h => by
    cases z : w.H b with
    | none => rfl
    | some o => rw [k0 b o z] at h; cases h
  have notP : ∀ b, w.H b = none → b ≠ PT := fun b h e => by rw [e, hP] at h; cases h
  have hcode : ∀ pos : Pos, codeAmong pos ps'.toList = some (.ref c') → w.F c' = some (CodeO c' q) := fun pos h => by
    obtain ⟨c, e, z⟩ := t3 pos _ h
    cases e
    exact z
  have cN : c' ≠ PT ∧ (w.H c' = none ∨ ∃ o, w.F c' = some o) := by
    rcases N.old with z | ⟨pos, z⟩
    · exact ⟨notP _ (free0 _ z), .inl (free0 _ z)⟩
    · have y := hcode pos z
      exact ⟨fun e => (by rw [e, nF] at y; cases y), .inr ⟨_, y⟩⟩
  have fN : f ≠ PT ∧ (w.H f = none ∨ ∃ o, w.F f = some o) := ⟨notP _ (free0 _ N.nf), .inl (free0 _ N.nf)⟩
  obtain ⟨ps1, g1, g2, g3⟩ := N.tab
  have keep : ∀ b o, b ≠ PT → w.H b = some o → H1 b = some o := fun b o n h => N.keep b o n (k0 b o h)
  have codes : ∀ {M : List Addr}, c' ∈ M → ∀ (pos : Pos) (cv : Value), codeAmong pos ps1.toList = some cv → ∃ c, cv = .ref c ∧ (w.F c = some (CodeO c q) ∨ c ∈ M ∧ H1 c = some (CodeO c q)) := fun {M} hm pos cv hc => by
    rcases g3 pos cv hc with z | z
    · obtain ⟨c, e, y⟩ := t3 pos cv z
      exact ⟨c, e, .inl y⟩
    · exact ⟨c', z, .inr ⟨hm, N.c⟩⟩
  rcases hd with ⟨hb, e1, e2⟩ | ⟨hb, t, e1, nt, e2⟩
  · have R1 := R.told hj (N := [f, c']) keep g1 g2 (codes (.tail _ (.head _))) fun b m => by
      rcases List.mem_cons.mp m with rfl | m
      · exact fN
      · rw [List.mem_singleton.mp m]; exact cN
    refine ⟨_, R1.1, R1.2, dV, c', (if_pos (.head _)).trans N.f, (if_pos (.tail _ (.head _))).trans (hq ▸ N.c), .inl ⟨hb, e1⟩⟩
  · have R1 := R.told hj (N := [f, c', t]) keep g1 g2 (codes (.tail _ (.head _))) fun b m => by
      rcases List.mem_cons.mp m with rfl | m
      · exact fN
      · rcases List.mem_cons.mp m with rfl | m
        · exact cN
        · rw [List.mem_singleton.mp m]; exact ⟨notP _ nt, .inl nt⟩
    have ht : H1 t = some (Lg.TupE t) := N.keep t _ (notP _ nt) (by rw [e2]; exact upd_same)
    refine ⟨_, R1.1, R1.2, dV, c', (if_pos (.head _)).trans N.f, (if_pos (.tail _ (.head _))).trans (hq ▸ N.c), .inr ⟨hb, t, e1, (if_pos (.tail _ (.tail _ (.head _)))).trans ht⟩⟩
end
/-- the lambda that is written there -/
def lamD? (q : Str) (cl : List (Str × Addr)) : Expr → Option LamD
  | .Lambda params body scope _ => some ⟨q, params, body, scope, cloFrom cl scope.names [], !params.defaults.isEmpty⟩
  | _ => none
def lamDs (q : Str) (cl : List (Str × Addr)) (es : List Expr) : List LamD := es.filterMap (lamD? q cl)
/-- lambdas as the items of a list -/
inductive XLs (X : Cx) (PT : Addr) (q : Str) : List Expr → List LamD → Prop where
  | nil : XLs X PT q [] []
  | cons {params : Arguments} {body : Expr} {scope : Scope} {pos : Pos} {es : List Expr} {Ls : List LamD}
      (h : PE X (.Lambda params body scope pos) (Lg.tLamW PT q (!params.defaults.isEmpty) fun dV c' => ⟨q, params, body, scope, cloFrom X.env.cells scope.names [], dV, c'⟩))
      (r : XLs X PT q es Ls) (hs : starEach (.Lambda params body scope pos :: es) X.env = (false, eval (.Lambda params body scope pos) X.env) :: starEach es X.env := by rfl) :
      XLs X PT q (.Lambda params body scope pos :: es) (⟨q, params, body, scope, cloFrom X.env.cells scope.names [], !params.defaults.isEmpty⟩ :: Ls)
section
variable {X : Cx} {E : XK} {es : List Expr} {pos : Pos} {PT : Addr} {q : Str} {Ls : List LamD} {j : Nat}
theorem lam_one_made {K : PySem.W.Frag} {L : LamD} (hq : L.qual = q) {β : Base} {S : Sto} {w : Wd} {σ : L2.St} (R : Rel K β S w) (hj : S[j]? = some (.tab PT q)) {Q : VK}
    (k : ∀ (w' : Wd) (f : Addr), Rel K β S w' → Later S.length w S.length w' → LamFs w'.F f L → Q (.ref f) w'.H) : Lg.tLamW PT q L.dft (fun dV c' => ⟨L.qual, L.params, L.body, L.scope, L.cl, dV, c'⟩) σ w.H Q := by
  have Lj := R.live j _ hj (by intro z; cases z)
  obtain ⟨ePT, ps, t1, t2, t3⟩ := (show w.m j = PT ∧ ∃ ps : Array Value, w.H (w.m j) = some (.tbl ps) ∧ PySem.TriplesOk ps.toList ∧ Lg.CodesOf ps q w.F from Lj.ok)
  rw [ePT] at t1
  refine ⟨ps, t1, t2, fun p cv hc => let ⟨c, e1, e2⟩ := t3 p cv hc; ⟨c, e1, R.fr _ _ e2⟩, fun f c' dV H0 H1 hd N => ?_⟩
  obtain ⟨F1, R1, l1, hL⟩ := R.lam hj t1 hq hd N
  exact k ⟨w.m, F1, H1⟩ f R1 l1 hL
theorem XLs.made {K : PySem.W.Frag} (eK : X.K = K) (h : XLs X PT q es Ls) : ∃ t, PA X es t ∧ ∀ β S w (σ : L2.St) (Q : List V → Hp → Prop), Rel K β S w → S[j]? = some (.tab PT q) →
    (∀ (w' : Wd) (fs : List Addr), Rel K β S w' → Later S.length w S.length w' → Paired (LamFs w'.F) fs Ls → Q (fs.map V.ref) w'.H) → t σ w.H Q := by
  induction h with
  | nil => exact ⟨_, pa_nil, fun β S w σ Q R hj k => k w [] R (.refl _ _) .nil⟩
  | @cons params body scope pos es Ls h r hs ih =>
    obtain ⟨t, p, s⟩ := ih
    refine ⟨_, pa_cons h p hs, fun β S w σ Q R hj k => ?_⟩
    refine lam_one_made (K := K) (L := ⟨q, params, body, scope, cloFrom X.env.cells scope.names [], !params.defaults.isEmpty⟩) rfl R hj fun w1 f R1 l1 hL => ?_
    exact s β S w1 σ _ R1 hj fun w2 fs R2 l2 hP => k w2 (f :: fs) R2 (l1.trans l2) (.cons (hL.mono l2.F) hP)
/-- a list of lambdas -/
def eLamL (PT : Addr) (q : Str) (j : Nat) (Ls : List LamD) : FE := fun _ S _ R => (S[j]? = some (.tab PT q) ∧ Ls.length ≤ 1000) ∧ R (.mt S.length) (S ++ [.lams Ls])
theorem x_lams (h : XLs X PT q es Ls) : XE X E (.List es pos) (eLamL PT q j Ls) :=
  let ⟨_, p, s⟩ := h.made (j := j) rfl
  ⟨_, pe_lst p, fun β S w σ Γ Rx R Q hR hG hf hk hx => s β S w σ _ hR hf.1.1 fun w1 fs R1 l1 hP => ⟨by rw [List.length_map, hP.length]; exact Nat.le_trans hf.1.2 (by rw [sizeLine_eq]; decide), fun p hp => by
    have lt : Later S.length w1 S.length ⟨w1.m, w1.F, upd w1.H p (.lst (fs.map V.ref))⟩ := later_H
    obtain ⟨R2, l2⟩ := R1.newC hp (.lst (fs.map V.ref)) (c := .lams Ls) ⟨fs, upd_same, hP⟩
    exact (hk.later l1) _ _ _ (.ref p) hf.2 R2 l2 ⟨by rw [List.length_append]; exact Nat.lt_succ_self _, congrArg V.ref (if_pos rfl).symm⟩⟩⟩
end
/-! ### their bodies -/
/-- what the lambdas' bodies do -/
inductive XBs (X : Cx) (q : Str) (k : Nat) : List LamD → List FE → Prop where
  | nil : XBs X q k [] []
  | cons {params : Arguments} {body : Expr} {scope : Scope} {fe : FE} {Ls : List LamD} {fes : List FE} (hL : Lg.LamS1 X.env.scope scope X.N [])
      (hb : ∀ (s : Shared) (doc pm c' ctv : Value), BindsTo s (PySem.W.kdv_fn "<lambda>" q params (.expr body) scope (cloFrom X.env.cells scope.names []) .none doc pm c' ctv) ⟨[], []⟩ [])
      (hbody : ∀ (B : Heap) (f c' : Addr) (A : Around) (outer : List Env) (s : Shared) (H : Hp) (E : XK), Room k (A.deeper (lamEnv (Lg.over X B) scope s.heap.objs.size f c')) → XE (lamCx (Lg.over X B) A outer s H E scope f c') E body fe)
      (r : XBs X q k Ls fes) : XBs X q k (⟨q, params, body, scope, cloFrom X.env.cells scope.names [], false⟩ :: Ls) (fe :: fes)
  | cons1 {params : Arguments} {body : Expr} {scope : Scope} {y : Str} {fe : FE} {Ls : List LamD} {fes : List FE} (hL : Lg.LamS1 X.env.scope scope X.N [y])
      (hb : ∀ (s : Shared) (t : Addr) (tk : Tok) (doc pm c' ctv : Value), s.heap.get? t = some (PySem.W.kdv_tup [.int 0 tk]) → BindsTo s (PySem.W.kdv_fn "<lambda>" q params (.expr body) scope (cloFrom X.env.cells scope.names []) (.ref t) doc pm c' ctv) ⟨[], []⟩ [(y, .int 0 tk)])
      (hbody : ∀ (B : Heap) (f c' : Addr) (A : Around) (outer : List Env) (s : Shared) (H : Hp) (E : XK), Room k (A.deeper (lamEnv (Lg.over X B) scope s.heap.objs.size f c')) → XE (lamCx (Lg.over X B) A outer s H E scope f c') E body fe)
      (r : XBs X q k Ls fes) : XBs X q k (⟨q, params, body, scope, cloFrom X.env.cells scope.names [], true⟩ :: Ls) (fe :: fes)
/-- one reading for all contexts that have room -/
theorem lam_reading {X : Cx} {B : Heap} {k : Nat} {scope : Scope} {body : Expr} {fe : FE} {f c' : Addr}
    (hbody : ∀ (A : Around) (outer : List Env) (s : Shared) (H : Hp) (E : XK), Room k (A.deeper (lamEnv (Lg.over X B) scope s.heap.objs.size f c')) → XE (lamCx (Lg.over X B) A outer s H E scope f c') E body fe) :
    ∃ t : XK → TE, (∀ (A : Around) (outer : List Env) (s : Shared) (H : Hp) (E : XK), Room k (A.deeper (lamEnv (Lg.over X B) scope s.heap.objs.size f c')) → PE (lamCx (Lg.over X B) A outer s H E scope f c') body (t E)) ∧ ∀ E, SndE X.K E (t E) fe := by
  have h' : ∀ (E : XK) (A : Around) (outer : List Env) (s : Shared) (H : Hp) (_ : Room k (A.deeper (lamEnv (Lg.over X B) scope s.heap.objs.size f c'))), ∃ t, PE (lamCx (Lg.over X B) A outer s H E scope f c') body t ∧ SndE X.K E t fe := fun E A outer s H hr => (hbody A outer s H E hr).ex
  refine ⟨fun E σ H Q => ∀ (A : Around) (outer : List Env) (s : Shared) (H0 : Hp) (hr : Room k (A.deeper (lamEnv (Lg.over X B) scope s.heap.objs.size f c'))), (h' E A outer s H0 hr).choose σ H Q, fun A outer s H E hr => ⟨fun pins s' σ H' Q I hw => (h' E A outer s H hr).choose_spec.1.run pins s' σ H' Q I (hw A outer s H hr)⟩,
    fun E β S w σ Γ Rx R Q hR hG hf hk hx A outer s H hr => (h' E A outer s H hr).choose_spec.2 β S w σ Γ Rx R Q hR hG hf hk hx⟩
/-- the places of lambdas, of their code objects and defaults -/
theorem lam_places {F : Hp} : ∀ {fs : List Addr} {Ls : List LamD}, Paired (LamFs F) fs Ls → ∃ N : List Addr, Lg.ExtD F N ∧ Paired (fun f L => ∃ (dV : Value) (c' : Addr), (f ∈ N ∧ F f = some (Lg.LamO f ⟨L.qual, L.params, L.body, L.scope, L.cl, dV, c'⟩)) ∧ (c' ∈ N ∧ F c' = some (CodeO c' L.qual)) ∧
    (L.dft = false ∧ dV = .none ∨ L.dft = true ∧ ∃ t, dV = .ref t ∧ t ∈ N ∧ F t = some (Lg.TupE t))) fs Ls
  | _, _, .nil => ⟨[], fun _ m => (by cases m), .nil⟩
  | f :: fs, L :: Ls, .cons ⟨dV, c', h1, h2, h3⟩ r => by
    obtain ⟨N, hN, hr⟩ := lam_places r
    have up : ∀ {M : List Addr}, (∀ b ∈ N, b ∈ M) → Paired (fun f L => ∃ (dV : Value) (c' : Addr), (f ∈ M ∧ F f = some (Lg.LamO f ⟨L.qual, L.params, L.body, L.scope, L.cl, dV, c'⟩)) ∧ (c' ∈ M ∧ F c' = some (CodeO c' L.qual)) ∧
        (L.dft = false ∧ dV = .none ∨ L.dft = true ∧ ∃ t, dV = .ref t ∧ t ∈ M ∧ F t = some (Lg.TupE t))) fs Ls := fun {M} hm => L2.Paired.mapP hr fun _ _ ⟨dV, c', a, b, c⟩ => ⟨dV, c', ⟨hm _ a.1, a.2⟩, ⟨hm _ b.1, b.2⟩, c.imp id fun ⟨z, t, e, m, g⟩ => ⟨z, t, e, hm _ m, g⟩⟩
    rcases h3 with ⟨hb, e⟩ | ⟨hb, t, e, ht⟩
    · refine ⟨f :: c' :: N, fun b m => ?_, .cons ⟨dV, c', ⟨.head _, h1⟩, ⟨.tail _ (.head _), h2⟩, .inl ⟨hb, e⟩⟩ (up fun b m => .tail _ (.tail _ m))⟩
      rcases List.mem_cons.mp m with rfl | m
      · exact ⟨_, h1⟩
      · rcases List.mem_cons.mp m with rfl | m
        · exact ⟨_, h2⟩
        · exact hN b m
    · refine ⟨f :: c' :: t :: N, fun b m => ?_, .cons ⟨dV, c', ⟨.head _, h1⟩, ⟨.tail _ (.head _), h2⟩, .inr ⟨hb, t, e, .tail _ (.tail _ (.head _)), ht⟩⟩ (up fun b m => .tail _ (.tail _ (.tail _ m)))⟩
      rcases List.mem_cons.mp m with rfl | m
      · exact ⟨_, h1⟩
      · rcases List.mem_cons.mp m with rfl | m
        · exact ⟨_, h2⟩
        · rcases List.mem_cons.mp m with rfl | m
          · exact ⟨_, ht⟩
          · exact hN b m
/-- what is known of a lambda's reading -/
def LamR (K : PySem.W.Frag) (σ : L2.St) (tl : XK → Hp → VK → Prop) (fe : FE) : Prop := ∃ t : XK → TE, tl = (fun E H Q => t E σ H Q) ∧ ∀ E, SndE K E (t E) fe
/-- the lambdas, over the ground -/
theorem lam_all {X : Cx} {B : Heap} {σ : L2.St} {q : Str} {k : Nat} {F : Hp} {N : List Addr} (hq : q = X.env.qual ++ "<lambda>") (C : Lg.CelB X B σ) (hB : ∀ b ∈ N, ∀ φ, F b = some (.ext φ) → φ B) :
    ∀ {Ls : List LamD} {fes : List FE} {fs : List Addr}, XBs X q k Ls fes →
    Paired (fun f L => ∃ (dV : Value) (c' : Addr), (f ∈ N ∧ F f = some (Lg.LamO f ⟨L.qual, L.params, L.body, L.scope, L.cl, dV, c'⟩)) ∧ (c' ∈ N ∧ F c' = some (CodeO c' L.qual)) ∧ (L.dft = false ∧ dV = .none ∨ L.dft = true ∧ ∃ t, dV = .ref t ∧ t ∈ N ∧ F t = some (Lg.TupE t))) fs Ls →
    ∃ tls : List (XK → Hp → VK → Prop), Paired (Lg.LamB X.prog X.w X.K X.mg B (k + 1)) fs tls ∧ Paired (LamR X.K σ) tls fes
  | _, _, _, .nil, .nil => ⟨[], .nil, .nil⟩
  | _, _, _, @XBs.cons _ _ _ params body scope fe Ls fes hL hb hbody r, @Paired.cons _ _ _ f _ fs _ ⟨dV, c', ⟨mf, h1⟩, ⟨mc, h2⟩, h3⟩ hr => by
    obtain ⟨tls, p1, p2⟩ := lam_all hq C hB r hr
    subst hq
    obtain ⟨t, ht, hs⟩ := lam_reading (fun A outer s H E h => hbody B f c' A outer s H E h)
    have hf := (show ∃ doc pm ctv : Value, B.get? f = some (Lg.LF.obj ⟨X.env.qual ++ "<lambda>", params, body, scope, cloFrom X.env.cells scope.names [], dV, c'⟩ doc pm ctv) from hB f mf _ h1)
    have hco := (show ∃ (oc : Obj) (vs : Array Value) (tk : Tok), B.get? c' = some oc ∧ oc.data = .fields vs ∧ vs[1]? = some (.str (X.env.qual ++ "<lambda>") tk) from hB c' mc _ h2)
    obtain ⟨doc, pm, ctv, hf⟩ := hf
    rcases h3 with ⟨_, e⟩ | ⟨z, _⟩
    · have e : dV = .none := e
      subst e
      exact ⟨_, .cons (Lg.lam_fnG (t := t) (bs := []) C hL hf hco (fun s _ => hb s doc pm (.ref c') ctv) ht) p1, .cons ⟨t, rfl, hs⟩ p2⟩
    · cases z
  | _, _, _, @XBs.cons1 _ _ _ params body scope y fe Ls fes hL hb hbody r, @Paired.cons _ _ _ f _ fs _ ⟨dV, c', ⟨mf, h1⟩, ⟨mc, h2⟩, h3⟩ hr => by
    obtain ⟨tls, p1, p2⟩ := lam_all hq C hB r hr
    subst hq
    obtain ⟨t, ht, hs⟩ := lam_reading (fun A outer s H E h => hbody B f c' A outer s H E h)
    have hf := (show ∃ doc pm ctv : Value, B.get? f = some (Lg.LF.obj ⟨X.env.qual ++ "<lambda>", params, body, scope, cloFrom X.env.cells scope.names [], dV, c'⟩ doc pm ctv) from hB f mf _ h1)
    have hco := (show ∃ (oc : Obj) (vs : Array Value) (tk : Tok), B.get? c' = some oc ∧ oc.data = .fields vs ∧ vs[1]? = some (.str (X.env.qual ++ "<lambda>") tk) from hB c' mc _ h2)
    obtain ⟨doc, pm, ctv, hf⟩ := hf
    rcases h3 with ⟨z, _⟩ | ⟨_, u, e, mu, hu⟩
    · cases z
    · have e : dV = .ref u := e
      subst e
      obtain ⟨tk, htk⟩ := (show ∃ tk : Tok, B.get? u = some (PySem.W.kdv_tup [.int 0 tk]) from hB u mu _ hu)
      exact ⟨_, .cons (Lg.lam_fnG (t := t) (bs := [(y, .int 0 tk)]) C hL hf hco (fun s hk => hb s u tk doc pm (.ref c') ctv (hk _ _ htk)) ht) p1, .cons ⟨t, rfl, hs⟩ p2⟩
/-! ### a def that makes lambdas: by the cells of its frame -/
theorem cells_above {m : Nat} : ∀ (names : List (Str × NameKind)) (n : Nat) (acc : List (Str × Addr)), m ≤ n → (∀ p ∈ acc, m ≤ p.2) → ∀ p ∈ cellsFrom n names acc, m ≤ p.2
  | [], _, _, _, h, p, hp => h p hp
  | (x, k) :: r, n, acc, hn, h, p, hp => by
    unfold cellsFrom at hp
    split at hp
    · exact cells_above r (n + 1) _ (Nat.le_succ_of_le hn) (fun q hq => by
        rcases List.mem_cons.mp hq with e | hq
        · rw [e]; exact hn
        · exact h q hq) p hp
    · exact cells_above r n acc hn h p hp
def defWL (n m : Nat) (f : List (Str × Addr) → FS) : FW := fun bs S Rx R => bs.length = n ∧ ∀ cl, f cl (bs.map some ++ List.replicate m none) S { nx := fun _ S' => R (.fz .non) S', rt := R, xe := Rx }
section
variable {P : Program} {w : World} {K : PySem.W.Frag} {mg : Str → Option Value} {base : Heap}
theorem okPL {x qual : Str} {st : Stmt} {f cL : Addr} {oc kV doc pm ct : Value} {od an : Option Addr} {osl : Array (Option Value)} {N ps : List Str} {k n m : Nat} {fb : List (Str × Addr) → FS}
    (lk : K.lookup f = some ⟨oc, od, .func (PySem.W.fnOf x qual (defArgs st) (defBody st) (defScope st) .none kV doc pm an (.ref cL) ct), osl⟩) (hcd : PySem.W.codeIn K (.ref cL) qual = true)
    (S : FnScope N ps (defScope st)) (hn : ps.length = n) (hm : N.length = n + m)
    (hbody : ∀ (A : Around) (outer : List Env) (s : Shared) (H : Hp) (E : XK), Room k (A.deeper (PyProof.Rows.envOfC qual (defScope st) s.heap.objs.size f (.ref cL))) → (∀ y c, (PyProof.Rows.envOfC qual (defScope st) s.heap.objs.size f (.ref cL)).cells.lookup y = some c → s.heap.objs.size ≤ c) →
      XSs (cxOf CX0 P w K mg base N qual (defScope st) f (.ref cL) A outer s H E).nox E0 (defBody st) (fb (PyProof.Rows.envOfC qual (defScope st) s.heap.objs.size f (.ref cL)).cells)) :
    FnOk P w K mg base CX0 (k + 1) f (PySem.W.fnOf x qual (defArgs st) (defBody st) (defScope st) .none kV doc pm an (.ref cL) ct) ps (spP K (defWL n m fb)) :=
  fn_of lk hcd S (fun vs H Q E ⟨β, S, w, bs, R, _, _, hb, hW, _⟩ => by rw [← hb.length, hW.1, hn]) fun A outer s H vs Q E hr ⟨β, S, w1, bs, R, e, hR, hb, hW, hk⟩ => by
    obtain ⟨t, p, q⟩ := (hbody A outer s H E hr fun y c hc => cells_above (m := s.heap.objs.size) (defScope st).names (s.heap.objs.size + 1) [] (Nat.le_succ _) (fun p hp => (by cases hp)) (y, c) (PySem.mem_of_lookup hc)).ex
    subst e
    have back : ∀ {S' : Sto} {w' : Wd}, Rel K (reb S w1) S' w' → Rel K β S' w' ∧ Later S.length w1 S'.length w' := fun R' => hR.unreb R'
    exact ⟨t, p.nox, q (reb S w1) S w1 _ _ _ _ hR.reb (start_ok hb (by rw [hW.1]; exact hm)) (hW.2 _) ⟨fun Γ S' w' σ h R' _ => hk _ S' w' .non h (back R').1 (back R').2 .non, fun b S' w' v h R' d => hk b S' w' v h (back R').1 (back R').2 d,
      fun C fs S' w' d vs h => h.elim, fun _ _ _ _ h => h.elim, fun _ _ _ _ h => h.elim⟩⟩
end
/-! ### the bag at any place -/
section
variable {K : PySem.W.Frag} {β : Base} {S S' : Sto} {w w' : Wd}
theorem Rel.withBagJ (R : Rel K β S w) {j : Nat} (h : S[j]? = some .bag) : Rel K (PL.reb [.bag] ⟨fun _ => w.m j, w.F, w.H⟩) [.bag] ⟨fun _ => w.m j, w.F, w.H⟩ := by
  have L := R.live j .bag h (by intro z; cases z)
  refine ⟨R.fr, fun a o h => (reb_some h).1, .refl _, fun a o h => .inl h, fun _ _ => rfl, Nat.le_refl _, fun k c hk hd => ?_, fun i i' ci cj hi hj _ _ _ => ?_⟩
  · cases k with
    | zero =>
      cases hk
      exact ⟨L.nf, reb_live (S := [.bag]) (k := 0) (c := .bag) rfl (by intro z; cases z), L.ok⟩
    | succ k => cases hk
  · cases i with
    | zero => cases i' with
      | zero => rfl
      | succ j => cases hj
    | succ i => cases hi
theorem Rel.unbagJ (R : Rel K β S w) {j : Nat} (h : S[j]? = some .bag) (R' : Rel K (PL.reb [.bag] ⟨fun _ => w.m j, w.F, w.H⟩) S' w') (h' : S'[0]? = some .bag) : Rel K β S ⟨w.m, w'.F, w'.H⟩ ∧ Later S.length w S.length ⟨w.m, w'.F, w'.H⟩ := by
  have L0 := R.live j .bag h (by intro z; cases z)
  have keep : ∀ a o, a ≠ w.m j → w.H a = some o → w'.H a = some o := fun a o n e => R'.keep a o (reb_of (w := ⟨fun _ => w.m j, w.F, w.H⟩) e fun k c hk _ e2 => n e2.symm)
  have hn : ∀ {a : Addr}, (PL.reb [.bag] ⟨fun _ => w.m j, w.F, w.H⟩).H0 a = none → w.H a = none ∨ a = w.m j := fun {a} q => by
    by_cases e : a = w.m j
    · exact .inr e
    · left
      cases z : w.H a with
      | none => rfl
      | some o => rw [reb_of (w := ⟨fun _ => w.m j, w.F, w.H⟩) z fun k c hk _ e2 => e e2.symm] at q; cases q
  have em : w'.m 0 = w.m j := R'.m0 0 Nat.zero_lt_one
  have lt : Later S.length w S.length ⟨w.m, w'.F, w'.H⟩ := ⟨Nat.le_refl _, fun _ _ => rfl, R'.f0⟩
  refine ⟨⟨R'.fr, fun a o q => keep a o (fun e => by rw [e, L0.n0] at q; cases q) (R.keep _ _ q), R.f0.trans R'.f0, fun a o q => ?_, R.m0, R.n0, fun k c hk hd => ?_, R.inj⟩, lt⟩
  · rcases R'.fn a o q with z | z
    · exact R.fn a o z
    · rcases hn z with z | z
      · exact .inr (R.keep.free z)
      · rw [z]; exact .inr L0.n0
  · have L := R.live k c hk hd
    by_cases e : k = j
    · subst e
      rw [h] at hk
      cases hk
      have L' := R'.live 0 .bag h' (by intro z; cases z)
      rw [em] at L'
      refine ⟨L'.nf, L.n0, ?_⟩
      obtain ⟨q, cells, i, b, s, c, h1, h2, h3⟩ := (show ∃ (q : Addr) (cells : List Int) (i : Nat) (b s c : Int), w'.H (w.m k) = some (.lst [.ref q, .int (i : Nat), .int b, .int s, .int c]) ∧ w'.F q = some (.lst (cells.map V.int)) ∧ cells.length ≤ 63 ∧ i ≤ cells.length ∧ 0 ≤ b ∧ 0 ≤ s ∧ s < 2147483579 from L'.ok)
      exact ⟨q, cells, i, b, s, c, h1, h2, h3⟩
    · have ne : w.m k ≠ w.m j := fun z => e (R.inj k j c .bag hk h hd (by intro z; cases z) z)
      obtain ⟨o, ho⟩ := L.ok.some hd
      refine ⟨?_, L.n0, L.ok.later lt ((keep _ _ ne ho).trans ho.symm)⟩
      cases q : w'.F (w.m k) with
      | none => rfl
      | some u =>
        rcases R'.fn _ _ q with z | z
        · have z : w.F (w.m k) = some u := z
          rw [L.nf] at z; cases z
        · rcases hn z with z | z
          · rw [z] at ho; cases ho
          · exact absurd z ne
/-- arguments of which the bag, the j-th cell, may be one; as the callee sees them -/
def bagArgsJ (j : Nat) : List B → Prop
  | [] => True
  | .fz _ :: bs => bagArgsJ j bs
  | .mt k :: bs => k = j ∧ bagArgsJ j bs
def bagRe : List B → List B
  | [] => []
  | .fz d :: bs => .fz d :: bagRe bs
  | .mt _ :: bs => .mt 0 :: bagRe bs
theorem DenBL.bagJ {j n : Nat} : ∀ {bs : List B} {vs : List V}, bagArgsJ j bs → DenBL K n w bs vs → DenBL K 1 ⟨fun _ => w.m j, w.F, w.H⟩ (bagRe bs) vs
  | [], _, _, .nil => .nil
  | .fz _ :: _, _, h, .cons a t => .cons (b := .fz _) a (DenBL.bagJ h t)
  | .mt k :: _, _, h, .cons a t => .cons (b := .mt 0) ⟨Nat.zero_lt_one, h.1 ▸ a.2⟩ (DenBL.bagJ h.2 t)
/-- a call that draws from the bag at j -/
def gBagJ (j : Nat) (W : FW) (dds : List D) : GW := fun bs S _ R => S[j]? = some .bag ∧ bagArgsJ j bs ∧ W (bagRe bs ++ dds.map B.fz) [.bag] noX fun b S1 => S1[0]? = some .bag ∧ match b with
  | .fz d => R (.fz d) S
  | .mt _ => False
theorem snd_bagJ {j : Nat} {W : FW} {dds : List D} {dvs : List V} (hd : Paired (fun d v => ∀ F, Den K F d v) dds dvs) : SndW0 K W dvs (gBagJ j W dds) := fun β S w bs vs R Q E hR hb hg hk => by
  obtain ⟨h0, h1, h⟩ := hg
  refine ⟨_, [.bag], ⟨fun _ => w.m j, w.F, w.H⟩, _, _, rfl, hR.withBagJ h0, (hb.bagJ h1).app (DenL.bz (DenL.den hd)), h, fun b S' w' v q R' l' d => ?_⟩
  obtain ⟨q0, q⟩ := q
  cases b with
  | mt _ => exact (show False from q).elim
  | fz x =>
    obtain ⟨R2, l2⟩ := hR.unbagJ h0 R' q0
    exact hk _ S ⟨w.m, w'.F, w'.H⟩ v q R2 l2 d
end
end PL
/-! super().__init__(..) that may raise; constructors that may raise (own work) -/
namespace PL
open PySem L2 PySem.W NdefX ClX
section
variable {P : Program} {w : World} {K : PySem.W.Frag} {mg : Str → Option Value} {base : Heap}
theorem fn_superX {x qual : Str} {st : Stmt} {cc cda D f f2 : Addr} {fd : FuncData} {N ps : List Str} {k j : Nat} {sp sp2 : Sp} {p0 p1 apos cpos epos : Pos} {e : Expr} {es : List Expr} {rest : List Stmt} {ar : Arg} {pr : List Str}
    (F : FunS P K x qual st cc cda D f fd) (S : NScope N ps ["__class__"] (defScope st)) (hbd : defBody st = .Expr (.Call (.Attribute (.Call (.Name "super" p0) [] [] p1) "__init__" apos) (e :: es) [] cpos) epos :: rest)
    (hpar : ((defArgs st).posonlyargs ++ (defArgs st).args).head? = some ar) (har : ps = ar.arg :: pr) (hsc : (defScope st).names.lookup ("super" : Str) = some .globalImplicit)
    (hint : ∀ L : Addr, interactive (envF (nfS x qual st cc cda) f L) = false)
    (hsw : ∀ L : Addr, swapsWith (.Call (.Attribute (.Call (.Name "super" p0) [] [] p1) "__init__" apos) (e :: es) [] cpos) none epos.line (envF (nfS x qual st cc cda) f L) = pure false)
    (hev : ∀ L : Addr, ∃ pl : Sem Bool, eval (.Call (.Attribute (.Call (.Name "super" p0) [] [] p1) "__init__" apos) (e :: es) [] cpos) (envF (nfS x qual st cc cda) f L) = (do
      let ov ← attributeBase (.Call (.Name "super" p0) [] [] p1) "__init__" (envF (nfS x qual st cc cda) f L) (eval (.Call (.Name "super" p0) [] [] p1) (envF (nfS x qual st cc cda) f L))
      standAt apos.atName
      let (fv, first) ← holding [ov] (getMethod ov "__init__" pl)
      callWith cpos fv first (backTo cpos (starEach (e :: es) (envF (nfS x qual st cc cda) f L))) []))
    (hst : ∀ L : Addr, starEach (e :: es) (envF (nfS x qual st cc cda) f L) = (false, eval e (envF (nfS x qual st cc cda) f L)) :: starEach es (envF (nfS x qual st cc cda) f L))
    (hpl : ∀ L : Addr, (backTo cpos (starEach es (envF (nfS x qual st cc cda) f L))).any (·.1) = false)
    (F2 : FnR P w K mg base (L2.CX P w) j f2 sp2) (hj : j ≤ k)
    (len : ∀ vs H Q E, sp vs H Q E → vs.length = ps.length)
    (hbody : ∀ (A : Around) (outer : List Env) (s : Shared) (H : Hp) (vs : List V) (Q : VK) (E : XK), Room k (A.deeper (envF (nfS x qual st cc cda) f s.heap.objs.size)) → sp vs H Q E →
      ∃ (ta : TA) (t : TS) (a C dx : Addr) (fs : List (Str × V)) (vr : List V), vs = .ref a :: vr ∧ H a = some (.ins C dx fs) ∧ SupAt K C D f2 ∧
        PA (ncx (L2.CX P w) P w K mg base N (nfS x qual st cc cda) f A outer s H E) (e :: es) ta ∧ PSs (ncx (L2.CX P w) P w K mg base N (nfS x qual st cc cda) f A outer s H E) rest t ∧
        ta (startF N vs [some (.ref D)]) H fun us H1 => sp2 (.ref a :: us) H1 (fun _ H2 => t { nx := fun _ H' => Q .non H', rt := Q } (startF N vs [some (.ref D)]) H2) E) :
    FnOk P w K mg base (L2.CX P w) (k + 1) f fd ps sp := by
  obtain ⟨oc, od, kV, doc, pm, an, ct, osl, rfl, lk⟩ := F.ex
  obtain ⟨ccl, cdd, cvs, ccs, file, tf, hcode, hvs, hfile⟩ := F.rec_
  obtain ⟨cl, cld, csl, hcell⟩ := F.cell
  refine ⟨len, fun A outer s H args us vs Q E hr e0 hb r hsp => ?_⟩
  have hl := len _ _ _ _ hsp
  have KX : K.In s.heap := e0.mod.kin.keeps fun b o e => (e0.bs b o e).1
  have lim : s.heap.NoLimit := e0.mod.nolimit.keeps fun b o e => (e0.bs b o e).1
  have hb' := hb
  refine codeAny_call_function hr.depth (KX _ _ lk) rfl S.co S.gen rfl (PySem.W.codeRec_of KX F.cd) (hb _ _ _ _ ?_)
  refine wpAny_newFunctionEnv S.nocell (fun ⟨n, _⟩ hy => S.par n (List.of_mem_zip hy).1) (fun h₁ hns hsb => ⟨lim.fresh _ hsb, ?_⟩) S.kind
  have kp : ∀ b o, s.heap.get? b = some o → h₁.get? b = some o := fun b o e => hsb.extBut b o (Nat.ne_of_lt (Heap.lt_size e)) (Heap.get?_push_of_some _ e)
  have cellHere : s.heap.IsCell cc (some (.ref D)) := ⟨_, KX _ _ hcell, rfl⟩
  have ccbase : base.get? cc = some ⟨cl, cld, .cell (some (.ref D)), csl⟩ := e0.mod.kin _ _ hcell
  have C : CellsAt (nfS x qual st cc cda).cl ["__class__"] [some (.ref D)] s.heap H := by
    refine ⟨rfl, fun y c h => ?_, fun y z c h1 h2 => ?_, fun i y h => ?_⟩
    · have hc : c = cc := by
        have h : List.lookup y [(("__class__" : Str), cc)] = some c := h
        unfold List.lookup at h
        split at h
        · exact (Option.some.inj h).symm
        · cases h
      subst hc
      exact ⟨(e0.bs _ _ ccbase).2, _, cellHere⟩
    · have g : ∀ {y : Str}, List.lookup y [(("__class__" : Str), cc)] = some c → y = "__class__" := fun {y} h => by
        unfold List.lookup at h
        split at h
        · rename_i q
          exact eq_of_beq q
        · cases h
      exact (g h1).trans (g h2).symm
    · cases i with
      | zero =>
        cases h
        exact ⟨cc, rfl, fun v hv => ⟨.ref D, by cases hv; rfl, cellHere⟩⟩
      | succ i => cases i <;> cases h
  have I : Inv (ncx (L2.CX P w) P w K mg base N (nfS x qual st cc cda) f A outer s H E) [] (startF N vs [some (.ref D)]) H { s with heap := h₁, toks := s.toks + (ps.zip us).length } := inv_startN S hr.hd e0 hl r C hns kp
  have hmg : mg "super" = none := PySem.W.mg_none_of e0.mod.kin e0.mod.glob F.sup
  obtain ⟨ta, t, a, Co, dx, fs, vr, rfl, ha, hC, hPA, hPSs, hta⟩ := hbody A outer s H _ Q E (hr.deeper _) hsp
  have J : Inv (ncx (L2.CX P w) P w K mg base N (nfS x qual st cc cda) f A outer s H E) [] (startF N (.ref a :: vr) [some (.ref D)]) H { s with heap := h₁, toks := s.toks + (ps.zip us).length } := I
  have ok := J.ok
  show codeAny _ _ (.func (defBody st) (ncx (L2.CX P w) P w K mg base N (nfS x qual st cc cda) f A outer s H E).env) _ _
  refine ks_codeAny_funcAt ?_
  refine ks_wpAt_mono (Q := SP (ncx (L2.CX P w) P w K mg base N (nfS x qual st cc cda) f A outer s H E) [] { nx := fun _ H' => Q .non H', rt := Q }) (E := (ncx (L2.CX P w) P w K mg base N (nfS x qual st cc cda) f A outer s H E).xe) ?_ (fun fl s' hs => ?_) (fun _ _ z => z)
  · rw [hbd]
    have KX1 : K.In h₁ := fun b o e => kp _ _ (KX b o e)
    have glob1 : h₁.Ns mainGlobals mg := e0.mod.glob.keeps fun b o e => kp _ _ ((e0.bs b o e).1)
    obtain ⟨mb, hb1, hb2⟩ := e0.mod.blt
    have hmb : h₁.Ns builtinsNs mb := hb1.keeps fun b o e => kp _ _ ((e0.bs b o e).1)
    obtain ⟨oD, hD1, cdD, hD2⟩ : ∃ oD, h₁.get? D = some oD ∧ ∃ cd, oD.data = .cls cd := by
      have q := F.cls
      unfold PySem.W.isClsIn PySem.W.clsIn at q
      split at q
      · rename_i c d cd' sl ho
        exact ⟨_, KX1 _ _ ho, _, rfl⟩
      · cases q
    obtain ⟨pl, hev⟩ := hev s.heap.objs.size
    refine ks_wpAt_execs_cons (ks_wpAt_Expr_any (ks_wpAt_MethodCall (pl := pl) (ks_wpAt_super_base (f := f) (cc := cda) (ar := ar) hsc (S.frk _ List.mem_cons_self) rfl rfl (KX1 _ _ lk) rfl hpar rfl (KX1 _ _ hcode) rfl hvs hfile F.top ?_) hev) (hint _) (hsw _))
    refine ks_loadName_global S.kind hsc (Calls.loadGlobal_builtin glob1 hmg hmb ((hb2 _ (by decide)).trans (by decide +kernel)) ⟨rfl, ?_⟩)
    refine wpAny_loadName_free S.kind (S.frk _ List.mem_cons_self) rfl ⟨_, KX1 _ _ hcell, rfl⟩ ?_
    have hself : (ps.zip us).reverse.lookup ar.arg = some (.ref a) := by
      subst har
      cases r with
      | cons r0 rt =>
        obtain rfl := (show _ = Value.ref a from r0)
        exact zip_look (i := 0) (by
          have q := S.nd.sublist (List.take_sublist ((ar.arg :: pr).length + [Str.ofString "__class__"].length) N)
          rw [S.pre] at q
          exact (List.nodup_append.mp q).1) rfl rfl
    refine wpAny_loadName_local S.kind (S.par _ (har ▸ List.mem_cons_self)) hns hself ?_
    refine ks_wpAny_isType_cls hD1 hD2 ⟨rfl, ?_⟩
    obtain ⟨mA, O, _⟩ := ins_get J.hok ha
    obtain ⟨od2, IA, _⟩ := O.look
    refine ks_wpAny_call_super hD1 hD2 IA.at_ IA.cls (fun c q => ?_) (PySem.W.looks_mroIn KX1 hC.sub) (fun h2 hso k2 => ?_)
    · have z := IA.no
      unfold PySem.W.notCls at z
      rw [q] at z
      exact Bool.noConfusion z
    have KX2 : K.In h2 := fun b o q => k2 _ _ (KX1 b o q)
    obtain ⟨cdC, hcC, hal⟩ := Option.bind_eq_some_iff.mp hC.at_
    obtain ⟨of, hof, hofc⟩ : ∃ of, h2.get? f2 = some of ∧ of.cls = .type "function" := by
      have ht' : (K.lookup f2).map (·.cls) = some (.type "function") := hC.ty
      cases z : K.lookup f2 with
      | none => rw [z] at ht'; cases ht'
      | some of => rw [z] at ht'; exact ⟨of, KX2 _ _ z, Option.some.inj ht'⟩
    have J2 : Inv (ncx (L2.CX P w) P w K mg base N (nfS x qual st cc cda) f A outer s H E) [] (startF N (.ref a :: vr) [some (.ref D)]) H { s with heap := h2, toks := s.toks + (ps.zip us).length } := J.kept (t' := s.toks + (ps.zip us).length) k2
    refine ks_wpAny_getMethod_super (l₀ := cdC.mro) hso (PySem.W.looks_opaque KX2 F.opq) (fun A Q E s k q => wpAny_bind ((PySem.W.looks_clsIn KX2 hcC) A _ E s k (wpAny_pure q))) rfl KX2 hal hof hofc (ks_ne KX1 IA hcC) (by decide) ?_
    have J3 := met_new (g := f2) (C := a) J2
    refine callwith_cm J3 (base_none J2 (Nat.le_refl _)) hC.fi (thn (hPA.run cpos _ _ _ H _ J3 hta) fun us2 s3 ⟨vs2, H2, J4, rv, q2⟩ => ⟨⟨pin_at J4, J4.kIn⟩, ?_⟩) (hst _) (hpl _)
    refine thn (run_cm F2 ((hr.deeper _).mono hj) (passes_call (takes_of rfl rfl rfl rfl) fun _ _ _ _ h => h) J4 rv q2) fun v s4 ⟨v2, H3, J5, rv2, q3⟩ => ?_
    exact wpAt_of_wpAny (hPSs.run [] _ _ H3 _ J5 q3)
  · have fin : ∀ {σ' : L2.St} {H' : Hp} {v : V} {u : Value}, Inv (ncx (L2.CX P w) P w K mg base N (nfS x qual st cc cda) f A outer s H E) [] σ' H' s' → L2.RelV v u → Q v H' → CE outer P w H s Q u s' :=
      fun {σ' H' v u} J rv q => ⟨v, H', J.os, J.bare, J.base, J.hok, rv, q⟩
    cases fl with
    | ret u =>
      obtain ⟨v, σ', H', J, rv, q⟩ := hs
      exact fin J rv q
    | next =>
      obtain ⟨σ', H', J, q⟩ := hs
      exact fin (v := V.non) (u := Value.none) J rfl q
    | brk =>
      obtain ⟨_, _, _, q⟩ := hs
      exact False.elim q
    | cont =>
      obtain ⟨_, _, _, q⟩ := hs
      exact False.elim q
/-- what such a method does, with what it raises: the arguments, the base's method at the same object, the rest -/
def supWX (n m : Nat) (dn : Str) (cs : List Str) (W2 : FW) (fa : FA) (fb : FS) : FW := fun bs S Rx R => match bs with
  | .mt j :: br => (match S[j]? with
    | some (.ins c _) => c ∈ cs ∧ (.mt j :: br : List B).length = n ∧ fa ((.mt j :: br).map some ++ (some (.fz (.cls dn)) :: List.replicate m none)) S Rx fun us S1 => W2 (.mt j :: us) S1 Rx fun _ S2 => fb ((.mt j :: br).map some ++ (some (.fz (.cls dn)) :: List.replicate m none)) S2 { nx := fun _ S' => R (.fz .non) S', rt := R, xe := Rx }
    | _ => False)
  | _ => False
theorem okSupX {x qual : Str} {st : Stmt} {cc cda D f f2 : Addr} {fd : FuncData} {N ps : List Str} {k j n m : Nat} {p0 p1 apos cpos epos : Pos} {e : Expr} {es : List Expr} {rest : List Stmt} {ar : Arg} {pr : List Str} {dn : Str} {cs : List Str} {W2 : FW} {fa : FA} {fb : FS}
    (F : FunS P K x qual st cc cda D f fd) (S : NScope N ps ["__class__"] (defScope st)) (hD : clsAt K dn = D) (hcs : ∀ c ∈ cs, SupAt K (clsAt K c) D f2) (F2 : FnR P w K mg base (L2.CX P w) j f2 (spX K W2)) (hj : j ≤ k)
    (hn : ps.length = n) (hm : N.length = n + (1 + m))
    (hbd : defBody st = .Expr (.Call (.Attribute (.Call (.Name "super" p0) [] [] p1) "__init__" apos) (e :: es) [] cpos) epos :: rest)
    (hpar : ((defArgs st).posonlyargs ++ (defArgs st).args).head? = some ar) (har : ps = ar.arg :: pr) (hsc : (defScope st).names.lookup ("super" : Str) = some .globalImplicit)
    (hint : ∀ L : Addr, interactive (envF (nfS x qual st cc cda) f L) = false)
    (hsw : ∀ L : Addr, swapsWith (.Call (.Attribute (.Call (.Name "super" p0) [] [] p1) "__init__" apos) (e :: es) [] cpos) none epos.line (envF (nfS x qual st cc cda) f L) = pure false)
    (hev : ∀ L : Addr, ∃ pl : Sem Bool, eval (.Call (.Attribute (.Call (.Name "super" p0) [] [] p1) "__init__" apos) (e :: es) [] cpos) (envF (nfS x qual st cc cda) f L) = (do
      let ov ← attributeBase (.Call (.Name "super" p0) [] [] p1) "__init__" (envF (nfS x qual st cc cda) f L) (eval (.Call (.Name "super" p0) [] [] p1) (envF (nfS x qual st cc cda) f L))
      standAt apos.atName
      let (fv, first) ← holding [ov] (getMethod ov "__init__" pl)
      callWith cpos fv first (backTo cpos (starEach (e :: es) (envF (nfS x qual st cc cda) f L))) []))
    (hst : ∀ L : Addr, starEach (e :: es) (envF (nfS x qual st cc cda) f L) = (false, eval e (envF (nfS x qual st cc cda) f L)) :: starEach es (envF (nfS x qual st cc cda) f L))
    (hpl : ∀ L : Addr, (backTo cpos (starEach es (envF (nfS x qual st cc cda) f L))).any (·.1) = false)
    (hbody : ∀ (A : Around) (outer : List Env) (s : Shared) (H : Hp) (E : XK), Room k (A.deeper (envF (nfS x qual st cc cda) f s.heap.objs.size)) →
      XA (ncx (L2.CX P w) P w K mg base N (nfS x qual st cc cda) f A outer s H E) E (e :: es) fa ∧ XSs (ncx (L2.CX P w) P w K mg base N (nfS x qual st cc cda) f A outer s H E) E rest fb) :
    FnOk P w K mg base (L2.CX P w) (k + 1) f fd ps (spX K (supWX n m dn cs W2 fa fb)) := by
  refine fn_superX F S hbd hpar har hsc hint hsw hev hst hpl F2 hj (fun vs H Q E ⟨β, S, w, bs, Rx, R, _, _, hb, hW, _⟩ => ?_) fun A outer s H vs Q E hr ⟨β, S, w1, bs, Rx, R, eH, hR, hb, hW, hk, hx⟩ => ?_
  · match bs, hW, hb with
    | .mt j :: br, hW, hb =>
      obtain ⟨c, fs, e1, h1⟩ := cell_ins (f := fun c fs => c ∈ cs ∧ (.mt j :: br : List B).length = n ∧ fa ((.mt j :: br).map some ++ (some (.fz (.cls dn)) :: List.replicate m none)) S Rx fun us S1 => W2 (.mt j :: us) S1 Rx fun _ S2 => fb ((.mt j :: br).map some ++ (some (.fz (.cls dn)) :: List.replicate m none)) S2 { nx := fun _ S' => R (.fz .non) S', rt := R, xe := Rx }) hW
      rw [← hb.length, h1.2.1, hn]
  · match bs, hW, hb with
    | .mt i :: br, hW, .cons hd0 ht =>
      obtain ⟨c, fs, e1, hc, hl, h1⟩ := cell_ins (f := fun c fs => c ∈ cs ∧ (.mt i :: br : List B).length = n ∧ fa ((.mt i :: br).map some ++ (some (.fz (.cls dn)) :: List.replicate m none)) S Rx fun us S1 => W2 (.mt i :: us) S1 Rx fun _ S2 => fb ((.mt i :: br).map some ++ (some (.fz (.cls dn)) :: List.replicate m none)) S2 { nx := fun _ S' => R (.fz .non) S', rt := R, xe := Rx }) hW
      obtain ⟨ta, pa, sa⟩ := (hbody A outer s H E hr).1.ex
      obtain ⟨t, ps', q⟩ := (hbody A outer s H E hr).2.ex
      obtain ⟨dx, us, hH, _⟩ := hR.cellI e1
      obtain ⟨_, rfl⟩ := id hd0
      subst eH
      have G0 := startF_ok (N := N) (m := m) hD (DenBL.cons hd0 ht) (by rw [hl, hm])
      have back : ∀ {S' : Sto} {w' : Wd}, Rel K (reb S w1) S' w' → Rel K β S' w' ∧ Later S.length w1 S'.length w' := fun R' => hR.unreb R'
      refine ⟨ta, t, w1.m i, clsAt K c, dx, us, _, rfl, hH, hcs c hc, pa, ps', ?_⟩
      have hx' : XOk K E (reb S w1) S.length w1 Rx := fun C fs S' w' d vs h R' l' z1 z2 => hx C fs S' w' d vs h (back R').1 (back R').2 z1 z2
      refine sa (reb S w1) S w1 _ _ Rx _ _ hR.reb G0 h1 (fun bs1 S1 w2 vs1 h2 R2 l2 d2 => ?_) hx'
      refine ⟨_, S1, w2, .mt i :: bs1, Rx, _, rfl, R2, .cons ⟨Nat.lt_of_lt_of_le hd0.1 l2.le, by rw [l2.m i hd0.1]⟩ d2, h2, fun b S2 w3 v h3 R3 l3 d3 => ?_, hx'.later l2⟩
      exact q (reb S w1) S2 w3 _ _ _ _ R3 (G0.later (l2.trans l3)) h3 ⟨fun Γ S' w' σ h R' _ => hk _ S' w' .non h (back R').1 (back R').2 .non, fun b S' w' v h R' d => hk b S' w' v h (back R').1 (back R').2 d,
        fun C fs S' w' d vs h R' z1 z2 => hx C fs S' w' d vs h (back R').1 (back R').2 z1 z2, fun _ _ _ _ h => h.elim, fun _ _ _ _ h => h.elim⟩
end
theorem rawX {P : Program} {w : World} {K : PySem.W.Frag} {mg : Str → Option Value} {base : Heap} {CX : CXT} {k : Nat} {f : Addr} {fd : FuncData} {ps : List Str} {sp : Sp} (F : FnOk P w K mg base CX k f fd ps sp) (hb : Binds K fd ps []) : FnR P w K mg base CX k f sp :=
  fun A outer s H us vs Q E hr e0 r h => F.raw hb .nil A outer s H us vs Q E hr e0 r (by show sp (vs ++ []) H Q E; rw [List.append_nil]; exact h)
end PL
namespace PL
open PySem L2
section
variable {X : Cx} {E : XK} {e : Expr} {es : List Expr} {fr : FA} {pos p0 : Pos} {CX : CXT} {k : Nat} {C g : Addr} {cn : Str} {fd : FuncData} {ps : List Str} {dvs : List V} {ds : List Value} {x : Str} {W : FW}
theorem xmkR (hc : clsAt X.K cn = C) {dds : List D} (hD : Paired (fun d v => ∀ F, Den X.K F d v) dds dvs) (M : Mk X.K C g) (F : FnOk X.prog X.w X.K X.mg X.base CX k g fd ps (spX X.K W)) (hr : Room (k + 1) X.A) (hg : Gl X x) (hm : X.mg x = some (.ref C)) (hb : Binds X.K fd ps ds) (hd : Vals dvs ds) (hx : Passes CX X E)
    (ha : XA X E (e :: es) fr) (hdb : (x == ("__debug__" : Str)) = false := by decide) (he : starEach (e :: es) X.env = (false, eval e X.env) :: starEach es X.env := by rfl) (hpl : (backTo pos (starEach es X.env)).any (·.1) = false := by rfl) :
    XE X E (.Call (.Name x p0) (e :: es) [] pos) (eCallX (gMake cn W dds) fr) := by
  subst hc
  exact xmake hD ha fun p => pe_make M F hr hg hm hb hd hx p hdb he hpl
theorem xmk0R (hc : clsAt X.K cn = C) {dds : List D} (hD : Paired (fun d v => ∀ F, Den X.K F d v) dds dvs) (M : Mk X.K C g) (F : FnOk X.prog X.w X.K X.mg X.base CX k g fd ps (spX X.K W)) (hr : Room (k + 1) X.A) (hg : Gl X x) (hm : X.mg x = some (.ref C)) (hb : Binds X.K fd ps ds) (hd : Vals dvs ds) (hx : Passes CX X E)
    (hdb : (x == ("__debug__" : Str)) = false := by decide) : XE X E (.Call (.Name x p0) [] [] pos) (eCallX (gMake cn W dds) aNil) := by
  subst hc
  exact xmake0 hD (pe_make0 M F hr hg hm hb hd hx hdb)
variable {Rx : XP}
theorem make_coreX {K : PySem.W.Frag} {E' : XK} {Rx : XP} {dds : List D} (hd : Paired (fun d v => ∀ F, Den K F d v) dds dvs) {β : Base} {S1 : Sto} {w1 : Wd} {bs : List B} {vs : List V} {R : RB} {Q : VK} (R1 : Rel K β S1 w1) (d1 : DenBL K S1.length w1 bs vs) (h1 : gMake cn W dds bs S1 Rx R) (hk : KOk K β S1.length w1 R Q) (hx : XOk K E' β S1.length w1 Rx) {y dx : Addr} (hy : w1.H y = none) (hdx : w1.H dx = none) (ne : dx ≠ y) :
    spX K W (.ref y :: (vs ++ dvs)) (upd (upd w1.H dx (.own y)) y (.ins (clsAt K cn) dx [])) (fun v H2 => v = .non ∧ Q (.ref y) H2) E' := by
  obtain ⟨ds, h, dl⟩ := asDs_den h1 d1
  refine ⟨_, _, ⟨fun _ => y, w1.F, upd (upd w1.H dx (.own y)) y (.ins (clsAt K cn) dx [])⟩, _, _, _, rfl, make_start R1 hy hdx ne, .cons (b := .mt 0) ⟨Nat.zero_lt_one, rfl⟩ (DenL.bz (w := ⟨fun _ => y, w1.F, upd (upd w1.H dx (.own y)) y (.ins (clsAt K cn) dx [])⟩) (DenL.app dl (DenL.den hd))), h, fun b S' w' v q R' l' d => ?_, fun C fs S' w' d vs q R' l' z1 z2 => ?_⟩
  rotate_left
  · obtain ⟨R2, l2, _⟩ := R1.undrop R'
    exact hx C fs S1 ⟨w1.m, w'.F, w'.H⟩ d vs q R2 l2 z1 z2
  cases b with
  | mt _ => exact (show False from q).elim
  | fz x =>
    cases x with
    | non =>
      cases (show Den K w'.F .non v from d)
      refine ⟨rfl, ?_⟩
      obtain ⟨C', fs, e1, h3⟩ := cell_ins (f := fun C' fs => asFs fs fun fds => R (.fz (.ins C' fds)) S1) q
      obtain ⟨R2, l2, fr⟩ := R1.undrop R'
      obtain ⟨dx', us, h4, h5⟩ := R'.cellI e1
      obtain ⟨fds, h6, h7⟩ := asFs_ok h3 h5
      have em : w'.m 0 = y := l'.m 0 Nat.zero_lt_one
      rw [em] at h4
      have L := R'.live 0 _ e1 (by intro z; cases z)
      rw [em] at L
      obtain ⟨R3, l3⟩ := R2.adoptF (D := y) (o := .ins (clsAt K C') dx' us) h4 L.nf (R1.keep.free hy) fun k c h1 h2 e => by
        obtain ⟨o, ho⟩ := (R1.live k c h1 h2).ok.some h2
        have e : w1.m k = y := e
        rw [e, hy] at ho
        cases ho
      exact hk _ S1 ⟨w1.m, upd w'.F y (.ins (clsAt K C') dx' us), w'.H⟩ (.ref y) h6 R3 (l2.trans l3) (Den.ins upd_same (DenF.mono l3.F h7))
    | _ => exact (show False from q).elim
/-- C(k = .., ..), that may raise -/
def eMkKX (gw : GW) (is : List Nat) (m : Nat) (fk : FA) : FE := fun Γ S Rx R => fk Γ S Rx fun zs S1 => zs.length = m ∧ gw (permA is zs) S1 Rx R
variable {E' : XK}
theorem xmkKR {m : Nat} {kws : List Keyword} {ks : List Str} {gg : List Value → List Value → List Value} {is : List Nat} {fk : FA} (hc : clsAt X.K cn = C) (M : Mk X.K C g) (F : FnOk X.prog X.w X.K X.mg X.base CX k g fd ps (spX X.K W)) (hr : Room (k + 1) X.A) (hg : Gl X x) (hm : X.mg x = some (.ref C)) (hb : KBn X.K fd ps 1 ks gg fun vs zs => vs ++ permA is zs) (hx : Passes CX X E) (hkw : XK' X E kws fk)
    (hall : (backToKw pos (keywordEach kws X.env)).all (·.1.isSome) = true := by rfl) (hks : (backToKw pos (keywordEach kws X.env)).filterMap (·.1) = ks := by rfl) (hdb : (x == ("__debug__" : Str)) = false := by decide)
    (hpl : ((backTo pos (starEach [] X.env)).any (·.1) || (backToKw pos (keywordEach kws X.env)).any (·.1.isNone)) = false := by rfl) (hlen : ks.length = m := by rfl) :
    XE X E (.Call (.Name x p0) [] kws pos) (eMkKX (gMake cn W []) is m fk) :=
  hlen ▸ let ⟨_, p, s⟩ := hkw.ex
  ⟨_, pe_makeK0 M F hr hg hm hb hx p hall hks hdb hpl, fun β S w σ Γ Rx R Q hR hG hf hk hx => by
    subst hc
    refine s β S w σ Γ Rx _ _ hR hG hf (fun zs S1 w1 vs h1 R1 l1 d1 => ⟨rfl, by rw [← d1.length]; exact h1.1, fun y dx hy hdx ne => ?_⟩) hx
    have q := make_coreX (dvs := []) (E' := E) .nil R1 (d1.perm is) h1.2 (hk.later l1) (hx.later l1) hy hdx ne
    rw [List.append_nil] at q
    exact q⟩
end
/-! ### own == and != -/
/-- the type of what stands on the right -/
inductive TyL (K : PySem.W.Frag) (H : Hp) : V → Value → Prop
  | ins {b C dx : Addr} {fs : List (Str × V)} (h : H b = some (.ins C dx fs)) : TyL K H (.ref b) (.ref C)
  | lst {b : Addr} {xs : List V} (h : H b = some (.lst xs)) : TyL K H (.ref b) (.type "list")
  | str (z : Str) : TyL K H (.str z) (.type "str")
  | int (i : Int) : TyL K H (.int i) (.type "int")
  | bl (b : Bool) : TyL K H (.bl b) (.type "bool")
  | non : TyL K H .non (.type "NoneType")
/-- C's own __eq__ -/
structure EqFn (X : Cx) (C : Addr) (sp : Sp) : Prop where
  ex : ∃ (f : Addr) (k : Nat), FnR X.prog X.w X.K X.mg X.base CX0 k f sp ∧ Room (k + 1) X.A ∧ PySem.W.findIn X.K (.ref C) "__eq__" = some (some (.ref f)) ∧ PySem.W.isFn X.K (.ref f) = true
structure NeFn (K : PySem.W.Frag) (C : Addr) : Prop where
  ne : PySem.W.findIn K (.ref C) "__ne__" = some (some (.builtin "object.__ne__"))
  ob : PySem.W.subIn K (.ref C) (.type "object") = some true
def rEqO (X : Cx) : R2 := fun x y H Q => ∃ a C dx fs tb sp, x = .ref a ∧ H a = some (.ins C dx fs) ∧ TyL X.K H y tb ∧ PySem.W.notFirst X.K C tb = true ∧ EqFn X C sp ∧ sp [x, y] H Q E0
def rNeO (X : Cx) : R2 := fun x y H Q => ∃ a C dx fs tb sp, x = .ref a ∧ H a = some (.ins C dx fs) ∧ TyL X.K H y tb ∧ PySem.W.notFirst X.K C tb = true ∧ EqFn X C sp ∧ NeFn X.K C ∧ sp [x, y] H (fun v H' => ∃ c, v = .bl c ∧ Q (.bl (!c)) H') E0
theorem tyL_looks {X : Cx} {pins : List (Addr × Obj)} {σ : L2.St} {H : Hp} {s : Shared} (I : Inv X pins σ H s) {y : V} {u : Value} {tb : Value} (ry : RelV y u) (h : TyL X.K H y tb) : PySem.W.Looks (PySem.model X.prog X.w) s.heap (typeOf u) tb := by
  cases h with
  | ins h =>
    obtain rfl : u = Value.ref _ := ry
    obtain ⟨mB, O', _⟩ := ins_get I.hok h
    obtain ⟨od', J', _⟩ := O'.look
    exact J'.type
  | lst h =>
    obtain rfl : u = Value.ref _ := ry
    obtain ⟨_, _, n, _, h1⟩ := (show ObjOk X.prog X.w H s.heap _ (.lst _) from I.hok _ _ h)
    exact (PySem.W.Looks.ld h1).andThen .now
  | str z => obtain ⟨tk, rfl⟩ := ry; exact .now
  | int i => obtain ⟨tk, rfl⟩ := ry; exact .now
  | bl b => obtain rfl : u = Value.bool b := ry; exact .now
  | non => obtain rfl : u = Value.none := ry; exact .now
theorem op_eqO {X : Cx} : OpR X (compareOp .Eq) (rEqO X) := by
  intro pins s σ H x y v u Q I rx ry h
  obtain ⟨a, C, dx, fs, tb, sp, rfl, ha, hy, hn, hE, q⟩ := h
  obtain ⟨f, k, F, hr, hs, hf⟩ := hE.ex
  obtain rfl : v = Value.ref a := rx
  obtain ⟨mA, O, _⟩ := ins_get I.hok ha
  obtain ⟨od, J, _⟩ := O.look
  obtain ⟨m, hF⟩ := I.fr
  refine PySem.W.cmp_K (op := .Eq) (tb := tb) hr.units0 hF I.ok.mod.kin J (tyL_looks I ry hy) hn hs hf (wpAny_call (codeAny_mono (run_fnR F (hr.mono (Nat.le_succ _)) pass0 I (us := [.ref a, u]) (vs := [.ref a, y]) (.cons rfl (.cons ry .nil)) q) fun r s' z => ?_))
  cases r with
  | error e => exact z
  | ok fl =>
    cases fl with
    | ret w =>
      obtain ⟨z', H', I', rz, q'⟩ := z
      exact SlX.cmpback rz ⟨z', H', I', rz, q'⟩
    | next => exact z.elim
    | brk => exact z.elim
    | cont => exact z.elim
theorem op_neO {X : Cx} : OpR X (compareOp .NotEq) (rNeO X) := by
  intro pins s σ H x y v u Q I rx ry h
  obtain ⟨a, C, dx, fs, tb, sp, rfl, ha, hy, hn, hE, hN, q⟩ := h
  obtain ⟨f, k, F, hr, hs, hf⟩ := hE.ex
  obtain rfl : v = Value.ref a := rx
  obtain ⟨mA, O, _⟩ := ins_get I.hok ha
  obtain ⟨od, J, _⟩ := O.look
  unfold compareOp
  refine R3.ne_K (tb := tb) (Nat.lt_of_le_of_lt (by omega) hr.units) I.kIn J (tyL_looks I ry hy) hn hN.ne hs hf hN.ob (wpAny_mono (wpAny_call (SlX.run_at (us := [.ref a, u]) (ws := [.ref a, y]) F (Room.in1 hr) I.env0.in1 pass0 I (.cons rfl (.cons ry .nil)) q)) (fun w s' z => ?_) fun _ _ e => e)
  obtain ⟨z', H', I', rz, c, ei, qz⟩ := z
  subst ei
  obtain rfl : w = Value.bool c := rz
  exact ⟨c, rfl, .bl (!c), H', I', rfl, qz⟩
/-- what may stand on the right -/
def eqRight (oo : List (Str × Str)) (ob : List (Str × String)) (cn : Str) (c : B) (S : Sto) : Prop := match c with
  | .fz (.ins d _) => (cn, d) ∈ oo
  | .fz (.str _) => (cn, "str") ∈ ob
  | .fz (.lst _) => (cn, "list") ∈ ob
  | .fz (.int _) => (cn, "int") ∈ ob
  | .fz (.bl _) => (cn, "bool") ∈ ob
  | .fz .non => (cn, "NoneType") ∈ ob
  | .mt k => (match S[k]? with
    | some (.ins d _) => (cn, d) ∈ oo
    | some (.lst _) => (cn, "list") ∈ ob
    | _ => False)
  | _ => False
structure EqTOk (K : PySem.W.Frag) (oo : List (Str × Str)) (ob : List (Str × String)) : Prop where
  oo : ∀ p ∈ oo, PySem.W.notFirst K (clsAt K p.1) (.ref (clsAt K p.2)) = true
  ob : ∀ p ∈ ob, PySem.W.notFirst K (clsAt K p.1) (.type p.2) = true
theorem eqRight_ok {K : PySem.W.Frag} {β : Base} {S : Sto} {w : Wd} {oo : List (Str × Str)} {ob : List (Str × String)} {cn : Str} {c : B} {u : V} (T : EqTOk K oo ob) (hR : Rel K β S w) (hc : DenB K S.length w c u) (h : eqRight oo ob cn c S) : ∃ tb, TyL K w.H u tb ∧ PySem.W.notFirst K (clsAt K cn) tb = true := by
  cases c with
  | fz d =>
    have hc : Den K w.F d u := hc
    cases hc with
    | ins h1 h2 => exact ⟨_, .ins (hR.fr _ _ h1), T.oo _ h⟩
    | str z => exact ⟨_, .str z, T.ob _ h⟩
    | lst h1 h2 => exact ⟨_, .lst (hR.fr _ _ h1), T.ob _ h⟩
    | int i => exact ⟨_, .int i, T.ob _ h⟩
    | bl b => exact ⟨_, .bl b, T.ob _ h⟩
    | non => exact ⟨_, .non, T.ob _ h⟩
    | _ => exact (show False from h).elim
  | mt k =>
    obtain ⟨_, rfl⟩ := hc
    have h : match S[k]? with
      | some (.ins d _) => (cn, d) ∈ oo
      | some (.lst _) => (cn, "list") ∈ ob
      | _ => False := h
    cases e : S[k]? with
    | none => rw [e] at h; exact h.elim
    | some cl =>
      rw [e] at h
      cases cl with
      | ins d fs => obtain ⟨dx, vs, h1, _⟩ := hR.cellI e; exact ⟨_, .ins h1, T.oo _ h⟩
      | lst bs => obtain ⟨vs, h1, _⟩ := hR.cellL e; exact ⟨_, .lst h1, T.ob _ h⟩
      | _ => exact (show False from h).elim
def gEqO (neg : Bool) (tbl : List (Str × FW)) (oo : List (Str × Str)) (ob : List (Str × String)) : G2 := fun b c S R => match b with
  | .fz (.ins cn fs) => eqRight oo ob cn c S ∧ optK (tbl.lookup cn) fun W => gPure W [] [.fz (.ins cn fs), c] S noX (asBl fun k S' => R (.fz (.bl (neg != k))) S')
  | _ => False
theorem ins_den {K : PySem.W.Frag} {w : Wd} {cn : Str} {fs : List (Str × D)} {v : V} (h : Den K w.F (.ins cn fs) v) : ∃ a dx vs, v = .ref a ∧ w.F a = some (.ins (clsAt K cn) dx vs) := by
  cases h with
  | ins h1 h2 => exact ⟨_, _, _, rfl, h1⟩
theorem snd_eqO {X : Cx} {tbl : List (Str × FW)} {oo : List (Str × Str)} {ob : List (Str × String)} (T : EqTOk X.K oo ob) (h : ∀ cn W, tbl.lookup cn = some W → EqFn X (clsAt X.K cn) (spP X.K W)) : Snd2 X.K (rEqO X) (gEqO false tbl oo ob) := fun β S w b c v u R Q hR hb hc hg hk => by
  cases b with
  | mt k => exact (show False from hg).elim
  | fz d =>
    cases d with
    | ins cn fs =>
      obtain ⟨g1, g2⟩ := hg
      obtain ⟨W, e, g3⟩ := optK_ok g2
      obtain ⟨a, dx, vs, rfl, h1⟩ := ins_den (show Den X.K w.F (.ins cn fs) v from hb)
      obtain ⟨tb, t1, t2⟩ := eqRight_ok T hR hc g1
      refine ⟨a, _, dx, vs, tb, spP X.K W, rfl, hR.fr _ _ h1, t1, t2, h cn W e, ?_⟩
      have z := (snd_pure0 (W := W) (dvs := []) .nil) β S w [.fz (.ins cn fs), c] [.ref a, u] _ Q E0 hR (.cons hb (.cons hc .nil)) g3 fun b' S' w' v' q R' l' d' => by
        obtain ⟨k, rfl, q2⟩ := asBl_ok q d'
        exact hk (.fz (.bl k)) S' w' (.bl k) (by rw [Bool.false_bne] at q2; exact q2) R' l' (Den.bl k)
      rw [List.append_nil] at z
      exact z
    | _ => exact (show False from hg).elim
theorem snd_neO {X : Cx} {tbl : List (Str × FW)} {oo : List (Str × Str)} {ob : List (Str × String)} (T : EqTOk X.K oo ob) (h : ∀ cn W, tbl.lookup cn = some W → EqFn X (clsAt X.K cn) (spP X.K W) ∧ NeFn X.K (clsAt X.K cn)) : Snd2 X.K (rNeO X) (gEqO true tbl oo ob) := fun β S w b c v u R Q hR hb hc hg hk => by
  cases b with
  | mt k => exact (show False from hg).elim
  | fz d =>
    cases d with
    | ins cn fs =>
      obtain ⟨g1, g2⟩ := hg
      obtain ⟨W, e, g3⟩ := optK_ok g2
      obtain ⟨a, dx, vs, rfl, h1⟩ := ins_den (show Den X.K w.F (.ins cn fs) v from hb)
      obtain ⟨tb, t1, t2⟩ := eqRight_ok T hR hc g1
      refine ⟨a, _, dx, vs, tb, spP X.K W, rfl, hR.fr _ _ h1, t1, t2, (h cn W e).1, (h cn W e).2, ?_⟩
      have z := (snd_pure0 (W := W) (dvs := []) .nil) β S w [.fz (.ins cn fs), c] [.ref a, u] _ (fun v H' => ∃ c, v = V.bl c ∧ Q (.bl (!c)) H') E0 hR (.cons hb (.cons hc .nil)) g3 fun b' S' w' v' q R' l' d' => by
        obtain ⟨k, rfl, q2⟩ := asBl_ok q d'
        exact ⟨k, rfl, hk (.fz (.bl (!k))) S' w' (.bl (!k)) (by rw [Bool.true_bne] at q2; exact q2) R' l' (Den.bl (!k))⟩
      rw [List.append_nil] at z
      exact z
    | _ => exact (show False from hg).elim
theorem eqfn {X : Cx} {cn : Str} {C f : Addr} {fd : FuncData} {ps : List Str} {k : Nat} {W : FW} (h : clsAt X.K cn = C) (F : FnOk X.prog X.w X.K X.mg X.base CX0 k f fd ps (spP X.K W)) (hb : Binds X.K fd ps []) (hr : Room (k + 1) X.A) (hs : PySem.W.findIn X.K (.ref C) "__eq__" = some (some (.ref f))) (hf : PySem.W.isFn X.K (.ref f) = true) :
    EqFn X (clsAt X.K cn) (spP X.K W) := by subst h; exact ⟨f, k, raw0 F hb, hr, hs, hf⟩
theorem nefn {K : PySem.W.Frag} {cn : Str} {C : Addr} (h : clsAt K cn = C) (a : PySem.W.findIn K (.ref C) "__ne__" = some (some (.builtin "object.__ne__"))) (b : PySem.W.subIn K (.ref C) (.type "object") = some true) : NeFn K (clsAt K cn) := by subst h; exact ⟨a, b⟩
end PL
/-! where lambdas stand in a text (own work) -/
namespace PL
open PySem L2
def asgE : Stmt → List Expr
  | .Assign _ (.List es _) _ => es
  | _ => []
def bodyS : Stmt → List Stmt
  | .For _ _ b _ _ => b
  | .If _ b _ _ => b
  | .While _ b _ _ => b
  | _ => []
def elseS : Stmt → List Stmt
  | .If _ _ b _ => b
  | _ => []
abbrev qLam : Str := ("law" : Str) ++ ".<locals>." ++ "<lambda>"
def lamFrB (sc scope : Scope) : Bool := scope.names.all fun y => !decide (y.2 = .free) || decide (sc.names.lookup y.1 = some .cell) || decide (sc.names.lookup y.1 = some .free)
theorem lamfr_by {sc scope : Scope} (h : lamFrB sc scope = true) : ∀ y ∈ scope.names, y.2 = .free → sc.names.lookup y.1 = some .cell ∨ sc.names.lookup y.1 = some .free := fun y hy e => by
  unfold lamFrB at h
  simp only [Bool.or_eq_true, Bool.not_eq_true', decide_eq_true_eq, decide_eq_false_iff_not, List.all_eq_true] at h
  rcases h y hy with (z | z) | z
  · exact absurd e z
  · exact .inl z
  · exact .inr z
/-- the law's start: the script, the table of its code objects -/
theorem tab_start {K : PySem.W.Frag} {H : Hp} {PT a : Addr} {q : Str} {ns : List Int} (hP : H PT = some (.tbl #[])) (hS : SqL K H a (ns.map V.int)) :
    Rel K ⟨fun b => if b = PT then none else H b, fun b => if b = PT then none else H b, fun _ => 0, 0⟩ [.tab PT q] ⟨fun _ => PT, fun b => if b = PT then none else H b, H⟩ ∧ SqL K (fun b => if b = PT then none else H b) a (ns.map V.int) := by
  refine ⟨⟨fun b o h => ?_, fun b o h => ?_, .refl _, fun _ _ h => .inl h, fun k h => absurd h (Nat.not_lt_zero _), Nat.zero_le _, fun k c h hd => ?_, fun i j ci cj hi hj _ _ _ => ?_⟩, ?_⟩
  · have h : (if b = PT then none else H b) = some o := h
    by_cases e : b = PT
    · rw [if_pos e] at h; cases h
    · exact (if_neg e).symm.trans h
  · have h : (if b = PT then none else H b) = some o := h
    by_cases e : b = PT
    · rw [if_pos e] at h; cases h
    · exact (if_neg e).symm.trans h
  · cases k with
    | zero =>
      cases h
      exact ⟨if_pos rfl, if_pos rfl, rfl, #[], hP, trivial, fun pos cv hc => by
        have z : codeAmong pos [] = some cv := hc
        simp [codeAmong] at z⟩
    | succ k => cases h
  · cases i with
    | zero => cases j with
      | zero => rfl
      | succ j => cases hj
    | succ i => cases hi
  · have ne : ∀ {o : HO}, H a = some o → (∀ ps, o ≠ .tbl ps) → (if a = PT then none else H a) = some o := fun {o} h n => (if_neg fun e => by rw [e, hP] at h; exact n _ (Option.some.inj h).symm).trans h
    rcases hS with (h | ⟨o, h⟩) | h
    · exact .inl (.inl (ne h fun ps z => by cases z))
    · exact .inl (.inr ⟨o, ne h fun ps z => by cases z⟩)
    · exact .inr h
/-- a, b, c = x, y, z -/
def sPar3 (i j l : Nat) (fa : FA) : FS := fun Γ S P => fa Γ S P.xe fun bs S1 => match bs with
  | [b, c, d] => P.nx (((Γ.set i (some b)).set j (some c)).set l (some d)) S1
  | _ => False
theorem DenBL.three {K : PySem.W.Frag} {n : Nat} {w : Wd} {vs : List V} {b c d : B} (h : DenBL K n w [b, c, d] vs) : ∃ v u z, vs = [v, u, z] ∧ DenB K n w b v ∧ DenB K n w c u ∧ DenB K n w d z := by
  cases h with
  | cons h t => obtain ⟨u, z, rfl, h2, h3⟩ := t.two; exact ⟨_, u, z, rfl, h, h2, h3⟩
theorem xs_par3 {X : Cx} {E : XK} {i j l : Nat} {a b c : Expr} {ps : Stmt} {fa : FA} (h : ∀ {ta : TA}, PA X [a, b, c] ta → PS X ps (tPar3 i j l ta)) (ha : XA X E [a, b, c] fa) : XS X E ps (sPar3 i j l fa) :=
  let ⟨_, p, s⟩ := ha.ex
  ⟨_, h p, fun β S w σ Γ P D hR hG hf hk => s β S w σ Γ _ _ _ hR hG hf (fun bs S1 w1 vs h1 R1 l1 d1 => by
    match bs, h1, d1 with
    | [b, c, d], h1, d1 =>
      obtain ⟨v, u, z, rfl, a1, a2, a3⟩ := d1.three
      exact ⟨_, _, _, rfl, hk.nx _ S1 w1 _ h1 R1 ((((hG.later l1).set i a1).set j a2).set l a3)⟩) hk.x⟩
end PL
/-! names as lists of code points; comprehensions and loops by the index (own work) -/
namespace Lp
open PySem L2
/-! ### texts as lists of code points -/
theorem isAlpha128 : ∀ c, c < 128 → Unicode.isAlpha c = ((decide (65 ≤ c) && decide (c ≤ 90)) || (decide (97 ≤ c) && decide (c ≤ 122))) := by decide +kernel
theorem isLower128 : ∀ c, c < 128 → Unicode.isLower c = (decide (97 ≤ c) && decide (c ≤ 122)) := by decide +kernel
theorem isUT128 : ∀ c, c < 128 → (Unicode.isUpper c || Unicode.isTitle c) = (decide (65 ≤ c) && decide (c ≤ 90)) := by decide +kernel
theorem isDigit128 : ∀ c, c < 128 → Unicode.isDigit c = (decide (48 ≤ c) && decide (c ≤ 57)) := by decide +kernel
/-- a name: 1 to 8 small letters -/
def IsNm (l : List Nat) : Prop := 1 ≤ l.length ∧ l.length ≤ 8 ∧ ∀ c ∈ l, 97 ≤ c ∧ c ≤ 122
/-- what is_name tells of a text -/
def nmB (z : Str) : Bool := decide (z.length ≤ 8) && (Txt.isascii z && (Txt.isalpha z && Txt.islower z))
theorem S_ascii (l : List Nat) : Txt.isascii (SX.S l) = l.all (fun c => decide (c < 128)) := by
  unfold Txt.isascii
  rw [← Array.all_toList]
theorem S_alpha (l : List Nat) : Txt.isalpha (SX.S l) = (decide (l.length > 0) && l.all Unicode.isAlpha) := by
  unfold Txt.isalpha
  rw [← Array.all_toList, SX.S_len]
theorem S_lower (l : List Nat) : Txt.islower (SX.S l) = (l.any Unicode.isLower && !l.any fun c => Unicode.isUpper c || Unicode.isTitle c) := by
  unfold Txt.islower
  rw [← Array.any_toList, ← Array.any_toList]
theorem S_digit (l : List Nat) : Txt.isdigit (SX.S l) = (decide (l.length > 0) && l.all Unicode.isDigit) := by
  unfold Txt.isdigit
  rw [← Array.all_toList, SX.S_len]
theorem nm_yes {l : List Nat} (h : IsNm l) : nmB (SX.S l) = true := by
  obtain ⟨h1, h2, h3⟩ := h
  unfold nmB
  rw [S_ascii, S_alpha, S_lower, SX.S_len, decide_eq_true h2, decide_eq_true (show l.length > 0 from h1)]
  have a1 : l.all (fun c => decide (c < 128)) = true := List.all_eq_true.mpr fun c hc => decide_eq_true (by have := h3 c hc; omega)
  have a2 : l.all Unicode.isAlpha = true := List.all_eq_true.mpr fun c hc => by
    have := h3 c hc
    rw [isAlpha128 c (by omega), decide_eq_true this.1, decide_eq_true this.2]
    simp
  have a3 : l.any Unicode.isLower = true := by
    cases l with
    | nil => simp at h1
    | cons x r =>
      have := h3 x (List.mem_cons_self ..)
      rw [List.any_cons, isLower128 x (by omega), decide_eq_true this.1, decide_eq_true this.2]
      rfl
  have a4 : (l.any fun c => Unicode.isUpper c || Unicode.isTitle c) = false := List.any_eq_false.mpr fun c hc => by
    have := h3 c hc
    rw [isUT128 c (by omega), decide_eq_false (show ¬ c ≤ 90 by omega), Bool.and_false]
    exact Bool.false_ne_true
  rw [a1, a2, a3, a4]
  rfl
/-- a sign that is no small letter spoils it -/
theorem nm_bad {l : List Nat} {c : Nat} (hc : c ∈ l) (h1 : c < 97) : nmB (SX.S l) = false := by
  unfold nmB
  rw [S_ascii, S_alpha, S_lower, SX.S_len]
  by_cases a : l.all Unicode.isAlpha = true
  · have ca := List.all_eq_true.mp a c hc
    rw [isAlpha128 c (by omega), decide_eq_false (show ¬ 97 ≤ c by omega), Bool.false_and, Bool.or_false] at ca
    have au : (l.any fun c => Unicode.isUpper c || Unicode.isTitle c) = true := List.any_eq_true.mpr ⟨c, hc, by rw [isUT128 c (by omega)]; exact ca⟩
    rw [au, Bool.not_true, Bool.and_false, Bool.and_false, Bool.and_false, Bool.and_false]
  · rw [Bool.eq_false_iff.mpr a, Bool.and_false, Bool.false_and, Bool.and_false, Bool.and_false]
theorem nm_long {l : List Nat} (h : 8 < l.length) : nmB (SX.S l) = false := by
  unfold nmB
  rw [SX.S_len, decide_eq_false (show ¬ l.length ≤ 8 by omega), Bool.false_and]
theorem nm_nil : nmB (SX.S []) = false := by decide +kernel
/-- what number_in gives for a text -/
def niO (l : List Nat) : Option Int :=
  if l.length ≤ 18 ∧ l ≠ [] ∧ (l.all fun c => decide (48 ≤ c) && decide (c ≤ 57)) = true ∧ ¬ (l.head? = some 48 ∧ 1 < l.length) then some ((NumText.digitsVal l : Nat) : Int) else none
def oV : Option Int → V
  | some i => .int i
  | none => .non
theorem niO_mem {l : List Nat} {c : Nat} (hc : c ∈ l) (h : ¬ (48 ≤ c ∧ c ≤ 57)) : niO l = none := if_neg fun ⟨_, _, b, _⟩ => by
  have := List.all_eq_true.mp b c hc
  rw [Bool.and_eq_true] at this
  exact h ⟨of_decide_eq_true this.1, of_decide_eq_true this.2⟩
theorem niO_zero {l : List Nat} (h : l ≠ []) : niO (48 :: l) = none := if_neg fun ⟨_, _, _, z⟩ => z ⟨rfl, by
  rw [List.length_cons]
  have := List.length_pos_iff.mpr h
  omega⟩
theorem niO_some {l : List Nat} (h1 : l.length ≤ 18) (h2 : l ≠ []) (h3 : (l.all fun c => decide (48 ≤ c) && decide (c ≤ 57)) = true) (h4 : ¬ (l.head? = some 48 ∧ 1 < l.length)) : niO l = some ((NumText.digitsVal l : Nat) : Int) := if_pos ⟨h1, h2, h3, h4⟩
def azL : List Nat := (List.range 26).map (· + 97)
theorem az_eq : ("abcdefghijklmnopqrstuvwxyz" : Str) = SX.S azL := by decide +kernel
theorem az_mem {c : Nat} (h : c ∈ azL) : 97 ≤ c ∧ c ≤ 122 := by
  obtain ⟨k, hk, rfl⟩ := List.mem_map.mp h
  have := List.mem_range.mp hk
  omega
theorem az_get {i : Nat} (h : i < 26) : azL[i]? = some (i + 97) := by
  unfold azL
  rw [List.getElem?_map, List.getElem?_range h]
  rfl
def nmAt (stem : List Nat) (a first k : Nat) : List Nat := stem.take a ++ ((first + 5 * k) % 26 + 97) :: stem.drop a
theorem nmAt_len {stem : List Nat} {a first k : Nat} : (nmAt stem a first k).length = stem.length + 1 := by
  unfold nmAt
  rw [List.length_append, List.length_cons, List.length_take, List.length_drop]
  omega
theorem nmAt_ok {stem : List Nat} {a first k : Nat} (h7 : stem.length ≤ 7) (h : ∀ c ∈ stem, 97 ≤ c ∧ c ≤ 122) : IsNm (nmAt stem a first k) := by
  refine ⟨by rw [nmAt_len]; omega, by rw [nmAt_len]; omega, fun c hc => ?_⟩
  rcases List.mem_append.mp hc with z | z
  · exact h c (List.mem_of_mem_take z)
  · rcases List.mem_cons.mp z with z | z
    · omega
    · exact h c (List.mem_of_mem_drop z)
theorem nmAt_ne {stem : List Nat} {a first i j : Nat} (hij : i < j) (hj : j < 26) : nmAt stem a first i ≠ nmAt stem a first j := fun e => by
  have e1 := List.append_cancel_left e
  injection e1 with e2
  omega
theorem nmAt_nd {stem : List Nat} {a first m : Nat} (hm : m ≤ 26) : ((List.range m).map (nmAt stem a first)).Nodup := by
  refine List.pairwise_map.mpr (List.Pairwise.imp_of_mem (fun {i j} _ hj h => nmAt_ne h ?_) List.pairwise_lt_range)
  have := List.mem_range.mp hj
  omega
theorem cut_to {a : List Nat} {i : Int} (h : 0 ≤ i) : cutS (SX.S a) none (some i) = SX.S (a.take i.toNat) := (C8.cutS_slice _ _ _).trans (SX.slice_to h)
theorem cut_from {a : List Nat} {i : Int} (h : 0 ≤ i) : cutS (SX.S a) (some i) none = SX.S (a.drop i.toNat) := (C8.cutS_slice _ _ _).trans (SX.slice_from h)
theorem joinL_flat : ∀ l : List Nat, TL.joinL [] (l.map fun c => [c]) = l
  | [] => rfl
  | [x] => rfl
  | x :: y :: r => by
    have ih := joinL_flat (y :: r)
    show [x] ++ [] ++ TL.joinL [] ((y :: r).map fun c => [c]) = x :: y :: r
    rw [ih]
    rfl
theorem join_flat (l : List Nat) : Txt.join (SX.S []) (l.map fun c => SX.S [c]) = SX.S l := by
  have e := SX.join_S [] (l.map fun c => [c])
  rw [List.map_map, joinL_flat] at e
  exact e
theorem take_succ'' {α : Type} {xs : List α} {i : Nat} {x : α} (h : xs[i]? = some x) : xs.take (i + 1) = xs.take i ++ [x] := by
  rw [List.take_add_one, h]
  rfl
end Lp
namespace PL
open PySem L2
/-- a comprehension, by the index of each turn -/
theorem lcW_at {g : FG} {ft : FT} {fe : FE} {Γ0 : Ev} {S : Sto} {R : List B → Sto → Prop} (I : Nat → List B → Prop) {ds : List D} (h0 : I 0 [])
    (hs : ∀ i d, ds[i]? = some d → ∀ acc, I i acc → ∀ nx : List B → Sto → Prop, (∀ acc', I (i + 1) acc' → nx acc' S) → g (.fz d) Γ0 S fun Γ1 S1 => ft Γ1 S1 noX fun k S2 => cnd k (fe Γ1 S2 noX fun b S3 => nx (acc ++ [b]) S3) (nx acc S2))
    (hR : ∀ acc, I ds.length acc → R acc S) : lcW g ft fe Γ0 ds [] S R := by
  have go : ∀ (rest : List D) (n : Nat) (acc : List B), ds.drop n = rest → n ≤ ds.length → I n acc → lcW g ft fe Γ0 rest acc S R := by
    intro rest
    induction rest with
    | nil =>
      intro n acc e hn h
      have : n = ds.length := by
        have z := congrArg List.length e
        rw [List.length_drop, List.length_nil] at z
        omega
      exact hR acc (this ▸ h)
    | cons d rest ih =>
      intro n acc e hn h
      obtain ⟨hx, hr⟩ := drop_at e
      exact hs n d hx acc h (fun acc' S' => lcW g ft fe Γ0 rest acc' S' R) fun acc' h' => ih (n + 1) acc' hr (get_lt hx) h'
  exact go ds 0 [] rfl (Nat.zero_le _) h0
/-- .. where each turn adds a value that is known -/
theorem lcW_fun {g : FG} {ft : FT} {fe : FE} {Γ0 : Ev} {S : Sto} {R : List B → Sto → Prop} (f : Nat → D) {ds : List D}
    (hs : ∀ i d, ds[i]? = some d → ∀ (acc : List B) (nx : List B → Sto → Prop), nx (acc ++ [.fz (f i)]) S → g (.fz d) Γ0 S fun Γ1 S1 => ft Γ1 S1 noX fun k S2 => cnd k (fe Γ1 S2 noX fun b S3 => nx (acc ++ [b]) S3) (nx acc S2))
    (hR : R (((List.range ds.length).map f).map .fz) S) : lcW g ft fe Γ0 ds [] S R :=
  lcW_at (fun n acc => acc = ((List.range n).map f).map .fz) rfl (fun i d hd acc e nx hn => hs i d hd acc nx (hn _ (by rw [e, List.range_succ, List.map_append, List.map_append]; rfl))) fun acc e => by rw [e]; exact hR
/-- .. over a list, each turn's value by its item -/
theorem lcW_each {g : FG} {ft : FT} {fe : FE} {Γ0 : Ev} {S : Sto} {R : List B → Sto → Prop} (f : D → D) {ds : List D}
    (hs : ∀ d ∈ ds, ∀ (acc : List B) (nx : List B → Sto → Prop), nx (acc ++ [.fz (f d)]) S → g (.fz d) Γ0 S fun Γ1 S1 => ft Γ1 S1 noX fun k S2 => cnd k (fe Γ1 S2 noX fun b S3 => nx (acc ++ [b]) S3) (nx acc S2))
    (hR : R ((ds.map f).map .fz) S) : lcW g ft fe Γ0 ds [] S R :=
  lcW_at (fun n acc => acc = ((ds.take n).map f).map .fz) rfl (fun i d hd acc e nx hn => hs d (List.mem_of_getElem? hd) acc nx (hn _ (by rw [e, Lp.take_succ'' hd, List.map_append, List.map_append]; rfl))) fun acc e => by rw [e, List.take_length]; exact hR
/-- .. with a test by the item -/
theorem lcW_filter {g : FG} {ft : FT} {fe : FE} {Γ0 : Ev} {S : Sto} {R : List B → Sto → Prop} (p : D → Bool) (f : D → D) {ds : List D}
    (hs : ∀ d ∈ ds, ∀ (acc : List B) (nx : List B → Sto → Prop), nx (if p d then acc ++ [.fz (f d)] else acc) S → g (.fz d) Γ0 S fun Γ1 S1 => ft Γ1 S1 noX fun k S2 => cnd k (fe Γ1 S2 noX fun b S3 => nx (acc ++ [b]) S3) (nx acc S2))
    (hR : R (((ds.filter p).map f).map .fz) S) : lcW g ft fe Γ0 ds [] S R :=
  lcW_at (fun n acc => acc = (((ds.take n).filter p).map f).map .fz) rfl (fun i d hd acc e nx hn => hs d (List.mem_of_getElem? hd) acc nx (hn _ (by
    rw [e, Lp.take_succ'' hd, List.filter_append]
    cases hp : p d with
    | true => rw [if_pos rfl, List.filter_cons_of_pos hp, List.map_append, List.map_append]; rfl
    | false => rw [if_neg (by simp), List.filter_cons_of_neg (by rw [hp]; simp), List.filter_nil, List.append_nil]))) fun acc e => by rw [e, List.take_length]; exact hR
/-- a loop, by the index of each turn -/
theorem forC_at {g : FG} {f : FS} {is : List Nat} {n : Nat} (I : Nat → Ev → Sto → Prop) {ds : List D} {Γ : Ev} {S : Sto} {P : EndsP}
    (hc : ∀ i Γ S, I i Γ S → shut n (EvWipe Γ is) (S.take n) = true) (h0 : I 0 Γ S)
    (hs : ∀ i d, ds[i]? = some d → ∀ Γ S, I i Γ S → ∀ nx : Ev → Sto → Prop, (∀ Γ S, I (i + 1) Γ S → nx Γ S) → g (.fz d) (EvWipe Γ is) (S.take n) fun Γ1 S1 => f Γ1 S1 { P with nx := nx, ct := nx, bk := P.nx })
    (he : ∀ Γ S, I ds.length Γ S → P.nx (EvWipe Γ is) (S.take n)) : forC g f is n ds Γ S P := by
  have go : ∀ (rest : List D) (k : Nat) (Γ : Ev) (S : Sto), ds.drop k = rest → k ≤ ds.length → I k Γ S → forC g f is n rest Γ S P := by
    intro rest
    induction rest with
    | nil =>
      intro k Γ S e hk h
      have : k = ds.length := by
        have z := congrArg List.length e
        rw [List.length_drop, List.length_nil] at z
        omega
      exact ⟨hc k Γ S h, he Γ S (this ▸ h)⟩
    | cons d rest ih =>
      intro k Γ S e hk h
      obtain ⟨hx, hr⟩ := drop_at e
      exact ⟨hc k Γ S h, hs k d hx Γ S h _ fun Γ' S' h' => ih (k + 1) Γ' S' hr (get_lt hx) h'⟩
  exact go ds 0 Γ S rfl (Nat.zero_le _) h0
end PL
/-! how each combinator is entered (own work) -/
namespace PL
open PySem L2
section
variable {f fa fb fc fo fv fe : FE} {fr : FA} {ft fu : FT} {fi : FI} {fs u : FS} {g : G2} {g1 : G1} {gl : GL} {gw : GW} {gf : FG} {Γ : Ev} {S : Sto} {Rx : XP} {R : RB} {RA : List B → Sto → Prop} {RT : Bool → Sto → Prop} {RI : List D → Sto → Prop} {RO : Option Int → Sto → Prop} {P : EndsP} {RG : Ev → Sto → Prop}
theorem eC_i {d : D} (h : R (.fz d) S) : eC d Γ S Rx R := h
theorem eOp_i (h : fa Γ S Rx fun b S1 => fb Γ S1 Rx fun c S2 => g b c S2 R) : eOp g fa fb Γ S Rx R := h
theorem eUn_i (h : fa Γ S Rx fun b S1 => g1 b S1 R) : eUn g1 fa Γ S Rx R := h
theorem eAnd_i (h : fa Γ S Rx (asBl fun k S1 => cnd k (fb Γ S1 Rx R) (R (.fz (.bl false)) S1))) : eAnd fa fb Γ S Rx R := h
theorem eOr_i (h : fa Γ S Rx (asBl fun k S1 => cnd k (R (.fz (.bl true)) S1) (fb Γ S1 Rx R))) : eOr fa fb Γ S Rx R := h
theorem eNot_i (h : fa Γ S Rx (asBl fun k S1 => R (.fz (.bl (!k))) S1)) : eNot fa Γ S Rx R := h
theorem eIf_i (h : ft Γ S Rx fun k S1 => cnd k (fa Γ S1 Rx R) (fb Γ S1 Rx R)) : eIf ft fa fb Γ S Rx R := h
theorem aNil_i (h : RA [] S) : aNil Γ S Rx RA := h
theorem aCons_i (h : fe Γ S Rx fun b S1 => fr Γ S1 Rx fun bs S2 => RA (b :: bs) S2) : aCons fe fr Γ S Rx RA := h
theorem eCall_i (h : fr Γ S Rx fun bs S1 => gl bs S1 R) : eCall gl fr Γ S Rx R := h
theorem eCallX_i (h : fr Γ S Rx fun bs S1 => gw bs S1 Rx R) : eCallX gw fr Γ S Rx R := h
theorem eCallC_i (h : fr Γ S Rx fun bs S1 => gw bs S1 noX R) : eCallC gw fr Γ S Rx R := h
theorem eMethX_i {C m : Str} (h : fo Γ S Rx fun b S1 => isIns C m b S1 ∧ fr Γ S1 Rx fun bs S2 => gw (b :: bs) S2 Rx R) : eMethX C m gw fo fr Γ S Rx R := h
theorem eMethC_i {C m : Str} (h : fo Γ S Rx fun b S1 => isIns C m b S1 ∧ fr Γ S1 Rx fun bs S2 => gw (b :: bs) S2 noX R) : eMethC C m gw fo fr Γ S Rx R := h
theorem eProp_i {C : Str} (h : fo Γ S Rx fun b S1 => isObj C b S1 ∧ gw [b] S1 noX R) : eProp C gw fo Γ S Rx R := h
theorem eLst_i (h : fr Γ S Rx fun bs S1 => bs.length ≤ sizeLine ∧ asDs bs fun ds => R (.fz (.lst ds)) S1) : eLst fr Γ S Rx R := h
theorem eTup_i (h : fr Γ S Rx fun bs S1 => bs.length ≤ sizeLine ∧ asDs bs fun ds => R (.fz (.tup ds)) S1) : eTup fr Γ S Rx R := h
theorem eLstM_i (h : fr Γ S Rx fun bs S1 => bs.length ≤ sizeLine ∧ R (.mt S1.length) (S1 ++ [.lst bs])) : eLstM fr Γ S Rx R := h
theorem eSl_i {lo hi : FO} (h : f Γ S Rx fun b S1 => lo Γ S1 Rx fun l S2 => hi Γ S2 Rx fun h S3 => gSl b l h S3 R) : eSl f lo hi Γ S Rx R := h
theorem oNone_i (h : RO none S) : oNone Γ S Rx RO := h
theorem oSome_i (h : f Γ S Rx (asInt fun i S1 => RO (some i) S1)) : oSome f Γ S Rx RO := h
theorem eBM_i {ty : B → Sto → Prop} {gm : B → GL} (h : fo Γ S Rx fun b S1 => ty b S1 ∧ fr Γ S1 Rx fun bs S2 => gm b bs S2 R) : eBM ty gm fo fr Γ S Rx R := h
theorem tOf_i (h : f Γ S Rx fun b S1 => truth b S1 fun k => RT k S1) : tOf f Γ S Rx RT := h
theorem tBl_i (h : f Γ S Rx (asBl RT)) : tBl f Γ S Rx RT := h
theorem tAndP_i (h : ft Γ S Rx fun k S1 => cnd k (fu Γ S1 Rx RT) (RT false S1)) : tAndP ft fu Γ S Rx RT := h
theorem tOrP_i (h : ft Γ S Rx fun k S1 => cnd k (RT true S1) (fu Γ S1 Rx RT)) : tOrP ft fu Γ S Rx RT := h
theorem tNotP_i (h : ft Γ S Rx fun k S1 => RT (!k) S1) : tNotP ft Γ S Rx RT := h
theorem sSeq_i (h : fs Γ S { P with nx := fun Γ1 S1 => u Γ1 S1 P }) : sSeq fs u Γ S P := h
theorem sNext_i (h : P.nx Γ S) : sNext Γ S P := h
theorem sExpr_i (h : fe Γ S P.xe fun _ S1 => P.nx Γ S1) : sExpr fe Γ S P := h
theorem sRet_i (h : fe Γ S P.xe P.rt) : sRet fe Γ S P := h
theorem sRetN_i (h : P.rt (.fz .non) S) : sRetN Γ S P := h
theorem sIf_i (h : ft Γ S P.xe fun k S1 => cnd k (fs Γ S1 P) (u Γ S1 P)) : sIf ft fs u Γ S P := h
theorem sAsg_i (h : fe Γ S P.xe fun b S1 => gf b Γ S1 P.nx) : sAsg fe gf Γ S P := h
theorem gN_i {i : Nat} {b : B} (h : RG (Γ.set i (some b)) S) : gN i b Γ S RG := h
theorem sForC_i {is : List Nat} (h : fi Γ S P.xe fun ds S1 => forC gf fs is S1.length ds Γ S1 P) : sForC is fi gf fs Γ S P := h
theorem eLc_i {is : List Nat} (h : fi Γ S Rx fun ds S1 => lcW gf ft fe (EvWipe Γ is) ds [] S1 fun out S2 => asDs out fun os => R (.fz (.lst os)) S2) : eLc fi gf ft fe is Γ S Rx R := h
theorem eLcM_i {is : List Nat} (h : fi Γ S Rx fun ds S1 => lcW gf ft fe (EvWipe Γ is) ds [] S1 fun out S2 => R (.mt S2.length) (S2 ++ [.lst out])) : eLcM fi gf ft fe is Γ S Rx R := h
theorem tYesP_i (h : RT true S) : tYesP Γ S Rx RT := h
theorem eCon_i {kv : List (Str × D)} {f' : Str} (h : fo Γ S Rx fun b S1 => insA b S1 fun cn p => p f' = true ∧ optK (kv.lookup cn) fun d => R (.fz d) S1) : eCon kv f' fo Γ S Rx R := h
theorem ePropA_i {tbl : List (Str × FW)} {gg : FW → GW} (h : fo Γ S Rx fun b S1 => insA b S1 fun cn _ => optK (tbl.lookup cn) fun W => gg W [b] S1 noX R) : ePropA tbl gg fo Γ S Rx R := h
theorem eMethA_i {tbl : List (Str × FW)} {m : Str} {gg : FW → GW} (h : fo Γ S Rx fun b S1 => insA b S1 fun cn p => p m = true ∧ optK (tbl.lookup cn) fun W => fr Γ S1 Rx fun bs S2 => gg W (b :: bs) S2 noX R) : eMethA tbl m gg fo fr Γ S Rx R := h
theorem eMkK_i {is : List Nat} {m : Nat} (h : fr Γ S Rx fun zs S1 => zs.length = m ∧ gw (permA is zs) S1 noX R) : eMkK gw is m fr Γ S Rx R := h
theorem eMkKX_i {is : List Nat} {m : Nat} (h : fr Γ S Rx fun zs S1 => zs.length = m ∧ gw (permA is zs) S1 Rx R) : eMkKX gw is m fr Γ S Rx R := h
theorem eVar_i {i : Nat} {b : B} (e : Γ[i]? = some (some b)) (h : R b S) : eVar i Γ S Rx R := by
  unfold eVar
  rw [e]
  exact h
theorem pure1_i {W : FW} {dds : List D} {d : D} (h : W ((d :: dds).map B.fz) [] (fun C fs _ => Rx C fs S) (fun b _ => match b with
  | .fz d => R (.fz d) S
  | .mt _ => False)) : gPure W dds [.fz d] S Rx R := h
theorem pure2_i {W : FW} {dds : List D} {d d2 : D} (h : W ((d :: d2 :: dds).map B.fz) [] (fun C fs _ => Rx C fs S) (fun b _ => match b with
  | .fz d => R (.fz d) S
  | .mt _ => False)) : gPure W dds [.fz d, .fz d2] S Rx R := h
theorem pure3_i {W : FW} {dds : List D} {d d2 d3 : D} (h : W ((d :: d2 :: d3 :: dds).map B.fz) [] (fun C fs _ => Rx C fs S) (fun b _ => match b with
  | .fz d => R (.fz d) S
  | .mt _ => False)) : gPure W dds [.fz d, .fz d2, .fz d3] S Rx R := h
theorem make1_i {W : FW} {C : Str} {d : D} (h : W [.mt 0, .fz d] [.ins C []] (fun C fs _ => Rx C fs S) (fun b S1 => match b with
  | .fz .non => (match (S1[0]? : Option Cell) with
    | some (.ins C' fs) => asFs fs fun fds => R (.fz (.ins C' fds)) S
    | _ => False)
  | _ => False)) : gMake C W [] [.fz d] S Rx R := h
theorem make2_i {W : FW} {C : Str} {d d2 : D} (h : W [.mt 0, .fz d, .fz d2] [.ins C []] (fun C fs _ => Rx C fs S) (fun b S1 => match b with
  | .fz .non => (match (S1[0]? : Option Cell) with
    | some (.ins C' fs) => asFs fs fun fds => R (.fz (.ins C' fds)) S
    | _ => False)
  | _ => False)) : gMake C W [] [.fz d, .fz d2] S Rx R := h
theorem supWX_i {n m j : Nat} {dn c : Str} {cs : List Str} {W2 : FW} {fb : FS} {br : List B} {flds : List (Str × B)} (e : S[j]? = some (.ins c flds)) (hc : c ∈ cs) (hl : (.mt j :: br : List B).length = n)
    (h : fr ((.mt j :: br).map some ++ (some (.fz (.cls dn)) :: List.replicate m none)) S Rx fun us S1 => W2 (.mt j :: us) S1 Rx fun _ S2 => fb ((.mt j :: br).map some ++ (some (.fz (.cls dn)) :: List.replicate m none)) S2 { nx := fun _ S' => R (.fz .non) S', rt := R, xe := Rx }) :
    supWX n m dn cs W2 fr fb (.mt j :: br) S Rx R := by
  unfold supWX
  show match S[j]? with
    | some (.ins c _) => _
    | _ => False
  rw [e]
  exact ⟨hc, hl, h⟩
theorem defW_i {n m : Nat} {bs : List B} (hl : bs.length = n) (h : fs (bs.map some ++ List.replicate m none) S { nx := fun _ S' => R (.fz .non) S', rt := R, xe := Rx }) : defW n m fs bs S Rx R := ⟨hl, h⟩
theorem ixL_i {ds : List D} {i : Int} {d : D} (e : atI ds i = some d) (h : R (.fz d) S) : gIx (.fz (.lst ds)) (.fz (.int i)) S R := optK_at e h
theorem ixT_i {ds : List D} {i : Int} {d : D} (e : atI ds i = some d) (h : R (.fz d) S) : gIx (.fz (.tup ds)) (.fz (.int i)) S R := optK_at e h
theorem addI_i {i j : Int} (h : R (.fz (.int (i + j))) S) : gD2 dAdd (.fz (.int i)) (.fz (.int j)) S R := h
theorem subI_i {i j : Int} (h : R (.fz (.int (i - j))) S) : gD2 dSub (.fz (.int i)) (.fz (.int j)) S R := h
theorem cmpI_i {p : Int → Int → Bool} {i j : Int} (h : R (.fz (.bl (p i j))) S) : gD2 (dCmp p) (.fz (.int i)) (.fz (.int j)) S R := h
theorem eqI_i {neg : Bool} {i j : Int} (h : R (.fz (.bl (neg != decide (i = j)))) S) : gD2 (dEq neg) (.fz (.int i)) (.fz (.int j)) S R := h
theorem eqS_i {neg : Bool} {i j : Str} (h : R (.fz (.bl (neg != decide (i = j)))) S) : gD2 (dEq neg) (.fz (.str i)) (.fz (.str j)) S R := h
theorem lenL_i {ds : List D} (h : R (.fz (.int ds.length)) S) : gLen [.fz (.lst ds)] S R := h
theorem lenT_i {ds : List D} (h : R (.fz (.int ds.length)) S) : gLen [.fz (.tup ds)] S R := h
theorem same_i {W : Nat → FW} {n : Nat} {a b : D} (hW : W n = W n) (h : W n [.fz a, .fz b] [] (fun C fs _ => Rx C fs S) (fun b _ => match b with
  | .fz d => R (.fz d) S
  | .mt _ => False)) : gPure (W n) [] [.fz a, .fz b] S Rx R := h
theorem asDsC_i {bs : List B} {d : D} {k : List D → Prop} (h : asDs bs fun ds => k (d :: ds)) : asDs (.fz d :: bs) k := h
theorem asDsN_i {k : List D → Prop} (h : k []) : asDs [] k := h
theorem asDsM_i {ds : List D} {k : List D → Prop} (h : k ds) : asDs (ds.map .fz) k := asDs_map h
theorem le_i {n m : Nat} {p : Prop} (e : Nat.ble n m = true) (h : p) : n ≤ m ∧ p := ⟨Nat.le_of_ble_eq_true e, h⟩
theorem eqand_i {α : Type} {a b : α} {p : Prop} (e : a = b) (h : p) : a = b ∧ p := ⟨e, h⟩
theorem isObj_i {C : Str} {fs : List (Str × D)} {p : Prop} (h : p) : isObj C (.fz (.ins C fs)) S ∧ p := ⟨rfl, h⟩
theorem isIns_i {C m : Str} {fs : List (Str × D)} {p : Prop} (e : fs.lookup m = none) (h : p) : isIns C m (.fz (.ins C fs)) S ∧ p := ⟨⟨rfl, e⟩, h⟩
theorem insA_i {cn : Str} {fs : List (Str × D)} {k : Str → (Str → Bool) → Prop} (h : k cn fun f => (fs.lookup f).isNone) : insA (.fz (.ins cn fs)) S k := h
theorem optK_i {α : Type} {o : Option α} {x : α} {k : α → Prop} (e : o = some x) (h : k x) : optK o k := by rw [e]; exact h
theorem gT_i {n : Nat} {gs : FGs} {ds : List D} (e : ds.length = n) (h : gs ds Γ S RG) : gT n gs (.fz (.tup ds)) Γ S RG := ⟨e, h⟩
theorem gsC_i {gs : FGs} {d : D} {ds : List D} (h : gf (.fz d) Γ S fun Γ1 S1 => gs ds Γ1 S1 RG) : gsC gf gs (d :: ds) Γ S RG := h
theorem gsN_i (h : RG Γ S) : gsN [] Γ S RG := h
theorem sPar_i {i j : Nat} {fa : FA} (h : fa Γ S P.xe fun bs S1 => match bs with
  | [b, c] => P.nx ((Γ.set i (some b)).set j (some c)) S1
  | _ => False) : sPar i j fa Γ S P := h
theorem sPar3_i {i j l : Nat} {fa : FA} (h : fa Γ S P.xe fun bs S1 => match bs with
  | [b, c, d] => P.nx (((Γ.set i (some b)).set j (some c)).set l (some d)) S1
  | _ => False) : sPar3 i j l fa Γ S P := h
theorem fldI_i {C m : Str} {fs : List (Str × D)} {d : D} (e : fs.lookup m = some d) (h : R (.fz d) S) : gFld C m (.fz (.ins C fs)) S R := ⟨rfl, optK_i e h⟩
def gFldA (cs : List Str) (m : Str) (b : B) (S : Sto) (R : RB) : Prop := match b with
  | .fz (.ins cn fs) => cn ∈ cs ∧ optK (fs.lookup m) fun d => R (.fz d) S
  | .mt k => (match S[k]? with
    | some (.ins cn fs) => cn ∈ cs ∧ optK (fs.lookup m) fun b => R b S
    | _ => False)
  | _ => False
theorem eFldA_i {cs : List Str} {m : Str} (h : fe Γ S Rx fun b S1 => gFldA cs m b S1 R) : eFldA cs m fe Γ S Rx R := h
theorem fldA_i {cs : List Str} {m cn : Str} {fs : List (Str × D)} {d : D} (e1 : cn ∈ cs) (e2 : fs.lookup m = some d) (h : R (.fz d) S) : gFldA cs m (.fz (.ins cn fs)) S R := ⟨e1, optK_i e2 h⟩
theorem fldAM_i {cs : List Str} {m cn : Str} {k : Nat} {fs : List (Str × B)} {b : B} (e0 : S[k]? = some (.ins cn fs)) (e1 : cn ∈ cs) (e2 : fs.lookup m = some b) (h : R b S) : gFldA cs m (.mt k) S R := by
  show match S[k]? with
    | some (.ins cn fs) => cn ∈ cs ∧ optK (fs.lookup m) fun b => R b S
    | _ => False
  rw [e0]
  exact ⟨e1, optK_i e2 h⟩
theorem asBl_i {k : Bool} {RB : Bool → Sto → Prop} (h : RB k S) : asBl RB (.fz (.bl k)) S := h
theorem asInt_i {k : Int} {RB : Int → Sto → Prop} (h : RB k S) : asInt RB (.fz (.int k)) S := h
theorem truth_bl {k : Bool} {RB : Bool → Prop} (h : RB k) : truth (.fz (.bl k)) S RB := h
theorem cndNT_i {A C : Prop} (h : C) : cnd (!true) A C := h
theorem cndNF_i {A C : Prop} (h : A) : cnd (!false) A C := h
theorem cndT_i {A C : Prop} (h : A) : cnd true A C := h
theorem cndF_i {A C : Prop} (h : C) : cnd false A C := h
end
end PL
namespace PL
open PySem L2
theorem bagJ2_i {j : Nat} {W : FW} {d : D} {S : Sto} {Rx : XP} {R : RB} (h0 : S[j]? = some .bag) (h : W [.mt 0, .fz d] [.bag] noX fun b S1 => S1[0]? = some .bag ∧ match b with
  | .fz d => R (.fz d) S
  | .mt _ => False) : gBagJ j W [] [.mt j, .fz d] S Rx R := ⟨h0, ⟨rfl, trivial⟩, h⟩
theorem bagJ1_i {j : Nat} {W : FW} {S : Sto} {Rx : XP} {R : RB} (h0 : S[j]? = some .bag) (h : W [.mt 0] [.bag] noX fun b S1 => S1[0]? = some .bag ∧ match b with
  | .fz d => R (.fz d) S
  | .mt _ => False) : gBagJ j W [] [.mt j] S Rx R := ⟨h0, ⟨rfl, trivial⟩, h⟩
end PL
namespace PL
open PySem L2
/-- how long a text is at most -/
class SL (z : Str) (n : outParam Nat) : Prop where
  le : z.length ≤ n
instance {s : String} : SL (Str.ofString s) (Str.ofString s).length := ⟨Nat.le_refl _⟩
instance {a b : Str} {m n : Nat} [h : SL a m] [k : SL b n] : SL (a ++ b) (m + n) := ⟨by rw [Str.length_append]; exact Nat.add_le_add h.le k.le⟩
instance : SL Str.empty 0 := ⟨Nat.le_refl _⟩
theorem SL.ok {z : Str} {n : Nat} (h : SL z n) (e : Nat.ble n sizeLine = true) : z.length ≤ sizeLine := Nat.le_trans h.le (Nat.le_of_ble_eq_true e)
section
variable {S : Sto} {Rx : XP} {R : RB} {Γ : Ev} {f : FE} {fs : List FE} {P : EndsP}
theorem addS_i {i j : Str} {m n : Nat} [hi : SL i m] [hj : SL j n] (e : Nat.ble (m + n) sizeLine = true) (h : R (.fz (.str (i ++ j))) S) : gD2 dAdd (.fz (.str i)) (.fz (.str j)) S R :=
  ⟨Nat.le_trans (Nat.add_le_add hi.le hj.le) (Nat.le_of_ble_eq_true e), h⟩
theorem addL_i {xs ys : List D} (e : Nat.ble (xs.length + ys.length) sizeLine = true) (h : R (.fz (.lst (xs ++ ys))) S) : gD2 dAdd (.fz (.lst xs)) (.fz (.lst ys)) S R := ⟨Nat.le_of_ble_eq_true e, h⟩
theorem powI_i {i j : Int} (e : (decide (0 ≤ j) && (decide (j ≤ 1000000) && Nat.blt i.natAbs 18446744073709551616)) = true) (h : R (.fz (.int (i ^ j.toNat))) S) : gD2 dPow (.fz (.int i)) (.fz (.int j)) S R := by
  rw [Bool.and_eq_true, Bool.and_eq_true] at e
  exact ⟨⟨of_decide_eq_true e.1, of_decide_eq_true e.2.1, Nat.lt_of_lt_of_eq (Nat.le_of_ble_eq_true e.2.2) (by decide +kernel)⟩, h⟩
theorem fmtS_i {y : Str} {n : Nat} [hy : SL y n] (e : Nat.ble n sizeLine = true) (h : R (.fz (.str y)) S) : gD1 dFmt (.fz (.str y)) S R := ⟨hy.ok e, h⟩
theorem fmtI_i {i : Int} (e : i.natAbs.log2 < 1920) (h : R (.fz (.str (toString i))) S) : gD1 dFmt (.fz (.int i)) S R := ⟨e, h⟩
theorem gStr_i {i : Int} (e : i.natAbs.log2 < 1920) (h : R (.fz (.str (toString i))) S) : gStr [.fz (.int i)] S R := ⟨e, h⟩
theorem asStr_i {z : Str} {RS : Str → Sto → Prop} (h : RS z S) : asStr RS (.fz (.str z)) S := h
theorem jsN_i {acc : Str} (h : R (.fz (.str acc)) S) : jsW [] acc Γ S Rx R := h
theorem jsC_i {acc : Str} (h : f Γ S Rx (asStr fun y S1 => (acc ++ y).length ≤ sizeLine ∧ jsW fs (acc ++ y) Γ S1 Rx R)) : jsW (f :: fs) acc Γ S Rx R := h
theorem slAnd_i {z : Str} {n : Nat} {p : Prop} [hz : SL z n] (e : Nat.ble n sizeLine = true) (h : p) : z.length ≤ sizeLine ∧ p := ⟨hz.ok e, h⟩
theorem gReprO_i {C : Str} {gw : GW} {fds : List (Str × D)} (h : gw [.fz (.ins C fds)] S noX (asStr fun n S2 => R (.fz (.str n)) S2)) : gReprO C gw [.fz (.ins C fds)] S R := ⟨rfl, h⟩
theorem gEqO_i {neg : Bool} {tbl : List (Str × FW)} {oo : List (Str × Str)} {ob : List (Str × String)} {cn : Str} {fds : List (Str × D)} {c : B} {W : FW} (e1 : eqRight oo ob cn c S) (e2 : tbl.lookup cn = some W) (h : gPure W [] [.fz (.ins cn fds), c] S noX (asBl fun k S' => R (.fz (.bl (neg != k))) S')) : gEqO neg tbl oo ob (.fz (.ins cn fds)) c S R := ⟨e1, optK_i e2 h⟩
theorem gIsi_i {T : IsaT} {x c : D} {k : Bool} (e : isaC T x c = some k) (h : R (.fz (.bl k)) S) : gIsi (isaC T) [.fz x, .fz c] S R := optK_i e h
end
end PL
namespace PL
open PySem L2
theorem pure1N_i {W : FW} {d : D} {S : Sto} {Rx : XP} {R : RB} (h : W [.fz d] [] (fun C fs _ => Rx C fs S) (fun b _ => match b with
  | .fz d => R (.fz d) S
  | .mt _ => False)) : gPure W [] [.fz d] S Rx R := h
theorem pure2N_i {W : FW} {d d2 : D} {S : Sto} {Rx : XP} {R : RB} (h : W [.fz d, .fz d2] [] (fun C fs _ => Rx C fs S) (fun b _ => match b with
  | .fz d => R (.fz d) S
  | .mt _ => False)) : gPure W [] [.fz d, .fz d2] S Rx R := h
theorem defWat_i {W : FW} {n m : Nat} {fs : FS} {bs : List B} {S : Sto} {Rx : XP} {R : RB} (e : W = defW n m fs) (hl : bs.length = n) (h : fs (bs.map some ++ List.replicate m none) S { nx := fun _ S' => R (.fz .non) S', rt := R, xe := Rx }) : W bs S Rx R := by
  rw [e]
  exact ⟨hl, h⟩
end PL
namespace PL
open PySem L2
theorem str_assoc (a b c : Str) : a ++ b ++ c = a ++ (b ++ c) := by
  show Str.mk _ = Str.mk _
  exact congrArg Str.mk Array.append_assoc
theorem str_empty (a : Str) : Str.empty ++ a = a := PySem.W.KT.empty_app a
end PL
namespace PL
open PySem L2
section
variable {α : Type} [DecidableEq α] {i j : α} {A C : Prop}
theorem cndE_i (e : i = j) (h : A) : cnd (false != decide (i = j)) A C := by rw [decide_eq_true e]; exact h
theorem cndN_i (e : i ≠ j) (h : C) : cnd (false != decide (i = j)) A C := by rw [decide_eq_false e]; exact h
theorem cndE2_i (e : i = j) (h : C) : cnd (true != decide (i = j)) A C := by rw [decide_eq_true e]; exact h
theorem cndN2_i (e : i ≠ j) (h : A) : cnd (true != decide (i = j)) A C := by rw [decide_eq_false e]; exact h
end
theorem S_ne {a b : List Nat} (h : a ≠ b) : SX.S a ≠ SX.S b := fun e => h (by have := congrArg (fun z : Str => z.cps.toList) e; exact this)
end PL
namespace PL
open PySem L2
theorem perm10_i {gw : GW} {a b : B} {S : Sto} {Rx : XP} {R : RB} (h : gw [b, a] S Rx R) : gw (permA [1, 0] [a, b]) S Rx R := h
end PL
namespace PL
open PySem L2
theorem bag1_i {W : FW} {S : Sto} {Rx : XP} {R : RB} (h0 : S[0]? = some .bag) (h : W [.mt 0] [.bag] noX fun b S1 => S1[0]? = some .bag ∧ match b with
  | .fz d => R (.fz d) S
  | .mt _ => False) : gBag W [] [.mt 0] S Rx R := ⟨h0, trivial, h⟩
theorem bag2_i {W : FW} {d : D} {S : Sto} {Rx : XP} {R : RB} (h0 : S[0]? = some .bag) (h : W [.mt 0, .fz d] [.bag] noX fun b S1 => S1[0]? = some .bag ∧ match b with
  | .fz d => R (.fz d) S
  | .mt _ => False) : gBag W [] [.mt 0, .fz d] S Rx R := ⟨h0, trivial, h⟩
end PL
namespace Lp
open PySem L2
def topS (i : Nat) : Stmt := PySem.Challenge.pw_lumplooks_k11_seats_told.main.body.getD i (.Pass ⟨0, 0, 0, 0⟩)
def clsB (s : Stmt) : List Stmt := match s with
  | .ClassDef _ _ _ b _ _ _ _ _ _ _ => b
  | _ => []
abbrev sBag : Stmt := topS 16
abbrev sPull : Stmt := topS 17
abbrev sField : Stmt := topS 21
abbrev sWhy : Stmt := topS 22
abbrev sWhys : Stmt := topS 23
/-! ### the bag: what is drawn from, and one draw -/
/-- q: the cells; i: the next one; b: what is left of a great cell; s: the mixed number; c: how many draws -/
def BagAt (H : Hp) (p q : Addr) (cells : List Int) (i : Nat) (b s c : Int) : Prop :=
  H p = some (.lst [.ref q, .int (i : Nat), .int b, .int s, .int c]) ∧ H q = some (.lst (cells.map V.int)) ∧ cells.length ≤ 63 ∧ i ≤ cells.length ∧ 0 ≤ b ∧ 0 ≤ s ∧ s < 2147483579
/-- the bag at p, its cells at q -/
def Bag (H : Hp) (p q : Addr) : Prop := ∃ (cells : List Int) (i : Nat) (b s c : Int), BagAt H p q cells i b s c
/-- from H to H' the bag alone may have turned; other things may be new -/
structure Bs (p q : Addr) (H H' : Hp) : Prop where
  keep : ∀ b o, b ≠ p → H b = some o → H' b = some o
  bag : Bag H' p q
theorem lst_inj {xs ys : List V} (h : some (HO.lst xs) = some (HO.lst ys)) : xs = ys := by
  injection h with h
  injection h
theorem BagAt.ne {H : Hp} {p q : Addr} {cells : List Int} {i : Nat} {b s c : Int} (h : BagAt H p q cells i b s c) : q ≠ p := fun e => by
  obtain ⟨h1, h2, _⟩ := h
  rw [e, h1] at h2
  have e2 := lst_inj h2
  cases cells with
  | nil => cases e2
  | cons x r =>
    rw [List.map_cons] at e2
    injection e2 with e3
    cases e3
theorem Bs.refl {p q : Addr} {H : Hp} (h : Bag H p q) : Bs p q H H := ⟨fun _ _ _ e => e, h⟩
theorem Bs.trans {p q : Addr} {H H1 H2 : Hp} (a : Bs p q H H1) (b : Bs p q H1 H2) : Bs p q H H2 := ⟨fun c o n e => b.keep c o n (a.keep c o n e), b.bag⟩
theorem Bag.some {H : Hp} {p q : Addr} (h : Bag H p q) : ∃ o, H p = some o := by
  obtain ⟨cells, i, b, s, c, h1, _⟩ := h
  exact ⟨_, h1⟩
theorem Bag.nn {H : Hp} {p q r : Addr} (h : Bag H p q) (e : H r = none) : r ≠ p := fun z => by
  obtain ⟨o, h⟩ := h.some
  rw [z, h] at e
  cases e
theorem Bag.nq {H : Hp} {p q r : Addr} (h : Bag H p q) (e : H r = none) : r ≠ q := fun z => by
  obtain ⟨cells, i, b, s, c, _, h2, _⟩ := h
  rw [z, h2] at e
  cases e
/-- what is new ahead was new before -/
theorem Bs.free {p q : Addr} {H H1 : Hp} (a : Bs p q H H1) {r : Addr} (h : H1 r = none) : H r = none := by
  cases e : H r with
  | none => rfl
  | some o =>
    rw [a.keep r o (a.bag.nn h) e] at h
    cases h
theorem Bag.mut {H : Hp} {p q r : Addr} {o : HO} (h : Bag H p q) (n1 : r ≠ p) (n2 : r ≠ q) : Bag (upd H r o) p q := by
  obtain ⟨cells, i, b, s, c, h1, h2, h3⟩ := h
  exact ⟨cells, i, b, s, c, by rw [upd_ne n1.symm]; exact h1, by rw [upd_ne n2.symm]; exact h2, h3⟩
theorem Bag.upd {H : Hp} {p q r : Addr} {o : HO} (h : Bag H p q) (e : H r = none) : Bag (upd H r o) p q := h.mut (h.nn e) (h.nq e)
theorem Bs.new {p q : Addr} {H H1 : Hp} (a : Bs p q H H1) {r : Addr} {o : HO} (h : H1 r = none) : Bs p q H (upd H1 r o) :=
  ⟨fun c u n e => by
    have e1 := a.keep c u n e
    rw [upd_ne (ne_of_none e1 h)]
    exact e1, a.bag.upd h⟩
/-- a thing that is newer than H changes -/
theorem Bs.mut {p q : Addr} {H H1 : Hp} (a : Bs p q H H1) (b : Bag H p q) {r : Addr} {o : HO} (h : H r = none) : Bs p q H (upd H1 r o) :=
  ⟨fun c u n e => by
    rw [upd_ne (ne_of_none e h)]
    exact a.keep c u n e, a.bag.mut (b.nn h) (b.nq h)⟩
theorem Bs.same {p q : Addr} {H H1 H2 : Hp} (a : Bs p q H H1) (s : Same H1 H2) : Bs p q H H2 :=
  ⟨fun c u n e => s _ _ (a.keep c u n e), by
    obtain ⟨cells, i, b, s', c, h1, h2, h3⟩ := a.bag
    exact ⟨cells, i, b, s', c, s _ _ h1, s _ _ h2, h3⟩⟩
theorem Bs.seqL {K : PySem.W.Frag} {p q a : Addr} {H H1 : Hp} {xs : List V} (b : Bs p q H H1) (n : a ≠ p) (h : SqL K H a xs) : SqL K H1 a xs := by
  rcases h with (h | ⟨o, h⟩) | h
  · exact .inl (.inl (b.keep _ _ n h))
  · exact .inl (.inr ⟨o, b.keep _ _ n h⟩)
  · exact .inr h
theorem Bs.seqT {K : PySem.W.Frag} {p q a : Addr} {H H1 : Hp} {xs : List V} (b : Bs p q H H1) (n : a ≠ p) (h : SqT K H a xs) : SqT K H1 a xs := by
  rcases h with (h | ⟨o, h⟩) | h
  · exact .inl (.inl (b.keep _ _ n h))
  · exact .inl (.inr ⟨o, b.keep _ _ n h⟩)
  · exact .inr h
/-- .. all is kept but the bag: a promise of a draw -/
def spPull : Sp := fun vs H Q _ => ∃ (p q : Addr) (many : Int), vs = [.ref p, .int many] ∧ Bag H p q ∧ 0 < many ∧ many ≤ 1000000000000000000 ∧
  ∀ d H', 0 ≤ d → d < many → Bs p q H H' → Q (.int d) H'
structure TxB (mg : Str → Option Value) : Prop where
  len : mg "len" = none
  int : mg "int" = none
section
variable {P : Program} {w : World} {K : PySem.W.Frag} {mg : Str → Option Value} {base : Heap}
theorem scPull : FnScope ["_law_bag_here", "_law_many", "_law_cell", "_law_digit", "_law_state"] ["_law_bag_here", "_law_many"] (defScope sPull) := ⟨rfl, rfl, rfl, by decide +kernel, rfl, by decide +kernel, by decide +kernel⟩
theorem bag_of {H : Hp} {p q : Addr} {cells : List Int} {i : Nat} {b s c : Int} {xs : List V} (nq : q ≠ p) (h1 : xs = [.ref q, .int (i : Nat), .int b, .int s, .int c]) (h2 : H q = some (.lst (cells.map V.int))) (h3 : cells.length ≤ 63) (h4 : i ≤ cells.length) (h5 : 0 ≤ b) (h6 : 0 ≤ s) (h7 : s < 2147483579) : BagAt (upd H p (.lst xs)) p q cells i b s c :=
  ⟨by rw [upd_same, h1], by rw [upd_ne nq]; exact h2, h3, h4, h5, h6, h7⟩

theorem ok_pull {f : Addr} {fd : FuncData} {k : Nat} (F : Fun K "_law_pull" "_law_pull" sPull f fd) (T : TxB mg) : FnOk P w K mg base CX0 (k + 1) f fd ["_law_bag_here", "_law_many"] spPull := by
  refine F.ok scPull (fun vs H Q E h => ?_) (fun cdv A outer s H vs Q E hr h => ?_)
  · obtain ⟨p, q, m, rfl, _⟩ := h
    rfl
  · obtain ⟨p, q, m, rfl, ⟨cells, i, b, s, c, hB⟩, hm0, hm1, k⟩ := h
    refine ⟨_, (pss_cons (ps_asg (pe_op op_add (pe_ix ix_list (pv 0) pe_int (fun _ _ => rfl)) pe_int) (pg_sub (pv 0) pe_int set_list))
 (C8.pss_cut (ps_if (PW.pt (pw_and (pt_cmpR op_eq (pe_ix ix_list (pv 0) pe_int (fun _ _ => rfl)) pe_int (nomark _)) (pw_and1 (pt_cmpR op_lt (pe_ix ix_list (pv 0) pe_int (fun _ _ => rfl)) (pe_callB call_len_seq (by rfl) T.len PySem.boot_len (pa_cons (pe_ix ix_list (pv 0) pe_int (fun _ _ => rfl)) pa_nil)) (nomark _))))) (pss_cons (ps_set (i := 2) scPull.nd rfl (Or.inl rfl) (pe_ix ix_list (pe_ix ix_list (pv 0) pe_int (fun _ _ => rfl)) (pe_ix ix_list (pv 0) pe_int (fun _ _ => rfl)) (fun _ _ => rfl)))
 (pss_cons (ps_asg (pe_op op_add (pe_ix ix_list (pv 0) pe_int (fun _ _ => rfl)) pe_int) (pg_sub (pv 0) pe_int set_list))
 (C8.pss_cut (ps_if (pt_cmpR op_ge (pv 2) (pe_op op_pow pe_int pe_int) (nomark _)) (pss_one (ps_asg (pv 2) (pg_sub (pv 0) pe_int set_list))) pss_nil)
 (pss_one (ps_asg (pe_op op_mod (pe_callTy call_int1 (by rfl) T.int PyProof.Rows.boot_int (pa_cons (pe_op op_add (pe_op op_add (pe_op op_mul (pe_ix ix_list (pv 0) pe_int (fun _ _ => rfl)) pe_int) (pe_op op_mul (pe_op op_mod (pe_callTy call_int1 (by rfl) T.int PyProof.Rows.boot_int (pa_cons (pv 2) pa_nil)) pe_int) pe_int)) pe_int) pa_nil)) pe_int) (pg_sub (pv 0) pe_int set_list)))))) pss_nil)
 (pss_cons (ps_if (pt_cmpR op_gt (pe_ix ix_list (pv 0) pe_int (fun _ _ => rfl)) pe_int (nomark _)) (pss_cons (ps_set (i := 3) scPull.nd rfl (Or.inl rfl) (pe_op op_mod (pe_callTy call_int1 (by rfl) T.int PyProof.Rows.boot_int (pa_cons (pe_ix ix_list (pv 0) pe_int (fun _ _ => rfl)) pa_nil)) (pv 1)))
 (pss_cons (ps_asg (pe_op op_fdivW (pe_callTy call_int1 (by rfl) T.int PyProof.Rows.boot_int (pa_cons (pe_ix ix_list (pv 0) pe_int (fun _ _ => rfl)) pa_nil)) (pv 1)) (pg_sub (pv 0) pe_int set_list))
 (pss_one (ps_ret (pv 3))))) pss_nil)
 (pss_cons (ps_set (i := 4) scPull.nd rfl (Or.inl rfl) (pe_ix ix_list (pv 0) pe_int (fun _ _ => rfl)))
 (pss_cons (ps_asg (pe_op op_mod (pe_callTy call_int1 (by rfl) T.int PyProof.Rows.boot_int (pa_cons (pe_op op_add (pe_op op_add (pe_op op_add (pe_op op_pow (pv 4) pe_int) (pe_op op_mul (pv 4) pe_int)) (pe_op op_mul (pe_ix ix_list (pv 0) pe_int (fun _ _ => rfl)) pe_int)) pe_int) pa_nil)) pe_int) (pg_sub (pv 0) pe_int set_list))
 (pss_one (ps_ret (pe_op op_mod (pe_callTy call_int1 (by rfl) T.int PyProof.Rows.boot_int (pa_cons (pe_op op_add (pe_op op_fdiv (pe_ix ix_list (pv 0) pe_int (fun _ _ => rfl)) pe_int) (pe_op op_mul (pe_op op_mod (pe_callTy call_int1 (by rfl) T.int PyProof.Rows.boot_int (pa_cons (pe_ix ix_list (pv 0) pe_int (fun _ _ => rfl)) pa_nil)) pe_int) pe_int)) pa_nil)) (pv 1))))))))), ?_⟩
    have nq := BagAt.ne hB
    obtain ⟨h1, h2, h3, h4, h5, h6, h7⟩ := hB
    -- bag[4] = bag[4] + 1
    refine ⟨_, rfl, p, _, _, _, rfl, rfl, SqL.of h1, rfl, c, 1, rfl, rfl, _, rfl, p, _, _, _, rfl, rfl, h1, rfl, ?_⟩
    have g1 : BagAt (upd H p (.lst [.ref q, .int (i : Nat), .int b, .int s, .int (c + 1)])) p q cells i b s (c + 1) := bag_of nq rfl h2 h3 h4 h5 h6 h7
    refine ⟨fun σ H' => ∃ (i : Nat) (b s c : Int) (y2 : Option V), σ = [some (.ref p), some (.int m), y2, none, none] ∧ BagAt H' p q cells i b s c ∧ ∀ a, a ≠ p → H' a = H a, ?_, ?_⟩
    · -- the test
      refine ⟨_, rfl, p, _, _, _, rfl, rfl, SqL.of g1.1, rfl, rfl, _, rfl, ?_⟩
      have kp1 : ∀ a, a ≠ p → (upd H p (.lst [.ref q, .int (i : Nat), .int b, .int s, .int (c + 1)])) a = H a := fun a n => upd_ne n
      refine ite2 (fun e0 => ?_) (fun _ => iteF ⟨i, b, s, c + 1, none, rfl, g1, kp1⟩)
      refine ⟨_, rfl, p, _, _, _, rfl, rfl, SqL.of g1.1, rfl, _, rfl, p, _, _, _, rfl, rfl, SqL.of g1.1, rfl, q, _, rfl, .inl (SqL.of g1.2.1), _, _, rfl, rfl, _, rfl, ?_⟩
      refine ite2 (fun e1 => ?_) (fun _ => ⟨i, b, s, c + 1, none, rfl, g1, kp1⟩)
      have hi : i < cells.length := by
        have e2 := of_decide_eq_true e1
        rw [List.length_map] at e2
        omega
      -- cell = bag[0][bag[1]]
      have hc : (cells.map V.int)[i]? = some (.int cells[i]) := by
        rw [List.getElem?_map, List.getElem?_eq_getElem hi]
        rfl
      refine ⟨_, rfl, p, _, _, _, rfl, rfl, SqL.of g1.1, rfl, _, rfl, p, _, _, _, rfl, rfl, SqL.of g1.1, rfl, q, _, _, _, rfl, rfl, SqL.of g1.2.1, atI_nat hc, ?_⟩
      -- bag[1] = bag[1] + 1
      refine ⟨_, rfl, p, _, _, _, rfl, rfl, SqL.of g1.1, rfl, _, _, rfl, rfl, _, rfl, p, _, _, _, rfl, rfl, g1.1, rfl, ?_⟩
      have g2 : BagAt (upd (upd H p (.lst [.ref q, .int (i : Nat), .int b, .int s, .int (c + 1)])) p (.lst [.ref q, .int ((i : Int) + 1), .int b, .int s, .int (c + 1)])) p q cells (i + 1) b s (c + 1) := bag_of nq (by rw [show (((i + 1 : Nat) : Int)) = (i : Int) + 1 by omega]) g1.2.1 h3 (by omega) h5 h6 h7
      -- if cell >= 10 ** 18: bag[2] = cell
      have kp2 : ∀ a, a ≠ p → (upd (upd H p (.lst [.ref q, .int (i : Nat), .int b, .int s, .int (c + 1)])) p (.lst [.ref q, .int ((i : Int) + 1), .int b, .int s, .int (c + 1)])) a = H a := fun a n => by rw [upd_ne n, upd_ne n]
      refine ⟨fun σ H' => ∃ b : Int, σ = [some (.ref p), some (.int m), some (.int cells[i]), none, none] ∧ BagAt H' p q cells (i + 1) b s (c + 1) ∧ ∀ a, a ≠ p → H' a = H a, ?_, ?_⟩
      · refine ⟨_, rfl, 10, 18, rfl, rfl, ⟨by decide, by decide, by decide⟩, _, _, rfl, rfl, _, rfl, ?_⟩
        refine ite2 (fun e2 => ?_) (fun _ => ⟨b, rfl, g2, kp2⟩)
        have e3 := of_decide_eq_true e2
        refine ⟨_, rfl, _, rfl, p, _, _, _, rfl, rfl, g2.1, rfl, ?_⟩
        refine ⟨cells[i], rfl, bag_of nq rfl g2.2.1 h3 (by omega) (Int.le_trans (by decide) e3) h6 h7, fun a n => by rw [upd_ne n]; exact kp2 a n⟩
      · rintro σ H3 ⟨b, rfl, g3, kp3⟩
        have b0 := g3.2.2.2.2.1
        refine ⟨_, rfl, p, _, _, _, rfl, rfl, SqL.of g3.1, rfl, _, _, rfl, rfl, .inl ⟨by omega, by omega⟩, _, rfl, .inl ⟨_, rfl, _, _, rfl, rfl, (by show (0 : Int) < 2147483497; decide), _, _, rfl, rfl, .inr ⟨by decide, by decide⟩, _, _, rfl, rfl, _, _, rfl, rfl, .inl ⟨_, rfl, _, _, rfl, rfl, (by show (0 : Int) < 2147483579; decide), _, rfl, p, _, _, _, rfl, rfl, g3.1, rfl, ?_⟩⟩⟩
        exact ⟨i + 1, b, _, c + 1, _, rfl, bag_of nq rfl g3.2.1 h3 (by omega) b0 (Int.emod_nonneg _ (by decide)) (Int.emod_lt_of_pos _ (by decide)), fun a n => by rw [upd_ne n]; exact kp3 a n⟩
    · rintro σ H1 ⟨i, b, s, c, y2, rfl, g, kp⟩
      obtain ⟨h1, h2, h3, h4, h5, h6, h7⟩ := id g
      have fin : ∀ (H2 : Hp) (d : Int), (∃ i b s c, BagAt H2 p q cells i b s c) → (∀ a, a ≠ p → H2 a = H a) → 0 ≤ d → d < m → Q (.int d) H2 := fun H2 d ⟨i, b, s, c, g⟩ kk d0 d1 =>
        k d H2 d0 d1 ⟨fun a o n e => (kk a n).trans e, ⟨cells, i, b, s, c, g⟩⟩
      have mw : m.natAbs < 2 ^ 60 := by omega
      refine ⟨_, rfl, p, _, _, _, rfl, rfl, SqL.of h1, rfl, _, _, rfl, rfl, _, rfl, ?_⟩
      refine ite2 (fun e0 => ?_) (fun _ => ?_)
      · have b0 : 0 < b := of_decide_eq_true e0
        refine ⟨_, rfl, p, _, _, _, rfl, rfl, SqL.of h1, rfl, .inl ⟨_, rfl, _, rfl, _, _, rfl, rfl, hm0, ?_⟩⟩
        refine ⟨_, rfl, p, _, _, _, rfl, rfl, SqL.of h1, rfl, .inl ⟨_, rfl, _, rfl, _, _, rfl, rfl, wide_div hm0 mw (by decide) (by decide), _, rfl, p, _, _, _, rfl, rfl, h1, rfl, ?_⟩⟩
        refine ⟨_, rfl, fin _ _ ⟨i, b / m, s, c, bag_of nq rfl h2 h3 h4 (Int.ediv_nonneg (by omega) (by omega)) h6 h7⟩ (fun a n => by rw [upd_ne n]; exact kp a n) (Int.emod_nonneg _ (by omega)) (Int.emod_lt_of_pos _ hm0)⟩
      · refine ⟨_, rfl, p, _, _, _, rfl, rfl, SqL.of h1, rfl, ?_⟩
        refine ⟨_, rfl, _, 3, rfl, rfl, ⟨by decide, by decide, by omega⟩, _, rfl, _, _, rfl, rfl, .inr ⟨by decide, by decide⟩, _, _, rfl, rfl, _, rfl, p, _, _, _, rfl, rfl, SqL.of h1, rfl, _, _, rfl, rfl, .inr ⟨by decide, by decide⟩, _, _, rfl, rfl, _, _, rfl, rfl, .inl ⟨_, rfl, _, _, rfl, rfl, (by show (0 : Int) < 2147483579; decide), _, rfl, p, _, _, _, rfl, rfl, h1, rfl, ?_⟩⟩
        have g2 : BagAt _ p q cells i b ((s ^ (3 : Int).toNat + s * 40111 + c * 1299583 + 61027) % 2147483579) c := bag_of (H := H1) (xs := [.ref q, .int (i : Nat), .int b, .int ((s ^ (3 : Int).toNat + s * 40111 + c * 1299583 + 61027) % 2147483579), .int c]) nq rfl h2 h3 h4 h5 (Int.emod_nonneg _ (by decide)) (Int.emod_lt_of_pos _ (by decide))
        refine ⟨_, rfl, p, _, _, _, rfl, rfl, SqL.of g2.1, rfl, _, _, rfl, rfl, ⟨by decide, by decide⟩, _, rfl, p, _, _, _, rfl, rfl, SqL.of g2.1, rfl, .inl ⟨_, rfl, _, _, rfl, rfl, (by show (0 : Int) < 7919; decide), _, _, rfl, rfl, .inr ⟨by decide, by decide⟩, _, _, rfl, rfl, .inl ⟨_, rfl, _, rfl, _, _, rfl, rfl, hm0, ?_⟩⟩⟩
        exact fin _ _ ⟨i, b, _, c, g2⟩ (fun a n => by rw [upd_ne n]; exact kp a n) (Int.emod_nonneg _ (by omega)) (Int.emod_lt_of_pos _ hm0)

theorem cutV_map (ns : List Int) (lo hi : Option Int) : ∃ ms : List Int, cutV (ns.map V.int) lo hi = ms.map V.int ∧ ms.length ≤ ns.length := by
  refine ⟨(ns.drop (HT.sIx ns.length 0 lo)).take (HT.sIx ns.length ns.length hi - HT.sIx ns.length 0 lo), ?_, ?_⟩
  · unfold cutV
    rw [List.length_map, List.map_take, List.map_drop]
  · rw [List.length_take, List.length_drop]
    omega
theorem get_int {ns : List Int} {i : Nat} {x : V} (h : (ns.map V.int)[i]? = some x) : ∃ u, x = .int u ∧ ns[i]? = some u ∧ i < ns.length := by
  rw [List.getElem?_map] at h
  cases e : ns[i]? with
  | none =>
    rw [e] at h
    cases h
  | some u =>
    rw [e] at h
    exact ⟨u, (Option.some.inj h).symm, rfl, (List.getElem?_eq_some_iff.mp e).1⟩
theorem same_upd {H : Hp} {p : Addr} {o : HO} (h : H p = none) : Same H (upd H p o) := fun b x e => by
  rw [upd_ne (ne_of_none e h)]
  exact e
theorem same_mut {H H' : Hp} {p : Addr} {o : HO} (e : Same H H') (h : H p = none) : Same H (upd H' p o) := fun a u ha => by
  rw [upd_ne (ne_of_none ha h)]
  exact e a u ha
theorem sz63 {n : Nat} (h : n ≤ 63) : n < sizeLine := Nat.lt_of_le_of_lt h (by decide)
def spBag (K : PySem.W.Frag) : Sp := fun vs H Q _ => ∃ (a : Addr) (ns : List Int), vs = [.ref a] ∧ SqL K H a (ns.map V.int) ∧ ns.length ≤ 63 ∧ ∀ p q H', H p = none → H q = none → Same H H' → Bag H' p q → Q (.ref p) H'
theorem scBag : FnScope ["_law_script", "_law_state", "_law_cell"] ["_law_script"] (defScope sBag) := ⟨rfl, rfl, rfl, by decide +kernel, rfl, by decide +kernel, by decide +kernel⟩
theorem ok_bag {f : Addr} {fd : FuncData} {k : Nat} (F : Fun K "_law_bag" "_law_bag" sBag f fd) (T : TxB mg) : FnOk P w K mg base CX0 (k + 1) f fd ["_law_script"] (spBag K) := by
  refine F.ok scBag (fun vs H Q E h => ?_) (fun cdv A outer s H vs Q E hr h => ?_)
  · obtain ⟨a, ns, rfl, _⟩ := h
    rfl
  · obtain ⟨a, ns, rfl, hS, hlen, k⟩ := h
    refine ⟨_, (pss_cons (ps_set (i := 1) scBag.nd rfl (Or.inl rfl) pe_int)
 (pss_cons (ps_for PassesOwn.never rfl (pi_list (pe_slice sl_list (pv 0) po_none (po_some pe_int))) (pg_name (i := 2) scBag.nd rfl (Or.inl rfl))
 (pss_one (ps_set (i := 1) scBag.nd rfl (Or.inl rfl) (pe_op op_mod (pe_callTy call_int1 (by rfl) T.int PyProof.Rows.boot_int (pa_cons (pe_op op_add (pe_op op_add (pe_op op_mul (pv 1) pe_int) (pe_op op_mod (pe_callTy call_int1 (by rfl) T.int PyProof.Rows.boot_int (pa_cons (pv 2) pa_nil)) pe_int)) pe_int) pa_nil)) pe_int))))
 (pss_one (ps_ret (pe_lst (pa_cons (pe_lc (own := [("_law_cell", 2)]) (g := gName 2) (tt := tYes) rfl scBag.nd (pi_list (pe_slice sl_list (pv 0) po_none (po_some pe_int))) (blkOk_by (own := [("_law_cell", 2)]) (N := ["_law_script", "_law_state", "_law_cell"]) (sc := defScope sBag) (by decide +kernel)) (fun _ _ _ _ _ => (pg_name (i := 2) scBag.nd rfl (Or.inl rfl))) (fun _ _ _ _ _ => pts_nil) (fun _ _ _ _ _ => (pe_callTy call_int1 (by rfl) T.int PyProof.Rows.boot_int (pa_cons (pv 2) pa_nil)))) (pa_cons pe_int (pa_cons pe_int (pa_cons (pv 1) (pa_cons pe_int pa_nil)))))))))), ?_⟩
    obtain ⟨ms, em, lm⟩ := cutV_map ns none (some 63)
    refine ⟨_, rfl, 63, rfl, a, _, rfl, hS, fun r nr => ?_⟩
    have s1 : Same H (upd H r (.lst (cutV (ns.map V.int) none (some 63)))) := same_upd nr
    refine ⟨r, rfl, ⟨_, SqL.of upd_same⟩, for_list (K := K) (a := r) (xs := ms.map V.int) (fun i σ H' => ∃ (st : Int) (y2 : Option V), σ = [some (.ref a), some (.int st), y2] ∧ 0 ≤ st ∧ st < 2147483579 ∧ H' = upd H r (.lst (cutV (ns.map V.int) none (some 63))))
      ⟨10021, none, rfl, by decide, by decide, rfl⟩ (fun i σ H' _ ⟨_, _, _, _, _, e⟩ => by rw [e, em]; exact SqL.of upd_same) ?_ ?_⟩
    · rintro i x σ H' hi ⟨st, y2, rfl, st0, st1, rfl⟩
      obtain ⟨u, rfl, _, _⟩ := get_int hi
      refine ⟨_, rfl, _, _, rfl, rfl, .inr ⟨by decide, by decide⟩, _, rfl, .inl ⟨_, rfl, _, _, rfl, rfl, (by show (0 : Int) < 2147483563; decide), _, _, rfl, rfl, _, _, rfl, rfl, .inl ⟨_, rfl, _, _, rfl, rfl, (by show (0 : Int) < 2147483579; decide), ?_⟩⟩⟩
      exact ⟨_, _, rfl, Int.emod_nonneg _ (by decide), Int.emod_lt_of_pos _ (by decide), rfl⟩
    · rintro σ H' ⟨st, y2, rfl, st0, st1, rfl⟩
      refine ⟨_, rfl, 63, rfl, a, _, rfl, s1.seq hS, fun r2 nr2 => ?_⟩
      have s2 := same_upd (o := .lst (cutV (ns.map V.int) none (some 63))) nr2
      refine ⟨r2, rfl, ⟨_, SqL.of upd_same⟩, fun D nD => lc_list (K := K) (a := r2) (xs := ms.map V.int) (fun i H' => Same (upd (upd H r (.lst (cutV (ns.map V.int) none (some 63)))) r2 (.lst (cutV (ns.map V.int) none (some 63)))) H' ∧ H' D = some (.lst ((ms.take i).map V.int))) ⟨same_upd nD, upd_same⟩ (fun i H' _ h => h.1.seq (by rw [← em]; exact SqL.of upd_same)) ?_ ?_⟩
      · rintro i x H' hi ⟨hs, hD⟩
        obtain ⟨u, rfl, hu, _⟩ := get_int hi
        refine ⟨rfl, _, rfl, .inl ⟨_, rfl, _, hD, sz63 (by rw [List.length_map, List.length_take]; omega), same_mut hs nD, ?_⟩⟩
        rw [upd_same, List.take_add_one, hu, List.map_append]
        rfl
      · rintro H' ⟨hs, hD⟩
        refine ⟨_, rfl, (by show 5 ≤ sizeLine; decide), fun p np => ?_⟩
        have sa : Same H H' := (s1.trans s2).trans hs
        refine k p D _ (sa.free np) ((s1.trans s2).free nD) (sa.trans (same_upd np)) ⟨ms, 0, 0, st, 0, by rw [upd_same]; rfl, ?_, by omega, by omega, by decide, st0, st1⟩
        rw [upd_ne (ne_of_none hD np), hD, List.length_map, List.take_length]
theorem at_ofN {α : Type} {xs : List α} {z : Int} {j : Nat} {v : α} (e : z = (j : Int)) (h : xs[j]? = some v) : atI xs z = some v := by
  rw [e]
  exact atI_nat h

end
end Lp
namespace Lp
open PySem L2

/-! ### _law_field in the suite, _law_why -/
section
variable {P : Program} {w : World} {K : PySem.W.Frag} {mg : Str → Option Value} {base : Heap}
def pairs : List (Str × Str) := [("given", "InvalidNumber"), ("given", "InvalidName"), ("at", "InvalidSpan"), ("given", "InvalidText"), ("at", "InvalidSeat"), ("at", "InvalidRecord"), ("at", "Clash"), ("name", "DuplicateName"), ("given", "DuplicateNumber"), ("most", "TooMany"), ("limit", "Full"), ("name", "NotAThing"), ("at", "Contradiction"), ("given", "InvalidRule"), ("at", "InvalidCommand"), ("given", "InvalidLimit"), ("line", "InvalidPage"), ("name", "UnknownName")]
/-- an own error's class, its one more attribute f -/
structure Fx (K : PySem.W.Frag) (C : Addr) (f : Str) : Prop where
  xf : XfC K C
  nC : PySem.W.findIn K (.ref C) "code" = some none
  nF : PySem.W.findIn K (.ref C) f = some none
def spFieldH (K : PySem.W.Frag) : Addr × Obj → Sp := fun p vs H Q _ => ∃ (C d : Addr) (f nm : Str) (v : V), vs = [.ref p.1] ∧ Zc (.ref C) (some d) p.2 ∧ (∃ vs, p.2.data = .fields vs) ∧ (f, nm) ∈ pairs ∧ Fx K C f ∧ H d = some (.xd [("code", .str nm), (f, v)]) ∧
  ∀ (t : Addr) (H' : Hp), H t = none → Same H H' → H' t = some (.tup [v]) → Q (.ref t) H'
theorem scField : FnScope ["_law_e"] ["_law_e"] (defScope sField) := ⟨rfl, rfl, rfl, by decide +kernel, rfl, by decide +kernel, by decide +kernel⟩
theorem ok_fieldH {f : Addr} {fd : FuncData} {k : Nat} (F : Fun K "_law_field" "_law_field" sField f fd) : Ht.FnHp P w K mg base CX0 (k + 1) f fd ["_law_e"] (spFieldH K) := by
  obtain ⟨oc, od, kV, doc, pm, an, cdv, ct, osl, rfl, lk, hcd⟩ := F.ex
  refine Ht.fn_hp lk hcd scField (fun p vs H Q E h => ?_) (fun A outer s H vs Q E p hr h => ?_)
  · obtain ⟨C, d, f, nm, v, rfl, _⟩ := h
    rfl
  · obtain ⟨C, d, f, nm, v, rfl, hz, hf, hm, A, hd, k⟩ := h
    refine ⟨_, (pss_cons (ps_if (pt_cmpR op_in_seq (Ht.pe_xfQ List.mem_cons_self (pv 0)) (pe_tup (pa_cons pe_str (pa_cons pe_str (pa_cons pe_str (pa_cons pe_str (pa_cons pe_str (pa_cons pe_str pa_nil))))))) (by rfl)) (pss_one (ps_ret (pe_tup (pa_cons (Ht.pe_xfQ List.mem_cons_self (pv 0)) pa_nil)))) pss_nil)
 (pss_cons (ps_if (pt_cmpR op_in_seq (Ht.pe_xfQ List.mem_cons_self (pv 0)) (pe_tup (pa_cons pe_str (pa_cons pe_str (pa_cons pe_str pa_nil)))) (by rfl)) (pss_one (ps_ret (pe_tup (pa_cons (Ht.pe_xfQ List.mem_cons_self (pv 0)) pa_nil)))) pss_nil)
 (pss_cons (ps_if (pt_cmpR op_in_seq (Ht.pe_xfQ List.mem_cons_self (pv 0)) (pe_tup (pa_cons pe_str (pa_cons pe_str pa_nil))) (by rfl)) (pss_one (ps_ret (pe_ifExp (pt_cmpR op_eq (Ht.pe_xfQ List.mem_cons_self (pv 0)) pe_str (nomark _)) (pe_tup (pa_cons (Ht.pe_xfQ List.mem_cons_self (pv 0)) pa_nil)) (pe_tup (pa_cons (Ht.pe_xfQ List.mem_cons_self (pv 0)) pa_nil))))) pss_nil)
 (pss_cons (ps_if (pt_cmpR op_eq (Ht.pe_xfQ List.mem_cons_self (pv 0)) pe_str (nomark _)) (pss_one (ps_ret (pe_tup pa_nil))) pss_nil)
 (pss_one (ps_ret (pe_ifExp (pt_cmpR op_eq (Ht.pe_xfQ List.mem_cons_self (pv 0)) pe_str (nomark _)) (pe_tup (pa_cons (Ht.pe_xfQ List.mem_cons_self (pv 0)) pa_nil)) (pe_tup (pa_cons (Ht.pe_xfQ List.mem_cons_self (pv 0)) pa_nil))))))))), ?_⟩
    unfold pairs at hm
    simp only [List.mem_cons, List.not_mem_nil, or_false, Prod.mk.injEq] at hm
    rcases hm with ⟨rfl, rfl⟩ | ⟨rfl, rfl⟩ | ⟨rfl, rfl⟩ | ⟨rfl, rfl⟩ | ⟨rfl, rfl⟩ | ⟨rfl, rfl⟩ | ⟨rfl, rfl⟩ | ⟨rfl, rfl⟩ | ⟨rfl, rfl⟩ | ⟨rfl, rfl⟩ | ⟨rfl, rfl⟩ | ⟨rfl, rfl⟩ | ⟨rfl, rfl⟩ | ⟨rfl, rfl⟩ | ⟨rfl, rfl⟩ | ⟨rfl, rfl⟩ | ⟨rfl, rfl⟩ | ⟨rfl, rfl⟩
    · have hd1 : H d = some (.xd [("code", .str "InvalidNumber"), ("given", v)]) := hd
      have nF1 : PySem.W.findIn K (.ref C) "given" = some none := A.nF
      have nC1 : PySem.W.findIn K (.ref C) "code" = some none := A.nC
      exact ⟨_, rfl, C, d, _, _, rfl, A.xf, nC1, hz, hf, hd1, rfl, (by show 6 ≤ sizeLine; decide), fun t1 zt1 => ⟨t1, _, rfl, .inr (SqT.of upd_same), rfl, rfl, _, rfl, ite2 (fun g => absurd g (by decide +kernel)) (fun _ => ⟨_, rfl, C, d, _, _, rfl, A.xf, nC1, hz, hf, ((same_upd zt1) _ _ hd1), rfl, (by show 3 ≤ sizeLine; decide), fun t2 zt2 => ⟨t2, _, rfl, .inr (SqT.of upd_same), rfl, rfl, _, rfl, ite2 (fun g => absurd g (by decide +kernel)) (fun _ => ⟨_, rfl, C, d, _, _, rfl, A.xf, nC1, hz, hf, ((same_upd zt2) _ _ ((same_upd zt1) _ _ hd1)), rfl, (by show 2 ≤ sizeLine; decide), fun t3 zt3 => ⟨t3, _, rfl, .inr (SqT.of upd_same), rfl, rfl, _, rfl, ite2 (fun g => absurd g (by decide +kernel)) (fun _ => ⟨_, rfl, C, d, _, _, rfl, A.xf, nC1, hz, hf, ((same_upd zt3) _ _ ((same_upd zt2) _ _ ((same_upd zt1) _ _ hd1))), rfl, rfl, _, rfl, ite2 (fun g => absurd g (by decide +kernel)) (fun _ => ⟨_, rfl, C, d, _, _, rfl, A.xf, nC1, hz, hf, ((same_upd zt3) _ _ ((same_upd zt2) _ _ ((same_upd zt1) _ _ hd1))), rfl, rfl, _, rfl, ite2 (fun g => absurd g (by decide +kernel)) (fun _ => ⟨_, rfl, C, d, _, _, rfl, A.xf, nF1, hz, hf, ((same_upd zt3) _ _ ((same_upd zt2) _ _ ((same_upd zt1) _ _ hd1))), rfl, (by show 1 ≤ sizeLine; decide), fun t zt => k t _ (Same.free (Same.trans (Same.trans (same_upd zt1) (same_upd zt2)) (same_upd zt3)) zt) (Same.trans (Same.trans (Same.trans (same_upd zt1) (same_upd zt2)) (same_upd zt3)) (same_upd zt)) upd_same⟩)⟩)⟩)⟩⟩)⟩⟩)⟩⟩
    · have hd1 : H d = some (.xd [("code", .str "InvalidName"), ("given", v)]) := hd
      have nF1 : PySem.W.findIn K (.ref C) "given" = some none := A.nF
      have nC1 : PySem.W.findIn K (.ref C) "code" = some none := A.nC
      exact ⟨_, rfl, C, d, _, _, rfl, A.xf, nC1, hz, hf, hd1, rfl, (by show 6 ≤ sizeLine; decide), fun t1 zt1 => ⟨t1, _, rfl, .inr (SqT.of upd_same), rfl, rfl, _, rfl, ite2 (fun g => absurd g (by decide +kernel)) (fun _ => ⟨_, rfl, C, d, _, _, rfl, A.xf, nC1, hz, hf, ((same_upd zt1) _ _ hd1), rfl, (by show 3 ≤ sizeLine; decide), fun t2 zt2 => ⟨t2, _, rfl, .inr (SqT.of upd_same), rfl, rfl, _, rfl, ite2 (fun g => absurd g (by decide +kernel)) (fun _ => ⟨_, rfl, C, d, _, _, rfl, A.xf, nC1, hz, hf, ((same_upd zt2) _ _ ((same_upd zt1) _ _ hd1)), rfl, (by show 2 ≤ sizeLine; decide), fun t3 zt3 => ⟨t3, _, rfl, .inr (SqT.of upd_same), rfl, rfl, _, rfl, ite2 (fun g => absurd g (by decide +kernel)) (fun _ => ⟨_, rfl, C, d, _, _, rfl, A.xf, nC1, hz, hf, ((same_upd zt3) _ _ ((same_upd zt2) _ _ ((same_upd zt1) _ _ hd1))), rfl, rfl, _, rfl, ite2 (fun g => absurd g (by decide +kernel)) (fun _ => ⟨_, rfl, C, d, _, _, rfl, A.xf, nC1, hz, hf, ((same_upd zt3) _ _ ((same_upd zt2) _ _ ((same_upd zt1) _ _ hd1))), rfl, rfl, _, rfl, ite2 (fun g => absurd g (by decide +kernel)) (fun _ => ⟨_, rfl, C, d, _, _, rfl, A.xf, nF1, hz, hf, ((same_upd zt3) _ _ ((same_upd zt2) _ _ ((same_upd zt1) _ _ hd1))), rfl, (by show 1 ≤ sizeLine; decide), fun t zt => k t _ (Same.free (Same.trans (Same.trans (same_upd zt1) (same_upd zt2)) (same_upd zt3)) zt) (Same.trans (Same.trans (Same.trans (same_upd zt1) (same_upd zt2)) (same_upd zt3)) (same_upd zt)) upd_same⟩)⟩)⟩)⟩⟩)⟩⟩)⟩⟩
    · have hd1 : H d = some (.xd [("code", .str "InvalidSpan"), ("at", v)]) := hd
      have nF1 : PySem.W.findIn K (.ref C) "at" = some none := A.nF
      have nC1 : PySem.W.findIn K (.ref C) "code" = some none := A.nC
      exact ⟨_, rfl, C, d, _, _, rfl, A.xf, nC1, hz, hf, hd1, rfl, (by show 6 ≤ sizeLine; decide), fun t1 zt1 => ⟨t1, _, rfl, .inr (SqT.of upd_same), rfl, rfl, _, rfl, ite2 (fun _ => ⟨_, rfl, C, d, _, _, rfl, A.xf, nF1, hz, hf, ((same_upd zt1) _ _ hd1), rfl, (by show 1 ≤ sizeLine; decide), fun t zt => k t _ (Same.free (same_upd zt1) zt) (Same.trans (same_upd zt1) (same_upd zt)) upd_same⟩) (fun g => absurd (by decide +kernel) g)⟩⟩
    · have hd1 : H d = some (.xd [("code", .str "InvalidText"), ("given", v)]) := hd
      have nF1 : PySem.W.findIn K (.ref C) "given" = some none := A.nF
      have nC1 : PySem.W.findIn K (.ref C) "code" = some none := A.nC
      exact ⟨_, rfl, C, d, _, _, rfl, A.xf, nC1, hz, hf, hd1, rfl, (by show 6 ≤ sizeLine; decide), fun t1 zt1 => ⟨t1, _, rfl, .inr (SqT.of upd_same), rfl, rfl, _, rfl, ite2 (fun g => absurd g (by decide +kernel)) (fun _ => ⟨_, rfl, C, d, _, _, rfl, A.xf, nC1, hz, hf, ((same_upd zt1) _ _ hd1), rfl, (by show 3 ≤ sizeLine; decide), fun t2 zt2 => ⟨t2, _, rfl, .inr (SqT.of upd_same), rfl, rfl, _, rfl, ite2 (fun g => absurd g (by decide +kernel)) (fun _ => ⟨_, rfl, C, d, _, _, rfl, A.xf, nC1, hz, hf, ((same_upd zt2) _ _ ((same_upd zt1) _ _ hd1)), rfl, (by show 2 ≤ sizeLine; decide), fun t3 zt3 => ⟨t3, _, rfl, .inr (SqT.of upd_same), rfl, rfl, _, rfl, ite2 (fun g => absurd g (by decide +kernel)) (fun _ => ⟨_, rfl, C, d, _, _, rfl, A.xf, nC1, hz, hf, ((same_upd zt3) _ _ ((same_upd zt2) _ _ ((same_upd zt1) _ _ hd1))), rfl, rfl, _, rfl, ite2 (fun g => absurd g (by decide +kernel)) (fun _ => ⟨_, rfl, C, d, _, _, rfl, A.xf, nC1, hz, hf, ((same_upd zt3) _ _ ((same_upd zt2) _ _ ((same_upd zt1) _ _ hd1))), rfl, rfl, _, rfl, ite2 (fun g => absurd g (by decide +kernel)) (fun _ => ⟨_, rfl, C, d, _, _, rfl, A.xf, nF1, hz, hf, ((same_upd zt3) _ _ ((same_upd zt2) _ _ ((same_upd zt1) _ _ hd1))), rfl, (by show 1 ≤ sizeLine; decide), fun t zt => k t _ (Same.free (Same.trans (Same.trans (same_upd zt1) (same_upd zt2)) (same_upd zt3)) zt) (Same.trans (Same.trans (Same.trans (same_upd zt1) (same_upd zt2)) (same_upd zt3)) (same_upd zt)) upd_same⟩)⟩)⟩)⟩⟩)⟩⟩)⟩⟩
    · have hd1 : H d = some (.xd [("code", .str "InvalidSeat"), ("at", v)]) := hd
      have nF1 : PySem.W.findIn K (.ref C) "at" = some none := A.nF
      have nC1 : PySem.W.findIn K (.ref C) "code" = some none := A.nC
      exact ⟨_, rfl, C, d, _, _, rfl, A.xf, nC1, hz, hf, hd1, rfl, (by show 6 ≤ sizeLine; decide), fun t1 zt1 => ⟨t1, _, rfl, .inr (SqT.of upd_same), rfl, rfl, _, rfl, ite2 (fun _ => ⟨_, rfl, C, d, _, _, rfl, A.xf, nF1, hz, hf, ((same_upd zt1) _ _ hd1), rfl, (by show 1 ≤ sizeLine; decide), fun t zt => k t _ (Same.free (same_upd zt1) zt) (Same.trans (same_upd zt1) (same_upd zt)) upd_same⟩) (fun g => absurd (by decide +kernel) g)⟩⟩
    · have hd1 : H d = some (.xd [("code", .str "InvalidRecord"), ("at", v)]) := hd
      have nF1 : PySem.W.findIn K (.ref C) "at" = some none := A.nF
      have nC1 : PySem.W.findIn K (.ref C) "code" = some none := A.nC
      exact ⟨_, rfl, C, d, _, _, rfl, A.xf, nC1, hz, hf, hd1, rfl, (by show 6 ≤ sizeLine; decide), fun t1 zt1 => ⟨t1, _, rfl, .inr (SqT.of upd_same), rfl, rfl, _, rfl, ite2 (fun _ => ⟨_, rfl, C, d, _, _, rfl, A.xf, nF1, hz, hf, ((same_upd zt1) _ _ hd1), rfl, (by show 1 ≤ sizeLine; decide), fun t zt => k t _ (Same.free (same_upd zt1) zt) (Same.trans (same_upd zt1) (same_upd zt)) upd_same⟩) (fun g => absurd (by decide +kernel) g)⟩⟩
    · have hd1 : H d = some (.xd [("code", .str "Clash"), ("at", v)]) := hd
      have nF1 : PySem.W.findIn K (.ref C) "at" = some none := A.nF
      have nC1 : PySem.W.findIn K (.ref C) "code" = some none := A.nC
      exact ⟨_, rfl, C, d, _, _, rfl, A.xf, nC1, hz, hf, hd1, rfl, (by show 6 ≤ sizeLine; decide), fun t1 zt1 => ⟨t1, _, rfl, .inr (SqT.of upd_same), rfl, rfl, _, rfl, ite2 (fun _ => ⟨_, rfl, C, d, _, _, rfl, A.xf, nF1, hz, hf, ((same_upd zt1) _ _ hd1), rfl, (by show 1 ≤ sizeLine; decide), fun t zt => k t _ (Same.free (same_upd zt1) zt) (Same.trans (same_upd zt1) (same_upd zt)) upd_same⟩) (fun g => absurd (by decide +kernel) g)⟩⟩
    · have hd1 : H d = some (.xd [("code", .str "DuplicateName"), ("name", v)]) := hd
      have nF1 : PySem.W.findIn K (.ref C) "name" = some none := A.nF
      have nC1 : PySem.W.findIn K (.ref C) "code" = some none := A.nC
      exact ⟨_, rfl, C, d, _, _, rfl, A.xf, nC1, hz, hf, hd1, rfl, (by show 6 ≤ sizeLine; decide), fun t1 zt1 => ⟨t1, _, rfl, .inr (SqT.of upd_same), rfl, rfl, _, rfl, ite2 (fun g => absurd g (by decide +kernel)) (fun _ => ⟨_, rfl, C, d, _, _, rfl, A.xf, nC1, hz, hf, ((same_upd zt1) _ _ hd1), rfl, (by show 3 ≤ sizeLine; decide), fun t2 zt2 => ⟨t2, _, rfl, .inr (SqT.of upd_same), rfl, rfl, _, rfl, ite2 (fun _ => ⟨_, rfl, C, d, _, _, rfl, A.xf, nF1, hz, hf, ((same_upd zt2) _ _ ((same_upd zt1) _ _ hd1)), rfl, (by show 1 ≤ sizeLine; decide), fun t zt => k t _ (Same.free (Same.trans (same_upd zt1) (same_upd zt2)) zt) (Same.trans (Same.trans (same_upd zt1) (same_upd zt2)) (same_upd zt)) upd_same⟩) (fun g => absurd (by decide +kernel) g)⟩⟩)⟩⟩
    · have hd1 : H d = some (.xd [("code", .str "DuplicateNumber"), ("given", v)]) := hd
      have nF1 : PySem.W.findIn K (.ref C) "given" = some none := A.nF
      have nC1 : PySem.W.findIn K (.ref C) "code" = some none := A.nC
      exact ⟨_, rfl, C, d, _, _, rfl, A.xf, nC1, hz, hf, hd1, rfl, (by show 6 ≤ sizeLine; decide), fun t1 zt1 => ⟨t1, _, rfl, .inr (SqT.of upd_same), rfl, rfl, _, rfl, ite2 (fun g => absurd g (by decide +kernel)) (fun _ => ⟨_, rfl, C, d, _, _, rfl, A.xf, nC1, hz, hf, ((same_upd zt1) _ _ hd1), rfl, (by show 3 ≤ sizeLine; decide), fun t2 zt2 => ⟨t2, _, rfl, .inr (SqT.of upd_same), rfl, rfl, _, rfl, ite2 (fun g => absurd g (by decide +kernel)) (fun _ => ⟨_, rfl, C, d, _, _, rfl, A.xf, nC1, hz, hf, ((same_upd zt2) _ _ ((same_upd zt1) _ _ hd1)), rfl, (by show 2 ≤ sizeLine; decide), fun t3 zt3 => ⟨t3, _, rfl, .inr (SqT.of upd_same), rfl, rfl, _, rfl, ite2 (fun g => absurd g (by decide +kernel)) (fun _ => ⟨_, rfl, C, d, _, _, rfl, A.xf, nC1, hz, hf, ((same_upd zt3) _ _ ((same_upd zt2) _ _ ((same_upd zt1) _ _ hd1))), rfl, rfl, _, rfl, ite2 (fun g => absurd g (by decide +kernel)) (fun _ => ⟨_, rfl, C, d, _, _, rfl, A.xf, nC1, hz, hf, ((same_upd zt3) _ _ ((same_upd zt2) _ _ ((same_upd zt1) _ _ hd1))), rfl, rfl, _, rfl, ite2 (fun g => absurd g (by decide +kernel)) (fun _ => ⟨_, rfl, C, d, _, _, rfl, A.xf, nF1, hz, hf, ((same_upd zt3) _ _ ((same_upd zt2) _ _ ((same_upd zt1) _ _ hd1))), rfl, (by show 1 ≤ sizeLine; decide), fun t zt => k t _ (Same.free (Same.trans (Same.trans (same_upd zt1) (same_upd zt2)) (same_upd zt3)) zt) (Same.trans (Same.trans (Same.trans (same_upd zt1) (same_upd zt2)) (same_upd zt3)) (same_upd zt)) upd_same⟩)⟩)⟩)⟩⟩)⟩⟩)⟩⟩
    · have hd1 : H d = some (.xd [("code", .str "TooMany"), ("most", v)]) := hd
      have nF1 : PySem.W.findIn K (.ref C) "most" = some none := A.nF
      have nC1 : PySem.W.findIn K (.ref C) "code" = some none := A.nC
      exact ⟨_, rfl, C, d, _, _, rfl, A.xf, nC1, hz, hf, hd1, rfl, (by show 6 ≤ sizeLine; decide), fun t1 zt1 => ⟨t1, _, rfl, .inr (SqT.of upd_same), rfl, rfl, _, rfl, ite2 (fun g => absurd g (by decide +kernel)) (fun _ => ⟨_, rfl, C, d, _, _, rfl, A.xf, nC1, hz, hf, ((same_upd zt1) _ _ hd1), rfl, (by show 3 ≤ sizeLine; decide), fun t2 zt2 => ⟨t2, _, rfl, .inr (SqT.of upd_same), rfl, rfl, _, rfl, ite2 (fun g => absurd g (by decide +kernel)) (fun _ => ⟨_, rfl, C, d, _, _, rfl, A.xf, nC1, hz, hf, ((same_upd zt2) _ _ ((same_upd zt1) _ _ hd1)), rfl, (by show 2 ≤ sizeLine; decide), fun t3 zt3 => ⟨t3, _, rfl, .inr (SqT.of upd_same), rfl, rfl, _, rfl, ite2 (fun _ => ⟨_, rfl, C, d, _, _, rfl, A.xf, nC1, hz, hf, ((same_upd zt3) _ _ ((same_upd zt2) _ _ ((same_upd zt1) _ _ hd1))), rfl, rfl, _, rfl, ite2 (fun _ => ⟨_, rfl, C, d, _, _, rfl, A.xf, nF1, hz, hf, ((same_upd zt3) _ _ ((same_upd zt2) _ _ ((same_upd zt1) _ _ hd1))), rfl, (by show 1 ≤ sizeLine; decide), fun t zt => k t _ (Same.free (Same.trans (Same.trans (same_upd zt1) (same_upd zt2)) (same_upd zt3)) zt) (Same.trans (Same.trans (Same.trans (same_upd zt1) (same_upd zt2)) (same_upd zt3)) (same_upd zt)) upd_same⟩) (fun g => absurd (by decide +kernel) g)⟩) (fun g => absurd (by decide +kernel) g)⟩⟩)⟩⟩)⟩⟩
    · have hd1 : H d = some (.xd [("code", .str "Full"), ("limit", v)]) := hd
      have nF1 : PySem.W.findIn K (.ref C) "limit" = some none := A.nF
      have nC1 : PySem.W.findIn K (.ref C) "code" = some none := A.nC
      exact ⟨_, rfl, C, d, _, _, rfl, A.xf, nC1, hz, hf, hd1, rfl, (by show 6 ≤ sizeLine; decide), fun t1 zt1 => ⟨t1, _, rfl, .inr (SqT.of upd_same), rfl, rfl, _, rfl, ite2 (fun g => absurd g (by decide +kernel)) (fun _ => ⟨_, rfl, C, d, _, _, rfl, A.xf, nC1, hz, hf, ((same_upd zt1) _ _ hd1), rfl, (by show 3 ≤ sizeLine; decide), fun t2 zt2 => ⟨t2, _, rfl, .inr (SqT.of upd_same), rfl, rfl, _, rfl, ite2 (fun g => absurd g (by decide +kernel)) (fun _ => ⟨_, rfl, C, d, _, _, rfl, A.xf, nC1, hz, hf, ((same_upd zt2) _ _ ((same_upd zt1) _ _ hd1)), rfl, (by show 2 ≤ sizeLine; decide), fun t3 zt3 => ⟨t3, _, rfl, .inr (SqT.of upd_same), rfl, rfl, _, rfl, ite2 (fun _ => ⟨_, rfl, C, d, _, _, rfl, A.xf, nC1, hz, hf, ((same_upd zt3) _ _ ((same_upd zt2) _ _ ((same_upd zt1) _ _ hd1))), rfl, rfl, _, rfl, ite2 (fun g => absurd g (by decide +kernel)) (fun _ => ⟨_, rfl, C, d, _, _, rfl, A.xf, nF1, hz, hf, ((same_upd zt3) _ _ ((same_upd zt2) _ _ ((same_upd zt1) _ _ hd1))), rfl, (by show 1 ≤ sizeLine; decide), fun t zt => k t _ (Same.free (Same.trans (Same.trans (same_upd zt1) (same_upd zt2)) (same_upd zt3)) zt) (Same.trans (Same.trans (Same.trans (same_upd zt1) (same_upd zt2)) (same_upd zt3)) (same_upd zt)) upd_same⟩)⟩) (fun g => absurd (by decide +kernel) g)⟩⟩)⟩⟩)⟩⟩
    · have hd1 : H d = some (.xd [("code", .str "NotAThing"), ("name", v)]) := hd
      have nF1 : PySem.W.findIn K (.ref C) "name" = some none := A.nF
      have nC1 : PySem.W.findIn K (.ref C) "code" = some none := A.nC
      exact ⟨_, rfl, C, d, _, _, rfl, A.xf, nC1, hz, hf, hd1, rfl, (by show 6 ≤ sizeLine; decide), fun t1 zt1 => ⟨t1, _, rfl, .inr (SqT.of upd_same), rfl, rfl, _, rfl, ite2 (fun g => absurd g (by decide +kernel)) (fun _ => ⟨_, rfl, C, d, _, _, rfl, A.xf, nC1, hz, hf, ((same_upd zt1) _ _ hd1), rfl, (by show 3 ≤ sizeLine; decide), fun t2 zt2 => ⟨t2, _, rfl, .inr (SqT.of upd_same), rfl, rfl, _, rfl, ite2 (fun _ => ⟨_, rfl, C, d, _, _, rfl, A.xf, nF1, hz, hf, ((same_upd zt2) _ _ ((same_upd zt1) _ _ hd1)), rfl, (by show 1 ≤ sizeLine; decide), fun t zt => k t _ (Same.free (Same.trans (same_upd zt1) (same_upd zt2)) zt) (Same.trans (Same.trans (same_upd zt1) (same_upd zt2)) (same_upd zt)) upd_same⟩) (fun g => absurd (by decide +kernel) g)⟩⟩)⟩⟩
    · have hd1 : H d = some (.xd [("code", .str "Contradiction"), ("at", v)]) := hd
      have nF1 : PySem.W.findIn K (.ref C) "at" = some none := A.nF
      have nC1 : PySem.W.findIn K (.ref C) "code" = some none := A.nC
      exact ⟨_, rfl, C, d, _, _, rfl, A.xf, nC1, hz, hf, hd1, rfl, (by show 6 ≤ sizeLine; decide), fun t1 zt1 => ⟨t1, _, rfl, .inr (SqT.of upd_same), rfl, rfl, _, rfl, ite2 (fun _ => ⟨_, rfl, C, d, _, _, rfl, A.xf, nF1, hz, hf, ((same_upd zt1) _ _ hd1), rfl, (by show 1 ≤ sizeLine; decide), fun t zt => k t _ (Same.free (same_upd zt1) zt) (Same.trans (same_upd zt1) (same_upd zt)) upd_same⟩) (fun g => absurd (by decide +kernel) g)⟩⟩
    · have hd1 : H d = some (.xd [("code", .str "InvalidRule"), ("given", v)]) := hd
      have nF1 : PySem.W.findIn K (.ref C) "given" = some none := A.nF
      have nC1 : PySem.W.findIn K (.ref C) "code" = some none := A.nC
      exact ⟨_, rfl, C, d, _, _, rfl, A.xf, nC1, hz, hf, hd1, rfl, (by show 6 ≤ sizeLine; decide), fun t1 zt1 => ⟨t1, _, rfl, .inr (SqT.of upd_same), rfl, rfl, _, rfl, ite2 (fun g => absurd g (by decide +kernel)) (fun _ => ⟨_, rfl, C, d, _, _, rfl, A.xf, nC1, hz, hf, ((same_upd zt1) _ _ hd1), rfl, (by show 3 ≤ sizeLine; decide), fun t2 zt2 => ⟨t2, _, rfl, .inr (SqT.of upd_same), rfl, rfl, _, rfl, ite2 (fun g => absurd g (by decide +kernel)) (fun _ => ⟨_, rfl, C, d, _, _, rfl, A.xf, nC1, hz, hf, ((same_upd zt2) _ _ ((same_upd zt1) _ _ hd1)), rfl, (by show 2 ≤ sizeLine; decide), fun t3 zt3 => ⟨t3, _, rfl, .inr (SqT.of upd_same), rfl, rfl, _, rfl, ite2 (fun g => absurd g (by decide +kernel)) (fun _ => ⟨_, rfl, C, d, _, _, rfl, A.xf, nC1, hz, hf, ((same_upd zt3) _ _ ((same_upd zt2) _ _ ((same_upd zt1) _ _ hd1))), rfl, rfl, _, rfl, ite2 (fun g => absurd g (by decide +kernel)) (fun _ => ⟨_, rfl, C, d, _, _, rfl, A.xf, nC1, hz, hf, ((same_upd zt3) _ _ ((same_upd zt2) _ _ ((same_upd zt1) _ _ hd1))), rfl, rfl, _, rfl, ite2 (fun g => absurd g (by decide +kernel)) (fun _ => ⟨_, rfl, C, d, _, _, rfl, A.xf, nF1, hz, hf, ((same_upd zt3) _ _ ((same_upd zt2) _ _ ((same_upd zt1) _ _ hd1))), rfl, (by show 1 ≤ sizeLine; decide), fun t zt => k t _ (Same.free (Same.trans (Same.trans (same_upd zt1) (same_upd zt2)) (same_upd zt3)) zt) (Same.trans (Same.trans (Same.trans (same_upd zt1) (same_upd zt2)) (same_upd zt3)) (same_upd zt)) upd_same⟩)⟩)⟩)⟩⟩)⟩⟩)⟩⟩
    · have hd1 : H d = some (.xd [("code", .str "InvalidCommand"), ("at", v)]) := hd
      have nF1 : PySem.W.findIn K (.ref C) "at" = some none := A.nF
      have nC1 : PySem.W.findIn K (.ref C) "code" = some none := A.nC
      exact ⟨_, rfl, C, d, _, _, rfl, A.xf, nC1, hz, hf, hd1, rfl, (by show 6 ≤ sizeLine; decide), fun t1 zt1 => ⟨t1, _, rfl, .inr (SqT.of upd_same), rfl, rfl, _, rfl, ite2 (fun _ => ⟨_, rfl, C, d, _, _, rfl, A.xf, nF1, hz, hf, ((same_upd zt1) _ _ hd1), rfl, (by show 1 ≤ sizeLine; decide), fun t zt => k t _ (Same.free (same_upd zt1) zt) (Same.trans (same_upd zt1) (same_upd zt)) upd_same⟩) (fun g => absurd (by decide +kernel) g)⟩⟩
    · have hd1 : H d = some (.xd [("code", .str "InvalidLimit"), ("given", v)]) := hd
      have nF1 : PySem.W.findIn K (.ref C) "given" = some none := A.nF
      have nC1 : PySem.W.findIn K (.ref C) "code" = some none := A.nC
      exact ⟨_, rfl, C, d, _, _, rfl, A.xf, nC1, hz, hf, hd1, rfl, (by show 6 ≤ sizeLine; decide), fun t1 zt1 => ⟨t1, _, rfl, .inr (SqT.of upd_same), rfl, rfl, _, rfl, ite2 (fun g => absurd g (by decide +kernel)) (fun _ => ⟨_, rfl, C, d, _, _, rfl, A.xf, nC1, hz, hf, ((same_upd zt1) _ _ hd1), rfl, (by show 3 ≤ sizeLine; decide), fun t2 zt2 => ⟨t2, _, rfl, .inr (SqT.of upd_same), rfl, rfl, _, rfl, ite2 (fun g => absurd g (by decide +kernel)) (fun _ => ⟨_, rfl, C, d, _, _, rfl, A.xf, nC1, hz, hf, ((same_upd zt2) _ _ ((same_upd zt1) _ _ hd1)), rfl, (by show 2 ≤ sizeLine; decide), fun t3 zt3 => ⟨t3, _, rfl, .inr (SqT.of upd_same), rfl, rfl, _, rfl, ite2 (fun g => absurd g (by decide +kernel)) (fun _ => ⟨_, rfl, C, d, _, _, rfl, A.xf, nC1, hz, hf, ((same_upd zt3) _ _ ((same_upd zt2) _ _ ((same_upd zt1) _ _ hd1))), rfl, rfl, _, rfl, ite2 (fun g => absurd g (by decide +kernel)) (fun _ => ⟨_, rfl, C, d, _, _, rfl, A.xf, nC1, hz, hf, ((same_upd zt3) _ _ ((same_upd zt2) _ _ ((same_upd zt1) _ _ hd1))), rfl, rfl, _, rfl, ite2 (fun g => absurd g (by decide +kernel)) (fun _ => ⟨_, rfl, C, d, _, _, rfl, A.xf, nF1, hz, hf, ((same_upd zt3) _ _ ((same_upd zt2) _ _ ((same_upd zt1) _ _ hd1))), rfl, (by show 1 ≤ sizeLine; decide), fun t zt => k t _ (Same.free (Same.trans (Same.trans (same_upd zt1) (same_upd zt2)) (same_upd zt3)) zt) (Same.trans (Same.trans (Same.trans (same_upd zt1) (same_upd zt2)) (same_upd zt3)) (same_upd zt)) upd_same⟩)⟩)⟩)⟩⟩)⟩⟩)⟩⟩
    · have hd1 : H d = some (.xd [("code", .str "InvalidPage"), ("line", v)]) := hd
      have nF1 : PySem.W.findIn K (.ref C) "line" = some none := A.nF
      have nC1 : PySem.W.findIn K (.ref C) "code" = some none := A.nC
      exact ⟨_, rfl, C, d, _, _, rfl, A.xf, nC1, hz, hf, hd1, rfl, (by show 6 ≤ sizeLine; decide), fun t1 zt1 => ⟨t1, _, rfl, .inr (SqT.of upd_same), rfl, rfl, _, rfl, ite2 (fun g => absurd g (by decide +kernel)) (fun _ => ⟨_, rfl, C, d, _, _, rfl, A.xf, nC1, hz, hf, ((same_upd zt1) _ _ hd1), rfl, (by show 3 ≤ sizeLine; decide), fun t2 zt2 => ⟨t2, _, rfl, .inr (SqT.of upd_same), rfl, rfl, _, rfl, ite2 (fun g => absurd g (by decide +kernel)) (fun _ => ⟨_, rfl, C, d, _, _, rfl, A.xf, nC1, hz, hf, ((same_upd zt2) _ _ ((same_upd zt1) _ _ hd1)), rfl, (by show 2 ≤ sizeLine; decide), fun t3 zt3 => ⟨t3, _, rfl, .inr (SqT.of upd_same), rfl, rfl, _, rfl, ite2 (fun g => absurd g (by decide +kernel)) (fun _ => ⟨_, rfl, C, d, _, _, rfl, A.xf, nC1, hz, hf, ((same_upd zt3) _ _ ((same_upd zt2) _ _ ((same_upd zt1) _ _ hd1))), rfl, rfl, _, rfl, ite2 (fun g => absurd g (by decide +kernel)) (fun _ => ⟨_, rfl, C, d, _, _, rfl, A.xf, nC1, hz, hf, ((same_upd zt3) _ _ ((same_upd zt2) _ _ ((same_upd zt1) _ _ hd1))), rfl, rfl, _, rfl, ite2 (fun _ => ⟨_, rfl, C, d, _, _, rfl, A.xf, nF1, hz, hf, ((same_upd zt3) _ _ ((same_upd zt2) _ _ ((same_upd zt1) _ _ hd1))), rfl, (by show 1 ≤ sizeLine; decide), fun t zt => k t _ (Same.free (Same.trans (Same.trans (same_upd zt1) (same_upd zt2)) (same_upd zt3)) zt) (Same.trans (Same.trans (Same.trans (same_upd zt1) (same_upd zt2)) (same_upd zt3)) (same_upd zt)) upd_same⟩) (fun g => absurd (by decide +kernel) g)⟩)⟩)⟩⟩)⟩⟩)⟩⟩
    · have hd1 : H d = some (.xd [("code", .str "UnknownName"), ("name", v)]) := hd
      have nF1 : PySem.W.findIn K (.ref C) "name" = some none := A.nF
      have nC1 : PySem.W.findIn K (.ref C) "code" = some none := A.nC
      exact ⟨_, rfl, C, d, _, _, rfl, A.xf, nC1, hz, hf, hd1, rfl, (by show 6 ≤ sizeLine; decide), fun t1 zt1 => ⟨t1, _, rfl, .inr (SqT.of upd_same), rfl, rfl, _, rfl, ite2 (fun g => absurd g (by decide +kernel)) (fun _ => ⟨_, rfl, C, d, _, _, rfl, A.xf, nC1, hz, hf, ((same_upd zt1) _ _ hd1), rfl, (by show 3 ≤ sizeLine; decide), fun t2 zt2 => ⟨t2, _, rfl, .inr (SqT.of upd_same), rfl, rfl, _, rfl, ite2 (fun _ => ⟨_, rfl, C, d, _, _, rfl, A.xf, nF1, hz, hf, ((same_upd zt2) _ _ ((same_upd zt1) _ _ hd1)), rfl, (by show 1 ≤ sizeLine; decide), fun t zt => k t _ (Same.free (Same.trans (same_upd zt1) (same_upd zt2)) zt) (Same.trans (Same.trans (same_upd zt1) (same_upd zt2)) (same_upd zt)) upd_same⟩) (fun g => absurd (by decide +kernel) g)⟩⟩)⟩⟩
end
/-- what _law_why makes of the reading of what it calls -/
def TWhy (K : PySem.W.Frag) (cs : List Value) : (XK → Hp → VK → Prop) → Hp → VK → Prop := fun tl H Q =>
  tl (fun cls d H' => ∃ (C dd : Addr) (f nm : Str) (v : V), cls = .ref C ∧ d = some dd ∧ H' dd = some (.xd [("code", .str nm), (f, v)]) ∧ (f, nm) ∈ pairs ∧ Fx K C f ∧ PySem.W.exmAny K (.ref C) cs = some true ∧
      ∀ (t1 t2 : Addr) (H3 : Hp), H' t1 = none → H' t2 = none → Same H' H3 → H3 t1 = some (.tup [v]) → H3 t2 = some (.tup [.str nm, .ref t1]) → Q (.ref t2) H3)
    H (fun v H' => ([V.str "value", v] : List V).length ≤ sizeLine ∧ ∀ t, H' t = none → Q (.ref t) (upd H' t (.tup [.str "value", v])))
theorem pss_weak {X : Cx} {st : List Stmt} {t t' : TS} (h : PSs X st t) (hi : ∀ D σ H, t' D σ H → t D σ H) : PSs X st t' := ⟨fun pins s σ H D I hw => h.run pins s σ H D I (hi D σ H hw)⟩
theorem roomH_mark {k : Nat} {A : Around} {e : Option Value} (h : L2H.RoomH k A) : L2H.RoomH k (A.mark e) := ⟨h.dp, h.un⟩
theorem why_gives {X : Cx} {q : Str} {g gF CL CM CN : Addr} {cdg : Value} {fdF : FuncData} {k : Nat} (hr : Room (k + 2) X.A) (mL : X.mg "LumpError" = some (.ref CL)) (mM : X.mg "Missing" = some (.ref CM)) (mN : X.mg "NothingLeft" = some (.ref CN))
    (FF : Fun X.K "_law_field" "_law_field" sField gF fdF) (mF : X.mg "_law_field" = some (.ref gF)) (bF : Binds X.K fdF ["_law_e"] []) :
    LamX.GivesTo X ["_law_ask", "_law_e"] "_law_why" (defScope sWhy) g cdg (defBody sWhy) "_law_ask" q (TWhy X.K [.ref CL, .ref CM, .ref CN]) := by
  intro f c' s H Q tl act hc h
  have GF : Ht.FnHp X.prog X.w X.K X.mg X.base CX0 (k + 1) gF fdF ["_law_e"] (spFieldH X.K) := ok_fieldH FF
  have rH : L2H.RoomH (k + 1) (X.A.deeper (PyProof.Rows.envOfC "_law_why" (defScope sWhy) s.heap.objs.size g cdg)) := (L2H.roomH_of hr).deeper _
  refine ⟨_, pss_one (Tr.ps_try_as3 (X := (cxOf C8.CX0 X.prog X.w X.K X.mg X.base ["_law_ask", "_law_e"] "_law_why" (defScope sWhy) g cdg X.A X.stack s H C8.E0).nox) (c1 := .ref CL) (c2 := .ref CM) (c3 := .ref CN) (i := 1)
    (tb := fun W D σ H => ∃ Ech : XK, (∀ cls d σ' H', Ech cls d H' → W cls d σ' H') ∧ σ[0]? = some (some (.ref f)) ∧ H c' = some (LamX.CodeO c' q) ∧ tl Ech H (fun v H' => ([V.str "value", v] : List V).length ≤ sizeLine ∧ ∀ t, H' t = none → D.rt (.ref t) (upd H' t (.tup [.str "value", v]))))
    (ts := fun a cls d D σ H' => σ[1]? = some (some (.ref a)) ∧ ∃ (C dd : Addr) (f nm : Str) (v : V), cls = .ref C ∧ d = some dd ∧ H' dd = some (.xd [("code", .str nm), (f, v)]) ∧ (f, nm) ∈ pairs ∧ Fx X.K C f ∧
      ∀ (t1 t2 : Addr) (H3 : Hp), H' t1 = none → H' t2 = none → Same H' H3 → H3 t1 = some (.tup [v]) → H3 t2 = some (.tup [.str nm, .ref t1]) → D.rt (.ref t2) H3)
    rfl rfl (by show (["_law_ask", "_law_e"] : List Str).Nodup; decide) rfl (by show List.lookup _ (defScope sWhy).names = some NameKind.local; decide +kernel) ⟨by rfl, by decide, .inl mL⟩ ⟨by rfl, by decide, .inl mM⟩ ⟨by rfl, by decide, .inl mN⟩ (fun W pn xe tk _ => ?_) (fun a oe cls d pn hz hf => ?_)), ?_⟩
  · refine ⟨fun pins s' σ H' D I h' => ?_⟩
    obtain ⟨Ech, hW, h1, h2, h3⟩ := h'
    refine PSs.run (pss_one (ps_ret (pe_tup (pa_cons pe_str (pa_cons (te := fun σZ HZ Q => σZ[0]? = some (some (V.ref f)) ∧ HZ c' = some (LamX.CodeO c' q) ∧ tl Ech HZ Q) ?_ pa_nil))))) pins s' σ H' D I ?_
    · exact act W pn xe Ech _ _ tk hW
    · exact ⟨h1, h2, h3⟩
  · refine pss_weak (pss_one (ps_ret (pe_tup (pa_cons (Ht.pe_xfQ (p := (a, oe)) List.mem_cons_self (pv 1)) (pa_cons (Ht.pe_callHp GF (roomH_mark rH) (p := (a, oe)) List.mem_cons_self (by rfl) mF FF.kp bF pass0 (pa_cons (pv 1) pa_nil)) pa_nil))))) (fun D σ H' h' => ?_)
    obtain ⟨h1, C, dd, f, nm, v, rfl, rfl, h2, h3, h4, h5⟩ := h'
    refine ⟨_, h1, C, dd, _, _, rfl, h4.xf, h4.nC, hz, hf, h2, rfl, _, h1, C, dd, f, nm, v, rfl, hz, hf, h3, h4, h2, fun t1 H1 n1 s1 e1 => ⟨(by show 2 ≤ sizeLine; decide), fun t2 n2 => ?_⟩⟩
    exact h5 t1 t2 _ n1 (Same.free s1 n2) (s1.trans (same_upd n2)) ((same_upd n2) _ _ e1) upd_same
  · refine ⟨_, fun cls d σ' H' hE hl => ?_, rfl, hc, h⟩
    obtain ⟨C, dd, f, nm, v, rfl, rfl, h2, h3, h4, h6, h5⟩ := hE
    exact ⟨h6, fun a na => ⟨List.getElem?_set_self (by rw [hl]; show 1 < 2; decide), C, dd, f, nm, v, rfl, rfl, h2, h3, h4, h5⟩⟩

/-! ### _law_why over the ground -/
section
variable {P : Program} {w : World} {K : PySem.W.Frag} {mg : Str → Option Value} {B : Heap}
def spWhyB (P : Program) (w : World) (K : PySem.W.Frag) (mg : Str → Option Value) (B : Heap) (k : Nat) (cs : List Value) : Sp := fun vs H Q _ => ∃ (f : Addr) (tl : XK → Hp → VK → Prop), vs = [.ref f] ∧ Lg.LamB P w K mg B k f tl ∧ TWhy K cs tl H Q
theorem scWhyB : FnScope ["_law_ask", "_law_e"] ["_law_ask"] (defScope sWhy) := ⟨rfl, rfl, rfl, by decide +kernel, rfl, by decide +kernel, by decide +kernel⟩
theorem ok_whyB {fY gF CL CM CN : Addr} {dY fdF : FuncData} {k : Nat} (F : Fun K "_law_why" "_law_why" sWhy fY dY) (mL : mg "LumpError" = some (.ref CL)) (mM : mg "Missing" = some (.ref CM)) (mN : mg "NothingLeft" = some (.ref CN))
    (FF : Fun K "_law_field" "_law_field" sField gF fdF) (mF : mg "_law_field" = some (.ref gF)) (bF : Binds K fdF ["_law_e"] []) :
    FnOk P w K mg B CX0 (k + 2) fY dY ["_law_ask"] (spWhyB P w K mg B (k + 1) [.ref CL, .ref CM, .ref CN]) := by
  refine F.ok scWhyB (fun vs H Q E h => ?_) (fun cdv A outer s H vs Q E hr h => ?_)
  · obtain ⟨f, tl, rfl, _⟩ := h
    rfl
  · obtain ⟨f, tl, rfl, LB, ht⟩ := h
    have GF : Ht.FnHp P w K mg B CX0 (k + 1) gF fdF ["_law_e"] (spFieldH K) := ok_fieldH FF
    have rH := L2H.roomH_of hr
    refine ⟨_, pss_one (Tr.ps_try_as3 (X := (cxOf CX0 P w K mg B ["_law_ask", "_law_e"] "_law_why" (defScope sWhy) fY cdv A outer s H E).nox) (c1 := .ref CL) (c2 := .ref CM) (c3 := .ref CN) (i := 1)
      (tb := fun W D σ H => ∃ Ech : XK, (∀ cls d σ' H', Ech cls d H' → W cls d σ' H') ∧ σ[0]? = some (some (.ref f)) ∧ tl Ech H (fun v H' => ([V.str "value", v] : List V).length ≤ sizeLine ∧ ∀ t, H' t = none → D.rt (.ref t) (upd H' t (.tup [.str "value", v]))))
      (ts := fun a cls d D σ H' => σ[1]? = some (some (.ref a)) ∧ ∃ (C dd : Addr) (f nm : Str) (v : V), cls = .ref C ∧ d = some dd ∧ H' dd = some (.xd [("code", .str nm), (f, v)]) ∧ (f, nm) ∈ pairs ∧ Fx K C f ∧
        ∀ (t1 t2 : Addr) (H3 : Hp), H' t1 = none → H' t2 = none → Same H' H3 → H3 t1 = some (.tup [v]) → H3 t2 = some (.tup [.str nm, .ref t1]) → D.rt (.ref t2) H3)
      rfl rfl (by show (["_law_ask", "_law_e"] : List Str).Nodup; decide) rfl (by show List.lookup _ (defScope sWhy).names = some NameKind.local; decide +kernel) ⟨by rfl, by decide, .inl mL⟩ ⟨by rfl, by decide, .inl mM⟩ ⟨by rfl, by decide, .inl mN⟩ (fun W pn xe tk _ => ?_) (fun a oe cls d pn hz hf => ?_)), ?_⟩
    · refine ⟨fun pins s' σ H' D I h' => ?_⟩
      obtain ⟨Ech, hW, h1, h3⟩ := h'
      refine PSs.run (pss_one (ps_ret (pe_tup (pa_cons pe_str (pa_cons (te := fun σZ HZ Q => σZ[0]? = some (some (V.ref f)) ∧ tl Ech HZ Q) ?_ pa_nil))))) pins s' σ H' D I ?_
      · exact Lg.pe_actB LB hr tk hW rfl (Or.inl rfl)
      · exact ⟨h1, h3⟩
    · refine pss_weak (pss_one (ps_ret (pe_tup (pa_cons (Ht.pe_xfQ (p := (a, oe)) List.mem_cons_self (pv 1)) (pa_cons (Ht.pe_callHp GF (roomH_mark rH) (p := (a, oe)) List.mem_cons_self (by rfl) mF FF.kp bF pass0 (pa_cons (pv 1) pa_nil)) pa_nil))))) (fun D σ H' h' => ?_)
      obtain ⟨h1, C, dd, f, nm, v, rfl, rfl, h2, h3, h4, h5⟩ := h'
      refine ⟨_, h1, C, dd, _, _, rfl, h4.xf, h4.nC, hz, hf, h2, rfl, _, h1, C, dd, f, nm, v, rfl, hz, hf, h3, h4, h2, fun t1 H1 n1 s1 e1 => ⟨(by show 2 ≤ sizeLine; decide), fun t2 n2 => ?_⟩⟩
      exact h5 t1 t2 _ n1 (Same.free s1 n2) (s1.trans (same_upd n2)) ((same_upd n2) _ _ e1) upd_same
    · refine ⟨_, fun cls d σ' H' hE hl => ?_, rfl, ht⟩
      obtain ⟨C, dd, f, nm, v, rfl, rfl, h2, h3, h4, h6, h5⟩ := hE
      exact ⟨h6, fun a na => ⟨List.getElem?_set_self (by rw [hl]; show 1 < 2; decide), C, dd, f, nm, v, rfl, rfl, h2, h3, h4, h5⟩⟩
end

/-! ### _law_whys: each of a list of lambdas asked in turn -/
def WhysL (K : PySem.W.Frag) (cs : List Value) (r D : Addr) (xs : List V) (Q : VK) : List (XK → Hp → VK → Prop) → Hp → Prop
  | [], H => H r = some (.lst xs) ∧ Q (.ref D) H
  | tl :: rest, H => H r = some (.lst xs) ∧ TWhy K cs tl H (fun v H' => ∃ acc, H' D = some (.lst acc) ∧ acc.length < sizeLine ∧ WhysL K cs r D xs Q rest (upd H' D (.lst (acc ++ [v]))))
theorem WhysL.at {K : PySem.W.Frag} {cs : List Value} {r D : Addr} {xs : List V} {Q : VK} : ∀ {tls : List (XK → Hp → VK → Prop)} {H : Hp}, WhysL K cs r D xs Q tls H → H r = some (.lst xs)
  | [], _, h => h.1
  | _ :: _, _, h => h.1
section
variable {P : Program} {w : World} {K : PySem.W.Frag} {mg : Str → Option Value} {B : Heap}
def spWhysB (P : Program) (w : World) (K : PySem.W.Frag) (mg : Str → Option Value) (B : Heap) (k : Nat) (cs : List Value) : Sp := fun vs H Q _ => ∃ (r : Addr) (fs : List Addr) (tls : List (XK → Hp → VK → Prop)), vs = [.ref r] ∧ H r = some (.lst (fs.map V.ref)) ∧ Paired (Lg.LamB P w K mg B k) fs tls ∧
  ∀ D, H D = none → WhysL K cs r D (fs.map V.ref) Q tls (upd H D (.lst []))
theorem scWhys : FnScope ["_law_asks", "_law_ask"] ["_law_asks"] (defScope sWhys) := ⟨rfl, rfl, rfl, by decide +kernel, rfl, by decide +kernel, by decide +kernel⟩
theorem lamb_get {f : Addr → (XK → Hp → VK → Prop) → Prop} : ∀ {fs : List Addr} {tls : List (XK → Hp → VK → Prop)} {i : Nat} {x : V}, Paired f fs tls → (fs.map V.ref)[i]? = some x → ∃ a tl, x = .ref a ∧ f a tl ∧ tls.drop i = tl :: tls.drop (i + 1)
  | _, _, _, _, .nil, h => by simp at h
  | a :: _, tl :: _, 0, x, .cons p _, h => ⟨a, tl, by simpa using h.symm, p, rfl⟩
  | _ :: _, _ :: _, i + 1, x, .cons _ r, h => by
    obtain ⟨a, tl, e, p, q⟩ := lamb_get (i := i) (x := x) r (by simpa using h)
    exact ⟨a, tl, e, p, q⟩
theorem ok_whysB {f fW : Addr} {fd dW : FuncData} {k : Nat} {cs : List Value} (F : Fun K "_law_whys" "_law_whys" sWhys f fd) (FW : Fun K "_law_why" "_law_why" sWhy fW dW) (bW : Binds K dW ["_law_ask"] []) (mW : mg "_law_why" = some (.ref fW))
    (GW : FnOk P w K mg B CX0 (k + 2) fW dW ["_law_ask"] (spWhyB P w K mg B (k + 1) cs)) : FnOk P w K mg B CX0 (k + 3) f fd ["_law_asks"] (spWhysB P w K mg B (k + 1) cs) := by
  refine F.ok scWhys (fun vs H Q E h => ?_) (fun cdv A outer s H vs Q E hr h => ?_)
  · obtain ⟨r, fs, tls, rfl, _⟩ := h
    rfl
  · obtain ⟨r, fs, tls, rfl, hL, hP, kk⟩ := h
    refine ⟨_, (pss_one (ps_ret (pe_lc (own := [("_law_ask", 1)]) (g := gName 1) (tt := tYes) rfl scWhys.nd (pi_list (pv 0)) (blkOk_by (own := [("_law_ask", 1)]) (N := ["_law_asks", "_law_ask"]) (sc := defScope sWhys) (by decide +kernel)) (fun _ _ _ _ _ => (pg_name (i := 1) scWhys.nd rfl (Or.inl rfl))) (fun _ _ _ _ _ => pts_nil) (fun _ _ _ _ _ => (pe_call GW hr (by rfl) mW FW.kp bW .nil pass0 (pa_cons (pv 1) pa_nil)))))), ?_⟩
    refine ⟨_, rfl, r, rfl, ⟨_, SqL.of hL⟩, fun D nD => lc_list (K := K) (a := r) (xs := fs.map V.ref) (fun i H' => WhysL K cs r D (fs.map V.ref) Q (tls.drop i) H') (kk D nD) (fun i H' _ q => SqL.of q.at) ?_ ?_⟩
    · intro i x H' hi hW
      obtain ⟨a, tl, rfl, LB, ed⟩ := lamb_get hP hi
      rw [ed] at hW
      obtain ⟨_, ht⟩ := hW
      exact ⟨rfl, _, rfl, a, tl, rfl, LB, ht⟩
    · intro H' hW
      have e : tls.drop (fs.map V.ref).length = [] := by rw [List.length_map, hP.length]; exact List.drop_length
      rw [e] at hW
      exact hW.2
end

section
end
end Lp
namespace PL
open PySem L2 Lp
/-! ### the bag, a draw; name = [..] -/
section
variable {K : PySem.W.Frag} {β : Base} {S : Sto} {w : Wd}
theorem Rel.sameH (R : Rel K β S w) {H' : Hp} (s : Same w.H H') : Rel K β S ⟨w.m, w.F, H'⟩ ∧ Later S.length w S.length ⟨w.m, w.F, H'⟩ := by
  refine ⟨⟨fun a o h => s _ _ (R.fr _ _ h), fun a o h => s _ _ (R.keep _ _ h), R.f0, R.fn, R.m0, R.n0, fun k c h hd => ?_, R.inj⟩, later_H⟩
  have L := R.live k c h hd
  obtain ⟨o, ho⟩ := L.ok.some hd
  exact ⟨L.nf, L.n0, L.ok.later later_H ((s _ _ ho).trans ho.symm)⟩
/-- the bag's cell turns -/
theorem Rel.bagC (R : Rel K β S w) {k : Nat} (hk : S[k]? = some .bag) {H' : Hp} (s : ∀ b o, b ≠ w.m k → w.H b = some o → H' b = some o) (hc : CellOk K S.length ⟨w.m, w.F, H'⟩ (w.m k) .bag) : Rel K β S ⟨w.m, w.F, H'⟩ ∧ Later S.length w S.length ⟨w.m, w.F, H'⟩ := by
  have L0 := R.live k .bag hk (by intro z; cases z)
  refine ⟨⟨fun a o h => s _ _ (fun e => by rw [e, L0.nf] at h; cases h) (R.fr _ _ h), fun a o h => s _ _ (fun e => by rw [e, L0.n0] at h; cases h) (R.keep _ _ h), R.f0, R.fn, R.m0, R.n0, fun j c h hd => ?_, R.inj⟩, later_H⟩
  have L := R.live j c h hd
  by_cases e : j = k
  · subst e
    rw [hk] at h
    cases h
    exact ⟨L.nf, L.n0, hc⟩
  · have ne : w.m j ≠ w.m k := fun z => e (R.inj j k c .bag h hk hd (by intro z; cases z) z)
    obtain ⟨o, ho⟩ := L.ok.some hd
    exact ⟨L.nf, L.n0, L.ok.later later_H ((s _ _ ne ho).trans ho.symm)⟩
end
/-- the bag is made -/
def W_bag : FW := fun bs S _ R => match bs with
  | [.fz .scr] => R (.mt S.length) (S ++ [.bag])
  | _ => False
/-- a number below many is drawn -/
def W_pull : FW := fun bs S _ R => match bs with
  | [.mt k, .fz (.int many)] => S[k]? = some .bag ∧ (0 < many ∧ many ≤ 1000000000000000000) ∧ ∀ d, 0 ≤ d → d < many → R (.fz (.int d)) S
  | _ => False
section
variable {P : Program} {w : World} {K : PySem.W.Frag} {mg : Str → Option Value} {base : Heap}
theorem spP_bag {vs : List V} {H : Hp} {Q : VK} {E : XK} (h : spP K W_bag vs H Q E) : spBag K vs H Q E := by
  obtain ⟨β, S, w, bs, R, rfl, hR, hb, hW, hk⟩ := h
  match bs, hW, hb with
  | [.fz .scr], hW, hb =>
    obtain ⟨v, rfl, h1⟩ := hb.one
    cases (show Den K w.F .scr v from h1) with
    | @scr a ns h2 h3 =>
      refine ⟨a, ns, rfl, sqL_same hR.fr h2, h3, fun p q H' hp hq s ⟨cells, i, b, s', c, g1, g2, g3, g4, g5, g6, g7⟩ => ?_⟩
      obtain ⟨R1, l1⟩ := hR.sameH s
      have hpq : q ≠ p := fun e => by
        subst e
        rw [g1] at g2
        have e2 := Lp.lst_inj (Option.some.inj g2 ▸ rfl : some (HO.lst [V.ref q, .int (i : Nat), .int b, .int s', .int c]) = some (.lst (cells.map V.int)))
        cases cells with
        | nil => cases e2
        | cons x r => cases e2
      obtain ⟨R2, l2⟩ := R1.adoptF (D := q) (o := .lst (cells.map V.int)) g2 (hR.fr.free hq) (hR.keep.free hq) fun k c h1 h2 e => by
        obtain ⟨o, ho⟩ := (hR.live k c h1 h2).ok.some h2
        have e : w.m k = q := e
        rw [e, hq] at ho; cases ho
      obtain ⟨R3, l3⟩ := R2.adoptC (D := p) (c := .bag) ⟨q, cells, i, b, s', c, g1, upd_same, g3, g4, g5, g6, g7⟩ (by intro z; cases z) ((upd_ne hpq.symm).trans (hR.fr.free hp)) (hR.keep.free hp) fun k c h1 h2 e => by
        obtain ⟨o, ho⟩ := (hR.live k c h1 h2).ok.some h2
        have e : w.m k = p := e
        rw [e, hp] at ho; cases ho
      exact hk _ _ ⟨fun k => if k = S.length then p else w.m k, upd w.F q (.lst (cells.map V.int)), H'⟩ (.ref p) hW R3 ((l1.trans l2).trans l3) ⟨by rw [List.length_append]; exact Nat.lt_succ_self _, congrArg V.ref (if_pos rfl).symm⟩
theorem spP_pull {vs : List V} {H : Hp} {Q : VK} {E : XK} (h : spP K W_pull vs H Q E) : spPull vs H Q E := by
  obtain ⟨β, S, w, bs, R, rfl, hR, hb, hW, hk⟩ := h
  match bs, hW, hb with
  | [.mt k, .fz (.int many)], hW, hb =>
    obtain ⟨v, u, rfl, h1, h2⟩ := hb.two
    obtain ⟨_, rfl⟩ := (show k < S.length ∧ v = .ref (w.m k) from h1)
    have e := denInt h2
    subst e
    obtain ⟨e1, ⟨m0, m1⟩, h3⟩ := hW
    have L := hR.live k .bag e1 (by intro z; cases z)
    obtain ⟨q, cells, i, b, s, c, g1, g2, g3⟩ := (show ∃ (q : Addr) (cells : List Int) (i : Nat) (b s c : Int), w.H (w.m k) = some (.lst [.ref q, .int (i : Nat), .int b, .int s, .int c]) ∧ w.F q = some (.lst (cells.map V.int)) ∧ cells.length ≤ 63 ∧ i ≤ cells.length ∧ 0 ≤ b ∧ 0 ≤ s ∧ s < 2147483579 from L.ok)
    refine ⟨w.m k, q, many, rfl, ⟨cells, i, b, s, c, g1, hR.fr _ _ g2, g3⟩, m0, m1, fun d H' d0 d1 bs => ?_⟩
    have nq : q ≠ w.m k := fun e => by rw [e, L.nf] at g2; cases g2
    obtain ⟨cells', i', b', s', c', k1, k2, k3⟩ := bs.bag
    have e2 := bs.keep q _ nq (hR.fr _ _ g2)
    rw [e2] at k2
    obtain ⟨R1, l1⟩ := hR.bagC e1 (H' := H') (fun b o n h => bs.keep b o n h) ⟨q, cells', i', b', s', c', k1, g2.trans k2, k3⟩
    exact hk _ S ⟨w.m, w.F, H'⟩ (.int d) (h3 d d0 d1) R1 l1 (.int d)
theorem okB {f : Addr} {fd : FuncData} {ps : List Str} {k : Nat} (F : FnOk P w K mg base CX0 k f fd ps (spBag K)) : FnOk P w K mg base CX0 k f fd ps (spP K W_bag) := F.imp fun _ _ _ _ h => spP_bag h
theorem okQ {f : Addr} {fd : FuncData} {ps : List Str} {k : Nat} (F : FnOk P w K mg base CX0 k f fd ps spPull) : FnOk P w K mg base CX0 k f fd ps (spP K W_pull) := F.imp fun _ _ _ _ h => spP_pull h
end
section
variable {X : Cx} {E : XK} {elt tg iter : Expr} {ifs : List Expr} {scope : Scope} {own : List (Str × Nat)} {fi : FI} {g : FG} {ft : FT} {fe : FE} {pos spos : Pos} {is : List Nat}
theorem xs_setLcG {i : Nat} {y : Str} {py : Pos} {fin : List B → Sto → RB → Prop} (hc : X.calm = true) (hN : X.N.Nodup) (hy : X.N[i]? = some y) (hyl : X.env.scope.names.lookup y = some .local)
    (hsw : swapsWith (.ListComp elt [⟨tg, iter, ifs, 0⟩] scope pos) (some (.Name y py)) spos.line X.env = pure true) (hi : XI X E tg iter fi) (ok : BlkOk X.N X.env.scope scope own) (hin : ∀ i ∈ is, i ∈ own.map (·.2))
    (hg : ∀ c : Ctx5, XG (X.blk c.1 c.2.1 scope (compEnvC scope c.2.2.2.1 c.2.2.1 X.env) c.2.2.2.2) tg g is)
    (ht : ∀ c : Ctx5, XIfs (X.blk c.1 c.2.1 scope (compEnvC scope c.2.2.2.1 c.2.2.1 X.env) c.2.2.2.2) ifs ft)
    (he : ∀ c : Ctx5, XE (X.blk c.1 c.2.1 scope (compEnvC scope c.2.2.2.1 c.2.2.1 X.env) c.2.2.2.2) (fun _ _ _ => False) elt fe)
    (hfin : ∀ β S w out R Q D us, Rel X.K β S w → fin out S R → DenBL X.K S.length w out us → w.H D = some (.lst us) → w.F D = none → β.H0 D = none → (∀ k c, S[k]? = some c → c ≠ .dead → w.m k ≠ D) → KOk X.K β S.length w R Q → Q (.ref D) w.H)
    (hs : ∀ x, foldedSetIterable iter X.env x = pure x := by intro _; rfl) :
    XS X E (.Assign [.Name y py] (.ListComp elt [⟨tg, iter, ifs, 0⟩] scope pos) spos) (sAsg (fun Γ S Rx R => fi Γ S Rx fun ds S1 => lcW g ft fe (EvWipe Γ (own.map (·.2))) ds [] S1 fun out S2 => fin out S2 R) (gN i)) :=
  let ⟨_, o, r⟩ := hi.ex
  let ⟨_, p, s⟩ := allG (Xf := fun c : Ctx5 => X.blk c.1 c.2.1 scope (compEnvC scope c.2.2.2.1 c.2.2.1 X.env) c.2.2.2.2) (K := X.K) (fun _ => rfl) hg
  let ⟨_, q, t⟩ := allIf (Xf := fun c : Ctx5 => X.blk c.1 c.2.1 scope (compEnvC scope c.2.2.2.1 c.2.2.1 X.env) c.2.2.2.2) (K := X.K) (fun _ => rfl) ht
  let ⟨_, u, v⟩ := allE (Xf := fun c : Ctx5 => X.blk c.1 c.2.1 scope (compEnvC scope c.2.2.2.1 c.2.2.1 X.env) c.2.2.2.2) (K := X.K) (fun _ => rfl) he
  ⟨_, ps_setLc hc hN hy hyl hsw o ok (fun s H C cl fp => p (s, H, C, cl, fp)) (fun s H C cl fp => q (s, H, C, cl, fp)) (fun s H C cl fp => u (s, H, C, cl, fp)) hs, fun β S w σ Γ P D hR hG hf hk =>
    lc_snd r s hin t v hfin β S w σ Γ _ _ _ hR hG hf (fun b S1 w1 v h1 R1 l1 d1 => hk.nx _ S1 w1 _ h1 R1 ((hG.later l1).set i d1)) hk.x⟩
theorem xs_setLc {i : Nat} {y : Str} {py : Pos} (hc : X.calm = true) (hN : X.N.Nodup) (hy : X.N[i]? = some y) (hyl : X.env.scope.names.lookup y = some .local)
    (hsw : swapsWith (.ListComp elt [⟨tg, iter, ifs, 0⟩] scope pos) (some (.Name y py)) spos.line X.env = pure true) (hi : XI X E tg iter fi) (ok : BlkOk X.N X.env.scope scope own) (hin : ∀ i ∈ is, i ∈ own.map (·.2))
    (hg : ∀ c : Ctx5, XG (X.blk c.1 c.2.1 scope (compEnvC scope c.2.2.2.1 c.2.2.1 X.env) c.2.2.2.2) tg g is)
    (ht : ∀ c : Ctx5, XIfs (X.blk c.1 c.2.1 scope (compEnvC scope c.2.2.2.1 c.2.2.1 X.env) c.2.2.2.2) ifs ft)
    (he : ∀ c : Ctx5, XE (X.blk c.1 c.2.1 scope (compEnvC scope c.2.2.2.1 c.2.2.1 X.env) c.2.2.2.2) (fun _ _ _ => False) elt fe)
    (hs : ∀ x, foldedSetIterable iter X.env x = pure x := by intro _; rfl) :
    XS X E (.Assign [.Name y py] (.ListComp elt [⟨tg, iter, ifs, 0⟩] scope pos) spos) (sAsg (eLc fi g ft fe (own.map (·.2))) (gN i)) :=
  xs_setLcG (fin := fun out S2 R => asDs out fun os => R (.fz (.lst os)) S2) hc hN hy hyl hsw hi ok hin hg ht he (fun β S w out R Q D us hR h hacc hw hF h0 hl hk => by
    obtain ⟨os, h2, h3⟩ := asDs_ok h hacc
    obtain ⟨R2, l2⟩ := hR.adoptF hw hF h0 hl
    exact hk _ S ⟨w.m, upd w.F D (.lst us), w.H⟩ (.ref D) h2 R2 l2 (Den.lst (vs := us) upd_same (DenL.mono l2.F h3))) hs
theorem xs_setLcM {i : Nat} {y : Str} {py : Pos} (hc : X.calm = true) (hN : X.N.Nodup) (hy : X.N[i]? = some y) (hyl : X.env.scope.names.lookup y = some .local)
    (hsw : swapsWith (.ListComp elt [⟨tg, iter, ifs, 0⟩] scope pos) (some (.Name y py)) spos.line X.env = pure true) (hi : XI X E tg iter fi) (ok : BlkOk X.N X.env.scope scope own) (hin : ∀ i ∈ is, i ∈ own.map (·.2))
    (hg : ∀ c : Ctx5, XG (X.blk c.1 c.2.1 scope (compEnvC scope c.2.2.2.1 c.2.2.1 X.env) c.2.2.2.2) tg g is)
    (ht : ∀ c : Ctx5, XIfs (X.blk c.1 c.2.1 scope (compEnvC scope c.2.2.2.1 c.2.2.1 X.env) c.2.2.2.2) ifs ft)
    (he : ∀ c : Ctx5, XE (X.blk c.1 c.2.1 scope (compEnvC scope c.2.2.2.1 c.2.2.1 X.env) c.2.2.2.2) (fun _ _ _ => False) elt fe)
    (hs : ∀ x, foldedSetIterable iter X.env x = pure x := by intro _; rfl) :
    XS X E (.Assign [.Name y py] (.ListComp elt [⟨tg, iter, ifs, 0⟩] scope pos) spos) (sAsg (eLcM fi g ft fe (own.map (·.2))) (gN i)) :=
  xs_setLcG (fin := fun out S2 R => R (B.mt S2.length) (S2 ++ [Cell.lst out])) hc hN hy hyl hsw hi ok hin hg ht he (fun β S w out R Q D us hR h hacc hw hF h0 hl hk => by
    obtain ⟨R2, l2⟩ := hR.adoptC (c := .lst out) ⟨us, hw, hacc⟩ (by intro z; cases z) hF h0 hl
    exact hk _ _ ⟨fun k => if k = S.length then D else w.m k, w.F, w.H⟩ (.ref D) h R2 l2 ⟨by rw [List.length_append]; exact Nat.lt_succ_self _, congrArg V.ref (if_pos rfl).symm⟩) hs
end
end PL

/-! _law_why, _law_whys (own work) -/
namespace PL
open PySem PySem.Spec PyProof.Rows L2 LamX
/-- the errors of a law: each class's own attribute -/
def ExTbl (K : PySem.W.Frag) (cs : List Value) (tbl : List (Str × Str)) : Prop := ∀ C f, tbl.lookup C = some f → (f, C) ∈ Lp.pairs ∧ Lp.Fx K (clsAt K C) f ∧ PySem.W.exmAny K (.ref (clsAt K C)) cs = some true
/-- one lambda asked -/
def why1 (tbl : List (Str × Str)) (fe : FE) (Γ : Ev) (S : Sto) (R : D → Sto → Prop) : Prop :=
  fe Γ S (fun C fs S' => match fs with
    | [(c, .str nm), (f, d)] => (c = "code" ∧ nm = C ∧ tbl.lookup C = some f) ∧ R (.tup [.str C, .tup [d]]) S'
    | _ => False) fun b S' => match b with
    | .fz d => R (.tup [.str "value", d]) S'
    | _ => False
def whysW (tbl : List (Str × Str)) : List FE → Ev → List D → Sto → (List D → Sto → Prop) → Prop
  | [], _, acc, S, R => R acc S
  | fe :: rest, Γ, acc, S, R => why1 tbl fe Γ S fun d S' => whysW tbl rest Γ (acc ++ [d]) S' R
section
variable {K : PySem.W.Frag} {tbl : List (Str × Str)} {cs : List Value}
theorem snd_why1 (hx : ExTbl K cs tbl) {σ : L2.St} {tl : XK → Hp → VK → Prop} {fe : FE} (hl : LamR K σ tl fe) {β : Base} {S : Sto} {w : Wd} {Γ : Ev} {R : D → Sto → Prop} {Q : VK} (hR : Rel K β S w) (hG : EvOk K S.length w Γ σ) (hf : why1 tbl fe Γ S R)
    (hk : ∀ d S' w' v, R d S' → Rel K β S' w' → Later S.length w S'.length w' → Den K w'.F d v → Q v w'.H) : Lp.TWhy K cs tl w.H Q := by
  obtain ⟨t, rfl, hs⟩ := hl
  refine hs _ β S w σ Γ _ _ _ hR hG hf (fun b S1 w1 v h1 R1 l1 d1 => ?_) (fun C fs S1 w1 d vs h1 R1 l1 hd hf => ?_)
  · cases b with
    | mt k => exact (show False from h1).elim
    | fz x =>
      have d1 : Den K w1.F x v := d1
      refine ⟨by show 2 ≤ sizeLine; decide, fun a na => ?_⟩
      obtain ⟨R2, l2⟩ := R1.newF na (.tup [.str "value", v])
      exact hk _ S1 _ (.ref a) h1 R2 (l1.trans l2) (.tup (SqT.of upd_same) (.cons (.str _) (.cons (Den.mono l2.F d1) .nil)))
  · match fs, h1, hf with
    | [(c, .str nm), (f, y)], ⟨⟨e1, e2, e3⟩, h1⟩, .cons (.str _) (.cons hy .nil) =>
      subst e1 e2
      obtain ⟨p1, p2, p3⟩ := hx _ _ e3
      refine ⟨_, d, f, nm, _, rfl, rfl, R1.fr _ _ hd, p1, p2, p3, fun t1 t2 H3 n1 n2 sm g1 g2 => ?_⟩
      obtain ⟨R2, l2⟩ := R1.sameG sm
      have F1 : w1.F t1 = none := R1.fr.free n1
      have F2 : w1.F t2 = none := R1.fr.free n2
      have ne : t2 ≠ t1 := fun e => by
        rw [e, g1] at g2
        cases g2
      obtain ⟨R3, l3⟩ := R2.adoptF (D := t1) (o := .tup [_]) g1 F1 (R1.keep.free n1) (R1.freshL n1)
      obtain ⟨R4, l4⟩ := R3.adoptF (D := t2) (o := .tup [.str nm, .ref t1]) g2 ((upd_ne ne).trans F2) (R1.keep.free n2) (R1.freshL n2)
      exact hk _ S1 _ (.ref t2) h1 R4 ((l1.trans l2).trans (l3.trans l4)) (.tup (SqT.of upd_same) (.cons (.str _) (.cons (.tup (SqT.of ((upd_ne ne.symm).trans upd_same)) (.cons (Den.mono (l3.F.trans l4.F) hy) .nil)) .nil)))
/-- all of them asked in turn; r: the list of the lambdas, T: that of the answers -/
theorem whys_chain (hx : ExTbl K cs tbl) {r T : Addr} {xs : List V} {Q : VK} {β : Base} (hr : β.H0 r = some (.lst xs)) (hT0 : β.H0 T = none) {σ : L2.St} {Γ : Ev} {R : List D → Sto → Prop} :
    ∀ {tls : List (XK → Hp → VK → Prop)} {fes : List FE}, Paired (LamR K σ) tls fes → ∀ (acc : List D) (us : List V) (S : Sto) (w : Wd), Rel K β S w → EvOk K S.length w Γ σ → w.H T = some (.lst us) → w.F T = none → (∀ k c, S[k]? = some c → c ≠ .dead → w.m k ≠ T) → DenL K w.F acc us → acc.length + fes.length ≤ 1000 →
    whysW tbl fes Γ acc S R → (∀ ds S' w', R ds S' → Rel K β S' w' → Later S.length w S'.length w' → Den K w'.F (.lst ds) (.ref T) → Q (.ref T) w'.H) → Lp.WhysL K cs r T xs Q tls w.H
  | _, _, .nil, acc, us, S, w, hR, hG, hT, hF, hc, hd, hl, hf, hk => by
    obtain ⟨R1, l1⟩ := hR.adoptF (D := T) (o := .lst us) hT hF hT0 hc
    exact ⟨hR.keep _ _ hr, hk acc S ⟨w.m, upd w.F T (.lst us), w.H⟩ hf R1 l1 (.lst upd_same (DenL.mono l1.F hd))⟩
  | _, _, @Paired.cons _ _ _ tl fe tls fes h t, acc, us, S, w, hR, hG, hT, hF, hc, hd, hl, hf, hk => by
    have hT2 : (reb S w).H0 T = some (.lst us) := reb_of hT hc
    refine ⟨hR.keep _ _ hr, snd_why1 hx h hR.reb hG hf fun d S1 w1 v h1 R1 l1 d1 => ?_⟩
    have k1 : w1.H T = some (.lst us) := R1.keep _ _ hT2
    have k2 : w1.F T = none := by
      cases q : w1.F T with
      | none => rfl
      | some o =>
        rcases R1.fn T o q with z | z
        · have z : w.F T = some o := z
          rw [hF] at z; cases z
        · rw [hT2] at z; cases z
    have k3 : ∀ k c, S1[k]? = some c → c ≠ .dead → w1.m k ≠ T := fun k c g1 g2 e => by
      have := (R1.live k c g1 g2).n0
      rw [e, hT2] at this
      cases this
    obtain ⟨b1, b2⟩ := hR.unreb R1
    obtain ⟨R2, l2⟩ := b1.updFree (o := .lst (us ++ [v])) k2 hT0 k3
    have l12 := b2.trans l2
    have lenA : acc.length ≤ 999 := by rw [List.length_cons] at hl; omega
    refine ⟨us, k1, by rw [← hd.length]; exact Nat.lt_of_le_of_lt lenA (by rw [sizeLine_eq]; decide), ?_⟩
    exact whys_chain hx hr hT0 t (acc ++ [d]) (us ++ [v]) S1 _ R2 (hG.later l12) upd_same k2 k3 (DenL.app (DenL.mono l12.F hd) (.cons (Den.mono l2.F d1) .nil)) (by rw [List.length_append, List.length_singleton]; rw [List.length_cons] at hl; omega) h1
      fun ds S' w' q R' l' hd' => hk ds S' w' q R' (l12.trans l') hd'
end
/-- _law_whys(the list) -/
def eWhys (PT : Addr) (q : Str) (tbl : List (Str × Str)) (j : Nat) (Ls : List LamD) (fes : List FE) (fa : FE) : FE := fun Γ S Rx R => fa Γ S Rx fun b S1 => match b with
  | .mt k => (S1[k]? = some (.lams Ls) ∧ (S1.set k .dead)[j]? = some (.tab PT q) ∧ ((S1.set k .dead).set j .dead).all plainC = true ∧ fes.length ≤ 1000) ∧ whysW tbl fes Γ [] ((S1.set k .dead).set j .dead) fun ds S2 => S2[j]? = some .dead ∧ R (.fz (.lst ds)) (S2.set j (.tab PT q))
  | _ => False
/-- _law_why(a lambda) -/
def eWhy (PT : Addr) (q : Str) (tbl : List (Str × Str)) (j : Nat) (fe : FE) : FE := fun Γ S _ R => (S[j]? = some (.tab PT q) ∧ (S.set j .dead).all plainC = true) ∧ why1 tbl fe Γ (S.set j .dead) fun d S2 => S2[j]? = some .dead ∧ R (.fz d) (S2.set j (.tab PT q))
section
variable {X : Cx} {E : XK} {ea : Expr} {fa fe : FE} {fes : List FE} {Ls : List LamD} {PT : Addr} {q : Str} {j k : Nat} {tbl : List (Str × Str)} {cs : List Value} {g : Addr} {fd : FuncData} {p pos : Pos}
theorem x_whys (F : ∀ B : Heap, FnOk X.prog X.w X.K X.mg B CX0 (k + 3) g fd ["_law_asks"] (Lp.spWhysB X.prog X.w X.K X.mg B (k + 1) cs)) (hx : ExTbl X.K cs tbl) (hq : q = X.env.qual ++ "<lambda>") (hcab : ∀ y c, X.env.cells.lookup y = some c → X.s_0.heap.objs.size ≤ c) (hr : Room (k + 3) X.A)
    (hg : Gl X "_law_whys") (hm : X.mg "_law_whys" = some (.ref g)) (hkp : PySem.W.keepIn X.K (.ref g) = true) (hb : Binds X.K fd ["_law_asks"] []) (hB : XBs X q k Ls fes) (ha : XE X E ea fa)
    (hst : starEach (ea :: []) X.env = (false, eval ea X.env) :: starEach [] X.env := by rfl) (hpl : (backTo pos (starEach [] X.env)).any (·.1) = false := by rfl) : XE X E (.Call (.Name "_law_whys" p) [ea] [] pos) (eWhys PT q tbl j Ls fes fa) :=
  let ⟨_, pa, s⟩ := ha.ex
  ⟨_, Lg.pe_callG (fun B _ => F B) hcab hr hg hm hkp hb (pa_cons pa pa_nil hst) (by decide) hst hpl, fun β S w σ Γ Rx R Q hR hG hf hk hx' => s β S w σ Γ Rx _ _ hR hG hf (fun b S1 w1 v h1 R1 l1 d1 => by
    cases b with
    | fz d => exact (show False from h1).elim
    | mt kk =>
      obtain ⟨⟨c1, c2, c3, c4⟩, h1⟩ := h1
      obtain ⟨_, rfl⟩ := d1
      obtain ⟨fs, g1, g2⟩ := (show ∃ fs : List Addr, w1.H (w1.m kk) = some (.lst (fs.map V.ref)) ∧ Paired (LamFs w1.F) fs Ls from (R1.live kk _ c1 (by intro z; cases z)).ok)
      obtain ⟨N, hN, hP⟩ := lam_places g2
      have Rk := R1.kill kk
      have R0 := (Rk.kill j).undo hN c3
      have hNH := ext_H R1 hN
      have offr : w1.m kk ∉ N := off_live R1 hN c1 (by intro z; cases z)
      have ltk := get_lt c1
      refine ⟨N, hNH, fun B hφ cel up => ?_⟩
      obtain ⟨tls, p1, p2⟩ := lam_all (F := w1.F) hq cel (fun b m φ z => hφ b m φ (R1.fr _ _ z)) hB hP
      refine ⟨w1.m kk, fs, tls, rfl, (Lg.undo_out offr).trans g1, p1, fun T nT => ?_⟩
      obtain ⟨R2, l2⟩ := R0.updFree (o := .lst []) (R0.fr.free nT) (R0.keep.free nT) (R0.freshL nT)
      have lenS : ((S1.set kk .dead).set j .dead).length = S1.length := by rw [List.length_set, List.length_set]
      have hr0 : (PL.reb ((S1.set kk .dead).set j .dead) (unW w1 N)).H0 (w1.m kk) = some (.lst (fs.map V.ref)) := reb_of (w := unW w1 N) ((Lg.undo_out offr).trans g1) fun i c hi hc e => by
        have lv := (Rk.kill j).live i c hi hc
        by_cases e1 : i = kk
        · subst e1
          by_cases e2 : i = j
          · subst e2
            rw [List.getElem?_set_self (by rw [List.length_set]; exact ltk)] at hi
            cases hi
            exact hc rfl
          · rw [List.getElem?_set_ne (fun z => e2 z.symm), List.getElem?_set_self ltk] at hi
            cases hi
            exact hc rfl
        · have : S1[i]? = some c := by
            by_cases e2 : i = j
            · subst e2
              rw [List.getElem?_set_self (get_lt c2)] at hi
              cases hi
              exact absurd rfl hc
            · rw [List.getElem?_set_ne (fun z => e2 z.symm), List.getElem?_set_ne (fun z => e1 z.symm)] at hi
              exact hi
          exact e1 (R1.inj i kk c _ this c1 hc (by intro z; cases z) e)
      refine whys_chain hx hr0 (R0.keep.free nT) p2 [] [] _ _ R2 (by rw [lenS]; exact ((hG.later l1).undo hN).later (by rw [lenS] at l2; exact l2)) upd_same (R0.fr.free nT) (R0.freshL nT) .nil (by rw [List.length_nil, Nat.zero_add]; exact c4) h1 fun ds S' w' h2 R' l' hd => ?_
      intro hn
      obtain ⟨q1, q2, q3⟩ := Rk.redo c2 hN R' hn h2.1
      rw [List.length_set] at q2
      exact hk _ _ _ (.ref T) h2.2 q1 (l1.trans q2) (q3 _ (.fz (.lst ds)) _ hd)) hx'⟩
theorem x_why {params : Arguments} {body : Expr} {scope : Scope} {lpos : Pos} (F : ∀ B : Heap, FnOk X.prog X.w X.K X.mg B CX0 (k + 2) g fd ["_law_ask"] (Lp.spWhyB X.prog X.w X.K X.mg B (k + 1) cs)) (hx : ExTbl X.K cs tbl) (hq : q = X.env.qual ++ "<lambda>") (hcab : ∀ y c, X.env.cells.lookup y = some c → X.s_0.heap.objs.size ≤ c) (hr : Room (k + 2) X.A)
    (hg : Gl X "_law_why") (hm : X.mg "_law_why" = some (.ref g)) (hkp : PySem.W.keepIn X.K (.ref g) = true) (hb : Binds X.K fd ["_law_ask"] []) {Ls : List LamD} (hL : XLs X PT q [.Lambda params body scope lpos] Ls) (hB : XBs X q k Ls [fe])
    (hst : starEach (.Lambda params body scope lpos :: []) X.env = (false, eval (.Lambda params body scope lpos) X.env) :: starEach [] X.env := by rfl) (hpl : (backTo pos (starEach [] X.env)).any (·.1) = false := by rfl) :
    XE X E (.Call (.Name "_law_why" p) [.Lambda params body scope lpos] [] pos) (eWhy PT q tbl j fe) :=
  let ⟨_, pa, s⟩ := hL.made (j := j) rfl
  ⟨_, Lg.pe_callG (fun B _ => F B) hcab hr hg hm hkp hb pa (by decide) hst hpl, fun β S w σ Γ Rx R Q hR hG hf hk hx' => s β S w σ _ hR hf.1.1 fun w1 fs R1 l1 hP0 => by
    obtain ⟨⟨c2, c3⟩, h1⟩ := hf
    obtain ⟨N, hN, hP⟩ := lam_places hP0
    have R0 := (R1.kill j).undo hN c3
    have hNH := ext_H R1 hN
    refine ⟨N, hNH, fun B hφ cel up => ?_⟩
    obtain ⟨tls, p1, p2⟩ := lam_all (F := w1.F) hq cel (fun b m φ z => hφ b m φ (R1.fr _ _ z)) hB hP
    cases p2 with
    | cons lr z2 =>
      cases z2
      cases p1 with
      | cons LB z1 =>
        cases z1
        have lenS : (S.set j .dead).length = S.length := by rw [List.length_set]
        refine ⟨_, _, rfl, LB, snd_why1 hx lr R0 (by rw [lenS]; exact (hG.later l1).undo hN) h1 fun d S' w' v h2 R' l' hd => ?_⟩
        intro hn
        obtain ⟨q1, q2, q3⟩ := R1.redo c2 hN R' hn h2.1
        exact hk _ _ _ v h2.2 q1 (l1.trans q2) (q3 _ (.fz d) _ hd)⟩
end
/-- what the written part says of an own error's class -/
structure ExR (K : PySem.W.Frag) (C fI : Addr) (f : Str) : Prop where
  o : OexR K C
  s : Ex.OexS K C
  i : PySem.W.findIn K (.ref C) "__init__" = some (some (.ref fI))
  t : PySem.W.typeIn K (.ref fI) = some (.type "function")
  nf : PySem.W.findIn K (.ref C) f = some none
  nc : PySem.W.findIn K (.ref C) "code" = some none
  x : Lp.Fx K C f
theorem exok {K : PySem.W.Frag} {cs : List Value} {cn f : Str} {C : Addr} (h : clsAt K cn = C) (m : (f, cn) ∈ Lp.pairs) (x : Lp.Fx K C f) (e : PySem.W.exmAny K (.ref C) cs = some true) : (f, cn) ∈ Lp.pairs ∧ Lp.Fx K (clsAt K cn) f ∧ PySem.W.exmAny K (.ref (clsAt K cn)) cs = some true := by
  subst h; exact ⟨m, x, e⟩
/-! how they are entered -/
section
variable {fa fe : FE} {fes : List FE} {Γ : Ev} {S : Sto} {Rx : XP} {R : RB} {Ls : List LamD} {PT : Addr} {q : Str} {j k : Nat} {tbl : List (Str × Str)}
theorem lamDs_le {q : Str} {cl : List (Str × Addr)} {es : List Expr} (h : es.length ≤ 1000) : (lamDs q cl es).length ≤ 1000 := Nat.le_trans (List.length_filterMap_le _ _) h
theorem eLamL_i (e1 : S[j]? = some (.tab PT q)) (e2 : Ls.length ≤ 1000) (h : R (.mt S.length) (S ++ [.lams Ls])) : eLamL PT q j Ls Γ S Rx R := ⟨⟨e1, e2⟩, h⟩
def gWhys (PT : Addr) (q : Str) (tbl : List (Str × Str)) (j : Nat) (Ls : List LamD) (fes : List FE) (Γ : Ev) (b : B) (S1 : Sto) (R : RB) : Prop := match b with
  | .mt k => (S1[k]? = some (.lams Ls) ∧ (S1.set k .dead)[j]? = some (.tab PT q) ∧ ((S1.set k .dead).set j .dead).all plainC = true ∧ fes.length ≤ 1000) ∧ whysW tbl fes Γ [] ((S1.set k .dead).set j .dead) fun ds S2 => S2[j]? = some .dead ∧ R (.fz (.lst ds)) (S2.set j (.tab PT q))
  | _ => False
theorem eWhys_i (h : fa Γ S Rx fun b S1 => gWhys PT q tbl j Ls fes Γ b S1 R) : eWhys PT q tbl j Ls fes fa Γ S Rx R := h
theorem gWhys_i (e1 : S[k]? = some (.lams Ls)) (e2 : (S.set k .dead)[j]? = some (.tab PT q)) (e3 : ((S.set k .dead).set j .dead).all plainC = true) (e4 : Nat.ble fes.length 1000 = true) (h : whysW tbl fes Γ [] ((S.set k .dead).set j .dead) fun ds S2 => S2[j]? = some .dead ∧ R (.fz (.lst ds)) (S2.set j (.tab PT q))) : gWhys PT q tbl j Ls fes Γ (.mt k) S R := ⟨⟨e1, e2, e3, Nat.le_of_ble_eq_true e4⟩, h⟩
def xWhy (tbl : List (Str × Str)) (R : D → Sto → Prop) (C : Str) (fs : List (Str × D)) (S' : Sto) : Prop := match fs with
  | [(c, .str nm), (f, d)] => (c = "code" ∧ nm = C ∧ tbl.lookup C = some f) ∧ R (.tup [.str C, .tup [d]]) S'
  | _ => False
def vWhy (R : D → Sto → Prop) (b : B) (S' : Sto) : Prop := match b with
  | .fz d => R (.tup [.str "value", d]) S'
  | _ => False
theorem why1_i {RD : D → Sto → Prop} (h : fe Γ S (xWhy tbl RD) (vWhy RD)) : why1 tbl fe Γ S RD := h
theorem whysN_i {RW : List D → Sto → Prop} {acc : List D} (h : RW acc S) : whysW tbl [] Γ acc S RW := h
theorem whysC_i {RW : List D → Sto → Prop} {acc : List D} (h : why1 tbl fe Γ S fun d S' => whysW tbl fes Γ (acc ++ [d]) S' RW) : whysW tbl (fe :: fes) Γ acc S RW := h
theorem xWhy_i {RD : D → Sto → Prop} {C f : Str} {d : D} (e : tbl.lookup C = some f) (h : RD (.tup [.str C, .tup [d]]) S) : xWhy tbl RD C [("code", .str C), (f, d)] S := ⟨⟨rfl, rfl, e⟩, h⟩
theorem vWhy_i {RD : D → Sto → Prop} {d : D} (h : RD (.tup [.str "value", d]) S) : vWhy RD (.fz d) S := h
end
end PL

namespace PL
open PySem L2 Lp
abbrev s__law_field : Stmt := topS 21
abbrev s__law_why : Stmt := topS 22
abbrev s__law_whys : Stmt := topS 23
abbrev s__law_bag : Stmt := topS 16
abbrev s__law_pull : Stmt := topS 17
abbrev s__law_pick : Stmt := topS 18
abbrev s__law_mixed : Stmt := topS 19
abbrev s__law_numbers : Stmt := topS 25
abbrev s__law_names : Stmt := topS 24
abbrev s_is_name : Stmt := topS 10
abbrev s_InvalidName_init : Stmt := (clsB (topS 3)).getD 0 (.Pass ⟨0, 0, 0, 0⟩)
abbrev s_Seat_init : Stmt := (clsB (topS 12)).getD 2 (.Pass ⟨0, 0, 0, 0⟩)
abbrev s_is_number : Stmt := topS 9
abbrev s_InvalidNumber_init : Stmt := (clsB (topS 2)).getD 0 (.Pass ⟨0, 0, 0, 0⟩)
abbrev s_Thing_init : Stmt := (clsB (topS 13)).getD 2 (.Pass ⟨0, 0, 0, 0⟩)
abbrev s_Peg_init : Stmt := (clsB (topS 14)).getD 1 (.Pass ⟨0, 0, 0, 0⟩)
abbrev s__law_same : Stmt := topS 20
abbrev s_Seat_text : Stmt := (clsB (topS 12)).getD 4 (.Pass ⟨0, 0, 0, 0⟩)
abbrev s_Thing_text : Stmt := (clsB (topS 13)).getD 4 (.Pass ⟨0, 0, 0, 0⟩)
abbrev s_Seat_repr : Stmt := (clsB (topS 12)).getD 6 (.Pass ⟨0, 0, 0, 0⟩)
abbrev s_Thing_number : Stmt := (clsB (topS 13)).getD 3 (.Pass ⟨0, 0, 0, 0⟩)
abbrev s_Seat_label : Stmt := (clsB (topS 12)).getD 3 (.Pass ⟨0, 0, 0, 0⟩)
abbrev s_Thing_eq : Stmt := (clsB (topS 13)).getD 5 (.Pass ⟨0, 0, 0, 0⟩)
abbrev s_Seat_eq : Stmt := (clsB (topS 12)).getD 5 (.Pass ⟨0, 0, 0, 0⟩)
abbrev s__law_odd : Stmt := topS 26
abbrev s_law : Stmt := topS 27
def isT : IsaT := ⟨[(("Seat", "Peg"), false), (("Seat", "Seat"), true), (("Seat", "Thing"), false), (("Thing", "Peg"), false), (("Thing", "Seat"), true), (("Thing", "Thing"), true), (("Peg", "Peg"), true), (("Peg", "Seat"), true), (("Peg", "Thing"), false)], [(("NoneType", "Peg"), false), (("NoneType", "Seat"), false), (("NoneType", "Thing"), false), (("bool", "Peg"), false), (("bool", "Seat"), false), (("bool", "Thing"), false), (("int", "Peg"), false), (("int", "Seat"), false), (("int", "Thing"), false), (("str", "Peg"), false), (("str", "Seat"), false), (("str", "Thing"), false), (("list", "Peg"), false), (("list", "Seat"), false), (("list", "Thing"), false), (("tuple", "Peg"), false), (("tuple", "Seat"), false), (("tuple", "Thing"), false), (("dict", "Peg"), false), (("dict", "Seat"), false), (("dict", "Thing"), false)], [(("Seat", "list"), false), (("Seat", "str"), false), (("Seat", "tuple"), false), (("Thing", "list"), false), (("Thing", "str"), false), (("Thing", "tuple"), false), (("Peg", "list"), false), (("Peg", "str"), false), (("Peg", "tuple"), false)]⟩
def eqOO : List (Str × Str) := [("Peg", "Seat"), ("Peg", "Thing"), ("Peg", "Peg"), ("Thing", "Seat"), ("Thing", "Thing"), ("Thing", "Peg")]
def eqOB : List (Str × String) := [("Peg", "str"), ("Peg", "list"), ("Peg", "int"), ("Peg", "bool"), ("Peg", "NoneType"), ("Thing", "str"), ("Thing", "list"), ("Thing", "int"), ("Thing", "bool"), ("Thing", "NoneType")]
def exTb : List (Str × Str) := [("InvalidName", "given"), ("InvalidNumber", "given")]
abbrev kLam : Nat := 6
structure Ad where
  f__law_field : Addr
  d__law_field : FuncData
  f__law_why : Addr
  d__law_why : FuncData
  f__law_whys : Addr
  d__law_whys : FuncData
  f__law_bag : Addr
  d__law_bag : FuncData
  f__law_pull : Addr
  d__law_pull : FuncData
  f__law_pick : Addr
  d__law_pick : FuncData
  f__law_mixed : Addr
  d__law_mixed : FuncData
  f__law_numbers : Addr
  d__law_numbers : FuncData
  f__law_names : Addr
  d__law_names : FuncData
  f_is_name : Addr
  d_is_name : FuncData
  f_InvalidName_init : Addr
  d_InvalidName_init : FuncData
  f_Seat_init : Addr
  d_Seat_init : FuncData
  f_is_number : Addr
  d_is_number : FuncData
  ds_is_number_1 : List Value
  f_InvalidNumber_init : Addr
  d_InvalidNumber_init : FuncData
  f_Thing_init : Addr
  d_Thing_init : FuncData
  cc_Thing_init : Addr
  cd_Thing_init : Addr
  f_Peg_init : Addr
  d_Peg_init : FuncData
  cc_Peg_init : Addr
  cd_Peg_init : Addr
  f__law_same : Addr
  d__law_same : FuncData
  f_Seat_text : Addr
  d_Seat_text : FuncData
  f_Thing_text : Addr
  d_Thing_text : FuncData
  f_Seat_repr : Addr
  d_Seat_repr : FuncData
  f_Thing_number : Addr
  d_Thing_number : FuncData
  q_Thing_number : Addr
  f_Seat_label : Addr
  d_Seat_label : FuncData
  q_Seat_label : Addr
  f_Thing_eq : Addr
  d_Thing_eq : FuncData
  f_Seat_eq : Addr
  d_Seat_eq : FuncData
  f__law_odd : Addr
  d__law_odd : FuncData
  f_law : Addr
  C_Peg : Addr
  C_Seat : Addr
  C_Thing : Addr
  tv_Seat_KIND : Tok
  tv_Thing_KIND : Tok
  tk_Peg_KIND : Tok
  tk_Seat_KIND : Tok
  tk_Thing_KIND : Tok
  C_InvalidName : Addr
  C_InvalidNumber : Addr
  C_LumpError : Addr
  C_Missing : Addr
  C_NothingLeft : Addr
  g_Peg_init_name : List Value → List Value → List Value
  g_Thing_init_number_name : List Value → List Value → List Value
  t_MOST_LETTERS : Tok
structure Fx (P : Program) (K : PySem.W.Frag) (mg : Str → Option Value) (A : Ad) : Prop where
  F__law_field : Fun K "_law_field" "_law_field" s__law_field A.f__law_field A.d__law_field
  b__law_field : Binds K A.d__law_field ["_law_e"] []
  m__law_field : mg "_law_field" = some (.ref A.f__law_field)
  F__law_why : Fun K "_law_why" "_law_why" s__law_why A.f__law_why A.d__law_why
  b__law_why : Binds K A.d__law_why ["_law_ask"] []
  m__law_why : mg "_law_why" = some (.ref A.f__law_why)
  F__law_whys : Fun K "_law_whys" "_law_whys" s__law_whys A.f__law_whys A.d__law_whys
  b__law_whys : Binds K A.d__law_whys ["_law_asks"] []
  m__law_whys : mg "_law_whys" = some (.ref A.f__law_whys)
  F__law_bag : Fun K "_law_bag" "_law_bag" s__law_bag A.f__law_bag A.d__law_bag
  b__law_bag : Binds K A.d__law_bag ["_law_script"] []
  m__law_bag : mg "_law_bag" = some (.ref A.f__law_bag)
  F__law_pull : Fun K "_law_pull" "_law_pull" s__law_pull A.f__law_pull A.d__law_pull
  b__law_pull : Binds K A.d__law_pull ["_law_bag_here", "_law_many"] []
  m__law_pull : mg "_law_pull" = some (.ref A.f__law_pull)
  F__law_pick : Fun K "_law_pick" "_law_pick" s__law_pick A.f__law_pick A.d__law_pick
  b__law_pick : Binds K A.d__law_pick ["_law_bag_here", "_law_rows"] []
  m__law_pick : mg "_law_pick" = some (.ref A.f__law_pick)
  F__law_mixed : Fun K "_law_mixed" "_law_mixed" s__law_mixed A.f__law_mixed A.d__law_mixed
  b__law_mixed : Binds K A.d__law_mixed ["_law_bag_here", "_law_rows"] []
  m__law_mixed : mg "_law_mixed" = some (.ref A.f__law_mixed)
  F__law_numbers : Fun K "_law_numbers" "_law_numbers" s__law_numbers A.f__law_numbers A.d__law_numbers
  b__law_numbers : Binds K A.d__law_numbers ["_law_bag_here", "_law_many"] []
  m__law_numbers : mg "_law_numbers" = some (.ref A.f__law_numbers)
  F__law_names : Fun K "_law_names" "_law_names" s__law_names A.f__law_names A.d__law_names
  b__law_names : Binds K A.d__law_names ["_law_bag_here", "_law_many"] []
  m__law_names : mg "_law_names" = some (.ref A.f__law_names)
  F_is_name : Fun K "is_name" "is_name" s_is_name A.f_is_name A.d_is_name
  b_is_name : Binds K A.d_is_name ["value"] []
  m_is_name : mg "is_name" = some (.ref A.f_is_name)
  F_InvalidName_init : Fun K "__init__" "InvalidName.__init__" s_InvalidName_init A.f_InvalidName_init A.d_InvalidName_init
  b_InvalidName_init : Binds K A.d_InvalidName_init ["self", "given"] []
  F_Seat_init : Fun K "__init__" "Seat.__init__" s_Seat_init A.f_Seat_init A.d_Seat_init
  b_Seat_init : Binds K A.d_Seat_init ["self", "name"] []
  F_is_number : FunD K "is_number" "is_number" (defArgs s_is_number) (defBody s_is_number) (defScope s_is_number) [(.int 0), (.int 999999999999999999)] [] A.f_is_number A.d_is_number
  b_is_number_1 : Binds K A.d_is_number ["value", "least", "most"] A.ds_is_number_1
  v_is_number_1 : Vals [(.int 0), (.int 999999999999999999)] A.ds_is_number_1
  m_is_number : mg "is_number" = some (.ref A.f_is_number)
  F_InvalidNumber_init : Fun K "__init__" "InvalidNumber.__init__" s_InvalidNumber_init A.f_InvalidNumber_init A.d_InvalidNumber_init
  b_InvalidNumber_init : Binds K A.d_InvalidNumber_init ["self", "given"] []
  F_Thing_init : FunS P K "__init__" "Thing.__init__" s_Thing_init A.cc_Thing_init A.cd_Thing_init A.C_Thing A.f_Thing_init A.d_Thing_init
  b_Thing_init : Binds K A.d_Thing_init ["self", "name", "number"] []
  F_Peg_init : FunS P K "__init__" "Peg.__init__" s_Peg_init A.cc_Peg_init A.cd_Peg_init A.C_Peg A.f_Peg_init A.d_Peg_init
  b_Peg_init : Binds K A.d_Peg_init ["self", "name"] []
  F__law_same : Fun K "_law_same" "_law_same" s__law_same A.f__law_same A.d__law_same
  b__law_same : Binds K A.d__law_same ["_law_found", "_law_due"] []
  m__law_same : mg "_law_same" = some (.ref A.f__law_same)
  F_Seat_text : Fun K "text" "Seat.text" s_Seat_text A.f_Seat_text A.d_Seat_text
  b_Seat_text : Binds K A.d_Seat_text ["self"] []
  F_Thing_text : Fun K "text" "Thing.text" s_Thing_text A.f_Thing_text A.d_Thing_text
  b_Thing_text : Binds K A.d_Thing_text ["self"] []
  F_Seat_repr : Fun K "__repr__" "Seat.__repr__" s_Seat_repr A.f_Seat_repr A.d_Seat_repr
  b_Seat_repr : Binds K A.d_Seat_repr ["self"] []
  F_Thing_number : Fun K "number" "Thing.number" s_Thing_number A.f_Thing_number A.d_Thing_number
  b_Thing_number : Binds K A.d_Thing_number ["self"] []
  F_Seat_label : Fun K "label" "Seat.label" s_Seat_label A.f_Seat_label A.d_Seat_label
  b_Seat_label : Binds K A.d_Seat_label ["self"] []
  F_Thing_eq : Fun K "__eq__" "Thing.__eq__" s_Thing_eq A.f_Thing_eq A.d_Thing_eq
  b_Thing_eq : Binds K A.d_Thing_eq ["self", "other"] []
  F_Seat_eq : Fun K "__eq__" "Seat.__eq__" s_Seat_eq A.f_Seat_eq A.d_Seat_eq
  b_Seat_eq : Binds K A.d_Seat_eq ["self", "other"] []
  F__law_odd : Fun K "_law_odd" "_law_odd" s__law_odd A.f__law_odd A.d__law_odd
  b__law_odd : Binds K A.d__law_odd ["_law_bag_here"] []
  m__law_odd : mg "_law_odd" = some (.ref A.f__law_odd)
  n_Peg : clsAt K "Peg" = A.C_Peg
  m_Peg : mg "Peg" = some (.ref A.C_Peg)
  c_Peg : Cls K A.C_Peg
  k_Peg : Mk K A.C_Peg A.f_Peg_init
  n_Seat : clsAt K "Seat" = A.C_Seat
  m_Seat : mg "Seat" = some (.ref A.C_Seat)
  c_Seat : Cls K A.C_Seat
  k_Seat : Mk K A.C_Seat A.f_Seat_init
  n_Thing : clsAt K "Thing" = A.C_Thing
  m_Thing : mg "Thing" = some (.ref A.C_Thing)
  c_Thing : Cls K A.C_Thing
  k_Thing : Mk K A.C_Thing A.f_Thing_init
  p_Peg_label : PropOf K A.C_Peg "label" A.q_Seat_label A.f_Seat_label
  p_Thing_label : PropOf K A.C_Thing "label" A.q_Seat_label A.f_Seat_label
  p_Thing_number : PropOf K A.C_Thing "number" A.q_Thing_number A.f_Thing_number
  v_Peg_IS_LOOKED_AT : ClX.CVal K A.C_Peg (.type "type") "IS_LOOKED_AT" (.bl false) (.bool false)
  v_Seat_KIND : ClX.CVal K A.C_Seat (.type "type") "KIND" (.str "seat") (.str "seat" A.tv_Seat_KIND)
  v_Thing_KIND : ClX.CVal K A.C_Thing (.type "type") "KIND" (.str "thing") (.str "thing" A.tv_Thing_KIND)
  r_Peg : ClX.CRead K A.C_Peg (.type "type")
  r_Seat : ClX.CRead K A.C_Seat (.type "type")
  r_Thing : ClX.CRead K A.C_Thing (.type "type")
  k_Peg_IS_LOOKED_AT : Con K A.C_Peg "IS_LOOKED_AT" (.bl false) (.bool false)
  k_Peg_KIND : Con K A.C_Peg "KIND" (.str "peg") (.str "peg" A.tk_Peg_KIND)
  k_Seat_IS_LOOKED_AT : Con K A.C_Seat "IS_LOOKED_AT" (.bl false) (.bool false)
  k_Seat_KIND : Con K A.C_Seat "KIND" (.str "seat") (.str "seat" A.tk_Seat_KIND)
  k_Thing_IS_LOOKED_AT : Con K A.C_Thing "IS_LOOKED_AT" (.bl true) (.bool true)
  k_Thing_KIND : Con K A.C_Thing "KIND" (.str "thing") (.str "thing" A.tk_Thing_KIND)
  u_Peg_init_Peg : SupAt K A.C_Peg A.C_Peg A.f_Seat_init
  u_Thing_init_Thing : SupAt K A.C_Thing A.C_Thing A.f_Seat_init
  isa : IsaTOk K isT
  a_Peg__name : NoAttr K A.C_Peg "_name"
  a_Seat__name : NoAttr K A.C_Seat "_name"
  a_Thing__name : NoAttr K A.C_Thing "_name"
  a_Thing__number : NoAttr K A.C_Thing "_number"
  M_Peg_text : Meth K A.C_Peg "text" A.f_Seat_text
  M_Seat_text : Meth K A.C_Seat "text" A.f_Seat_text
  M_Thing_text : Meth K A.C_Thing "text" A.f_Thing_text
  h_Peg_eq : PySem.W.findIn K (.ref A.C_Peg) "__eq__" = some (some (.ref A.f_Seat_eq))
  hf_Peg_eq : PySem.W.isFn K (.ref A.f_Seat_eq) = true
  h_Peg_repr : PySem.W.findIn K (.ref A.C_Peg) "__repr__" = some (some (.ref A.f_Seat_repr))
  hf_Peg_repr : PySem.W.isFn K (.ref A.f_Seat_repr) = true
  h_Thing_eq : PySem.W.findIn K (.ref A.C_Thing) "__eq__" = some (some (.ref A.f_Thing_eq))
  hf_Thing_eq : PySem.W.isFn K (.ref A.f_Thing_eq) = true
  h_Thing_repr : PySem.W.findIn K (.ref A.C_Thing) "__repr__" = some (some (.ref A.f_Seat_repr))
  hf_Thing_repr : PySem.W.isFn K (.ref A.f_Seat_repr) = true
  eqT : EqTOk K eqOO eqOB
  ne_Thing : PySem.W.findIn K (.ref A.C_Thing) "__ne__" = some (some (.builtin "object.__ne__"))
  ob_Thing : PySem.W.subIn K (.ref A.C_Thing) (.type "object") = some true
  n_InvalidName : clsAt K "InvalidName" = A.C_InvalidName
  m_InvalidName : mg "InvalidName" = some (.ref A.C_InvalidName)
  n_InvalidNumber : clsAt K "InvalidNumber" = A.C_InvalidNumber
  m_InvalidNumber : mg "InvalidNumber" = some (.ref A.C_InvalidNumber)
  n_LumpError : clsAt K "LumpError" = A.C_LumpError
  m_LumpError : mg "LumpError" = some (.ref A.C_LumpError)
  n_Missing : clsAt K "Missing" = A.C_Missing
  m_Missing : mg "Missing" = some (.ref A.C_Missing)
  n_NothingLeft : clsAt K "NothingLeft" = A.C_NothingLeft
  m_NothingLeft : mg "NothingLeft" = some (.ref A.C_NothingLeft)
  xr_InvalidName : ExR K A.C_InvalidName A.f_InvalidName_init "given"
  xe_InvalidName : PySem.W.exmAny K (.ref A.C_InvalidName) [.ref A.C_LumpError, .ref A.C_Missing, .ref A.C_NothingLeft] = some true
  xr_InvalidNumber : ExR K A.C_InvalidNumber A.f_InvalidNumber_init "given"
  xe_InvalidNumber : PySem.W.exmAny K (.ref A.C_InvalidNumber) [.ref A.C_LumpError, .ref A.C_Missing, .ref A.C_NothingLeft] = some true
  kb_Peg_init_name : KBn K A.d_Peg_init ["self", "name"] 1 ["name"] A.g_Peg_init_name fun vs zs => vs ++ permA [0] zs
  kb_Thing_init_number_name : KBn K A.d_Thing_init ["self", "name", "number"] 1 ["number", "name"] A.g_Thing_init_number_name fun vs zs => vs ++ permA [1, 0] zs
  z_all : mg "all" = none
  z_bool : mg "bool" = none
  z_int : mg "int" = none
  z_isinstance : mg "isinstance" = none
  z_len : mg "len" = none
  z_list : mg "list" = none
  z_range : mg "range" = none
  z_repr : mg "repr" = none
  z_str : mg "str" = none
  z_tuple : mg "tuple" = none
  z_zip : mg "zip" = none
  g_MOST_LETTERS : mg "MOST_LETTERS" = some (.int 8 A.t_MOST_LETTERS)
section
variable {P : Program} {w : World} {K : PySem.W.Frag} {mg : Str → Option Value} {base : Heap} {A : Ad}
theorem ok__law_bag (T : Fx P K mg A) : FnOk P w K mg base CX0 1 A.f__law_bag A.d__law_bag ["_law_script"] (spP K W_bag) := okB (ok_bag T.F__law_bag ⟨T.z_len, T.z_int⟩)
theorem ok__law_pull (T : Fx P K mg A) : FnOk P w K mg base CX0 1 A.f__law_pull A.d__law_pull ["_law_bag_here", "_law_many"] (spP K W_pull) := okQ (ok_pull T.F__law_pull ⟨T.z_len, T.z_int⟩)
theorem sc__law_pick : FnScope ["_law_bag_here", "_law_rows"] ["_law_bag_here", "_law_rows"] (defScope s__law_pick) := ⟨rfl, rfl, rfl, by decide +kernel, rfl, by decide +kernel, by decide +kernel⟩
def W__law_pick : FW := defW 2 0 (sRet (eOp gIx (eVar 1) (eCallC (gBag W_pull []) (aCons (eVar 0) (aCons (eCall gLen (aCons (eVar 1) aNil)) aNil)))))
theorem ok__law_pick (T : Fx P K mg A) : FnOk P w K mg base CX0 2 A.f__law_pick A.d__law_pick ["_law_bag_here", "_law_rows"] (spP K W__law_pick) :=
  okP T.F__law_pick sc__law_pick rfl rfl fun cdv A0 outer s H E hr =>
 (xss_one (xs_ret (xix ix_seq snd_ix (xvar (pv 1)) (xcall (snd_bag0 .nil) (ok__law_pull T) (hr.mono (by decide)) (by rfl) T.m__law_pull T.F__law_pull.kp T.b__law_pull .nil pass0 (xa_cons (xvar (pv 0)) (xa_cons (xcallB call_len snd_len (by rfl) T.z_len PySem.boot_len (xa_cons (xvar (pv 1)) xa_nil)) xa_nil))) (fun _ _ => rfl))))
theorem sc__law_mixed : FnScope ["_law_bag_here", "_law_rows", "_law_found", "_law_item"] ["_law_bag_here", "_law_rows"] (defScope s__law_mixed) := ⟨rfl, rfl, rfl, by decide +kernel, rfl, by decide +kernel, by decide +kernel⟩
def F__law_mixed_0 : FS := (sExpr (eBM tyL gInsert (eVar 2) (aCons (eCallC (gBag W_pull []) (aCons (eVar 0) (aCons (eOp (gD2 dAdd) (eCall gLen (aCons (eVar 2) aNil)) (eC (.int 1))) aNil))) (aCons (eVar 3) aNil))))
def W__law_mixed : FW := defW 2 2 (sSeq (sAsg (eLstM aNil) (gN 2)) (sSeq (sForC [3] (iLst (eVar 1)) (gN 3) F__law_mixed_0) (sFrz 2 (sRet (eVar 2)))))
theorem ok__law_mixed (T : Fx P K mg A) : FnOk P w K mg base CX0 2 A.f__law_mixed A.d__law_mixed ["_law_bag_here", "_law_rows"] (spP K W__law_mixed) :=
  okP T.F__law_mixed sc__law_mixed rfl rfl fun cdv A0 outer s H E hr =>
 (xss_cons (xs_set (i := 2) sc__law_mixed.nd rfl (Or.inl rfl) (x_lstM xa_nil))
 (xss_cons (xs_forC [3] PassesOwn.never rfl (xi_list (xvar (pv 1))) (xg_name (pg_name (i := 3) sc__law_mixed.nd rfl (Or.inl rfl)))
 (xss_one (xs_expr (xbm snd_insert snd_tyL (xvar (pv 2)) (xa_cons (xcall (snd_bag0 .nil) (ok__law_pull T) (hr.mono (by decide)) (by rfl) T.m__law_pull T.F__law_pull.kp T.b__law_pull .nil pass0 (xa_cons (xvar (pv 0)) (xa_cons (xop op_addA snd_add (xcallB call_len snd_len (by rfl) T.z_len PySem.boot_len (xa_cons (xvar (pv 2)) xa_nil)) xint) xa_nil))) (xa_cons (xvar (pv 3)) xa_nil)) fun p q => pe_bm PySem.F.plainAttrs_list PySem.F.slot_list_insert PySem.F.type_list_insert mt_insert p q))))
 (xs_frz (i := 2) (xss_one (xs_ret (xvar (pv 2)))))))
theorem sc__law_numbers : FnScope ["_law_bag_here", "_law_many", "_law_gap", "_law_low", "_law_k"] ["_law_bag_here", "_law_many"] (defScope s__law_numbers) := ⟨rfl, rfl, rfl, by decide +kernel, rfl, by decide +kernel, by decide +kernel⟩
def W__law_numbers : FW := defW 2 3 (sSeq (sAsg (eCallC (gBag W__law_pick []) (aCons (eVar 0) (aCons (eLst (aCons (eC (.int 1)) (aCons (eC (.int 1)) (aCons (eC (.int 3)) (aCons (eOp (gD2 dAdd) (eC (.int 1)) (eCallC (gBag W_pull []) (aCons (eVar 0) (aCons (eOp (gD2 dPow) (eC (.int 10)) (eC (.int 9))) aNil)))) aNil))))) aNil))) (gN 2)) (sSeq (sAsg (eCallC (gBag W__law_pick []) (aCons (eVar 0) (aCons (eLst (aCons (eC (.int 0)) (aCons (eCallC (gBag W_pull []) (aCons (eVar 0) (aCons (eC (.int 1000)) aNil))) (aCons (eOp (gD2 dSub) (eOp (gD2 dSub) (eOp (gD2 dPow) (eC (.int 10)) (eC (.int 18))) (eC (.int 1))) (eOp (gD2 dMul) (eVar 2) (eVar 1))) (aCons (eCallC (gBag W_pull []) (aCons (eVar 0) (aCons (eOp (gD2 dPow) (eC (.int 10)) (eC (.int 17))) aNil))) aNil))))) aNil))) (gN 3)) (sRet (eCallC (gBag W__law_mixed []) (aCons (eVar 0) (aCons (eLc (iRng1P (aCons (eVar 1) aNil)) (gN 4) tYesP (eOp (gD2 dAdd) (eVar 3) (eOp (gD2 dMul) (eVar 2) (eVar 4))) [4]) aNil))))))
theorem ok__law_numbers (T : Fx P K mg A) : FnOk P w K mg base CX0 3 A.f__law_numbers A.d__law_numbers ["_law_bag_here", "_law_many"] (spP K W__law_numbers) :=
  okP T.F__law_numbers sc__law_numbers rfl rfl fun cdv A0 outer s H E hr =>
 (xss_cons (xs_set (i := 2) sc__law_numbers.nd rfl (Or.inr rfl) (xcall (snd_bag0 .nil) (ok__law_pick T) (hr.mono (by decide)) (by rfl) T.m__law_pick T.F__law_pick.kp T.b__law_pick .nil pass0 (xa_cons (xvar (pv 0)) (xa_cons (x_lst (xa_cons xint (xa_cons xint (xa_cons xint (xa_cons (xop op_addA snd_add xint (xcall (snd_bag0 .nil) (ok__law_pull T) (hr.mono (by decide)) (by rfl) T.m__law_pull T.F__law_pull.kp T.b__law_pull .nil pass0 (xa_cons (xvar (pv 0)) (xa_cons (xop op_pow snd_pow xint xint) xa_nil)))) xa_nil))))) xa_nil))))
 (xss_cons (xs_set (i := 3) sc__law_numbers.nd rfl (Or.inr rfl) (xcall (snd_bag0 .nil) (ok__law_pick T) (hr.mono (by decide)) (by rfl) T.m__law_pick T.F__law_pick.kp T.b__law_pick .nil pass0 (xa_cons (xvar (pv 0)) (xa_cons (x_lst (xa_cons xint (xa_cons (xcall (snd_bag0 .nil) (ok__law_pull T) (hr.mono (by decide)) (by rfl) T.m__law_pull T.F__law_pull.kp T.b__law_pull .nil pass0 (xa_cons (xvar (pv 0)) (xa_cons xint xa_nil))) (xa_cons (xop op_sub snd_sub (xop op_sub snd_sub (xop op_pow snd_pow xint xint) xint) (xop op_mul snd_mul (xvar (pv 2)) (xvar (pv 1)))) (xa_cons (xcall (snd_bag0 .nil) (ok__law_pull T) (hr.mono (by decide)) (by rfl) T.m__law_pull T.F__law_pull.kp T.b__law_pull .nil pass0 (xa_cons (xvar (pv 0)) (xa_cons (xop op_pow snd_pow xint xint) xa_nil))) xa_nil))))) xa_nil))))
 (xss_one (xs_ret (xcall (snd_bag0 .nil) (ok__law_mixed T) (hr.mono (by decide)) (by rfl) T.m__law_mixed T.F__law_mixed.kp T.b__law_mixed .nil pass0 (xa_cons (xvar (pv 0)) (xa_cons (x_lc (own := [("_law_k", 4)]) rfl sc__law_numbers.nd (xi_range1 (by rfl) T.z_range (xa_cons (xvar (pv 1)) xa_nil)) (blkOk_by (own := [("_law_k", 4)]) (N := ["_law_bag_here", "_law_many", "_law_gap", "_law_low", "_law_k"]) (sc := defScope s__law_numbers) (by decide +kernel)) (by decide) (fun _ => (xg_name (pg_name (i := 4) sc__law_numbers.nd rfl (Or.inl rfl)))) (fun _ => xifs_nil) (fun _ => (xop op_addA snd_add (xvar (pv 3)) (xop op_mul snd_mul (xvar (pv 2)) (xvar (pv 4)))))) xa_nil)))))))
theorem sc__law_names : FnScope ["_law_bag_here", "_law_many", "_law_letters", "_law_stem", "_law_at", "_law_first", "_law_k"] ["_law_bag_here", "_law_many"] (defScope s__law_names) := ⟨rfl, rfl, rfl, by decide +kernel, rfl, by decide +kernel, by decide +kernel⟩
def W__law_names : FW := defW 2 5 (sSeq (sAsg (eC (.str "abcdefghijklmnopqrstuvwxyz")) (gN 2)) (sSeq (sAsg (eBM tyS gJoin (eC (.str "")) (aCons (eLc (iRng1P (aCons (eCallC (gBag W__law_pick []) (aCons (eVar 0) (aCons (eLst (aCons (eC (.int 0)) (aCons (eC (.int 0)) (aCons (eC (.int 1)) (aCons (eC (.int 3)) (aCons (eC (.int 7)) aNil)))))) aNil))) aNil)) (gN 6) tYesP (eCallC (gBag W__law_pick []) (aCons (eVar 0) (aCons (eVar 2) aNil))) [6]) aNil)) (gN 3)) (sSeq (sAsg (eTup (aCons (eCallC (gBag W_pull []) (aCons (eVar 0) (aCons (eOp (gD2 dAdd) (eCall gLen (aCons (eVar 3) aNil)) (eC (.int 1))) aNil))) (aCons (eCallC (gBag W_pull []) (aCons (eVar 0) (aCons (eC (.int 26)) aNil))) aNil))) (gT 2 (gsC (gN 4) (gsC (gN 5) gsN)))) (sRet (eLc (iRng1P (aCons (eVar 1) aNil)) (gN 6) tYesP (eOp (gD2 dAdd) (eOp (gD2 dAdd) (eSl (eVar 3) oNone (oSome (eVar 4))) (eOp gIx (eVar 2) (eOp (gD2 dMod) (eCall gInt (aCons (eOp (gD2 dAdd) (eVar 5) (eOp (gD2 dMul) (eC (.int 5)) (eVar 6))) aNil)) (eC (.int 26))))) (eSl (eVar 3) (oSome (eVar 4)) oNone)) [6])))))
theorem ok__law_names (T : Fx P K mg A) : FnOk P w K mg base CX0 3 A.f__law_names A.d__law_names ["_law_bag_here", "_law_many"] (spP K W__law_names) :=
  okP T.F__law_names sc__law_names rfl rfl fun cdv A0 outer s H E hr =>
 (xss_cons (xs_set (i := 2) sc__law_names.nd rfl (Or.inr rfl) xstr)
 (xss_cons (xs_set (i := 3) sc__law_names.nd rfl (Or.inr rfl) (xjoin xstr (x_lc (own := [("_law_k", 6)]) rfl sc__law_names.nd (xi_range1 (by rfl) T.z_range (xa_cons (xcall (snd_bag0 .nil) (ok__law_pick T) (hr.mono (by decide)) (by rfl) T.m__law_pick T.F__law_pick.kp T.b__law_pick .nil pass0 (xa_cons (xvar (pv 0)) (xa_cons (x_lst (xa_cons xint (xa_cons xint (xa_cons xint (xa_cons xint (xa_cons xint xa_nil)))))) xa_nil))) xa_nil)) (blkOk_by (own := [("_law_k", 6)]) (N := ["_law_bag_here", "_law_many", "_law_letters", "_law_stem", "_law_at", "_law_first", "_law_k"]) (sc := defScope s__law_names) (by decide +kernel)) (by decide) (fun _ => (xg_name (pg_name (i := 6) sc__law_names.nd rfl (Or.inl rfl)))) (fun _ => xifs_nil) (fun _ => (xcall (snd_bag0 .nil) (ok__law_pick T) (hr.mono (by decide)) (by rfl) T.m__law_pick T.F__law_pick.kp T.b__law_pick .nil pass0 (xa_cons (xvar (pv 0)) (xa_cons (xvar (pv 2)) xa_nil))))) fun p q => pe_join p q))
 (xss_cons (xs_asg (x_tup (xa_cons (xcall (snd_bag0 .nil) (ok__law_pull T) (hr.mono (by decide)) (by rfl) T.m__law_pull T.F__law_pull.kp T.b__law_pull .nil pass0 (xa_cons (xvar (pv 0)) (xa_cons (xop op_addA snd_add (xcallB call_len snd_len (by rfl) T.z_len PySem.boot_len (xa_cons (xvar (pv 3)) xa_nil)) xint) xa_nil))) (xa_cons (xcall (snd_bag0 .nil) (ok__law_pull T) (hr.mono (by decide)) (by rfl) T.m__law_pull T.F__law_pull.kp T.b__law_pull .nil pass0 (xa_cons (xvar (pv 0)) (xa_cons xint xa_nil))) xa_nil))) (xg_tup rfl (xgs_cons (xg_name (pg_name (i := 4) sc__law_names.nd rfl (Or.inr rfl))) (xgs_cons (xg_name (pg_name (i := 5) sc__law_names.nd rfl (Or.inr rfl))) xgs_nil))))
 (xss_one (xs_ret (x_lc (own := [("_law_k", 6)]) rfl sc__law_names.nd (xi_range1 (by rfl) T.z_range (xa_cons (xvar (pv 1)) xa_nil)) (blkOk_by (own := [("_law_k", 6)]) (N := ["_law_bag_here", "_law_many", "_law_letters", "_law_stem", "_law_at", "_law_first", "_law_k"]) (sc := defScope s__law_names) (by decide +kernel)) (by decide) (fun _ => (xg_name (pg_name (i := 6) sc__law_names.nd rfl (Or.inl rfl)))) (fun _ => xifs_nil) (fun _ => (xop op_addA snd_add (xop op_addA snd_add (xsl (xvar (pv 3)) xo_none (xo_some (xvar (pv 4)))) (xix ix_seq snd_ix (xvar (pv 2)) (xop op_mod snd_mod (xcallTy call_intA snd_int (by rfl) T.z_int PyProof.Rows.boot_int (xa_cons (xop op_addA snd_add (xvar (pv 5)) (xop op_mul snd_mul xint (xvar (pv 6)))) xa_nil)) xint) (fun _ _ => rfl))) (xsl (xvar (pv 3)) (xo_some (xvar (pv 4))) xo_none)))))))))
theorem sc_is_name : FnScope ["value"] ["value"] (defScope s_is_name) := ⟨rfl, rfl, rfl, by decide +kernel, rfl, by decide +kernel, by decide +kernel⟩
def W_is_name : FW := defW 1 0 (sSeq (sIf (tOrP (tNotP (tOf (eCall (gIsi isa0) (aCons (eVar 0) (aCons (eC (.ty "str")) aNil))))) (tBl (eOp (gD2 (dCmp fun i j => decide (j < i))) (eCall gLen (aCons (eVar 0) aNil)) (eC (.int 8))))) (sRet (eC (.bl false))) sNext) (sRet (eAnd (eBM tyS (gStrP Txt.isascii) (eVar 0) aNil) (eAnd (eBM tyS (gStrP Txt.isalpha) (eVar 0) aNil) (eBM tyS (gStrP Txt.islower) (eVar 0) aNil)))))
theorem ok_is_name (T : Fx P K mg A) : FnOk P w K mg base CX0 1 A.f_is_name A.d_is_name ["value"] (spP K W_is_name) :=
  okP T.F_is_name sc_is_name rfl rfl fun cdv A0 outer s H E hr =>
 (xss_cons (xs_if (xt_w (xw_or (xt_not (xt_val (xcallB call_isi (snd_isi isa0_ok) (by rfl) T.z_isinstance PyProof.Rows.boot_isinstance (xa_cons (xvar (pv 0)) (xa_cons (xc (pe_bltn (v := .ty "str") (by rfl) T.z_str PyProof.Rows.boot_str rfl) fun _ => .ty _) xa_nil))) (by intro _; rfl))) (xw_or1 (xt_cmp op_gt snd_cmp (xcallB call_len snd_len (by rfl) T.z_len PySem.boot_len (xa_cons (xvar (pv 0)) xa_nil)) (xc (pe_glob (v := (.int 8)) (by rfl) T.g_MOST_LETTERS ⟨_, rfl⟩) fun _ => .int _) (nomark _)))))
 (xss_one (xs_ret xbl))
 xss_nil)
 (xss_one (xs_ret (x_and (xbm0 (snd_strP _) snd_tyS (xvar (pv 0)) fun p => pe_bm0 PySem.F.plainAttrs_str PySem.F.slot_str_isascii PySem.F.type_str_isascii mt_isascii p) (x_and (xbm0 (snd_strP _) snd_tyS (xvar (pv 0)) fun p => pe_bm0 PySem.F.plainAttrs_str PySem.F.slot_str_isalpha PySem.F.type_str_isalpha mt_isalpha p) (x_one (xbm0 (snd_strP _) snd_tyS (xvar (pv 0)) fun p => pe_bm0 PySem.F.plainAttrs_str PySem.F.slot_str_islower PySem.F.type_str_islower mt_islower p)))))))
theorem sc_InvalidName_init : FnScope ["self", "given"] ["self", "given"] (defScope s_InvalidName_init) := ⟨rfl, rfl, rfl, by decide +kernel, rfl, by decide +kernel, by decide +kernel⟩
theorem xi_InvalidName (T : Fx P K mg A) : FnOk P w K mg base CX0 1 A.f_InvalidName_init A.d_InvalidName_init ["self", "given"] (Ex.spX A.C_InvalidName "given" "InvalidName") :=
  T.F_InvalidName_init.ok sc_InvalidName_init (fun vs H Q E ⟨a, v, e, _⟩ => by rw [e]; rfl) fun cdv A0 outer s H vs Q E hr ⟨a, v, e, ha, k⟩ =>
    ⟨_, PSs.nox (pss_cons (Ex.ps_xst (pv 0) (pv 1)) (pss_one (Ex.ps_xst (pv 0) pe_str))), by
      subst e
      refine ⟨_, rfl, _, rfl, a, A.C_InvalidName, rfl, T.xr_InvalidName.s, T.xr_InvalidName.nf, .inl ⟨ha, fun dx nd ne => ⟨_, rfl, a, A.C_InvalidName, rfl, T.xr_InvalidName.s, T.xr_InvalidName.nc, .inr ⟨dx, _, upd_same, (upd_ne ne).trans upd_same, by show 1 ≤ 900; decide, ?_⟩⟩⟩⟩
      exact k dx _ nd ne (fun b o nb hb => (upd_ne (ne_of_none hb nd)).trans ((upd_ne nb).trans ((upd_ne (ne_of_none hb nd)).trans hb))) ((upd_ne ne.symm).trans upd_same) upd_same⟩
theorem sc_Seat_init : FnScope ["self", "name"] ["self", "name"] (defScope s_Seat_init) := ⟨rfl, rfl, rfl, by decide +kernel, rfl, by decide +kernel, by decide +kernel⟩
def W_Seat_init : FW := defW 2 0 (sSeq (sIf (tNotP (tOf (eCallC (gPure W_is_name []) (aCons (eVar 1) aNil)))) (sRaise "InvalidName" "given" (eVar 1)) sNext) (sFldA ["Seat", "Thing", "Peg"] "_name" (eVar 0) (eVar 1)))
theorem okX_Seat_init (T : Fx P K mg A) : FnOk P w K mg base (L2.CX P w) 3 A.f_Seat_init A.d_Seat_init ["self", "name"] (spX K W_Seat_init) :=
  okX T.F_Seat_init sc_Seat_init rfl rfl fun cdv A0 outer s H E hr =>
 (xss_cons (xs_if (xt_not (xt_val (xcall (snd_pure0 .nil) (ok_is_name T) (hr.mono (by decide)) (by rfl) T.m_is_name T.F_is_name.kp T.b_is_name .nil pass0 (xa_cons (xvar (pv 1)) xa_nil)) (by intro _; rfl)))
 (xss_one (xs_raise (C := A.C_InvalidName) T.n_InvalidName T.xr_InvalidName.o T.xr_InvalidName.i T.xr_InvalidName.t (rawX (xi_InvalidName T) T.b_InvalidName_init) (hr.mono (by decide)) T.m_InvalidName (by rfl) rfl (takes_of rfl rfl rfl rfl) (xvar (pv 1))))
 xss_nil)
 (xss_one (xs_fldA (AllI.all (.cons (fldok T.n_Seat T.c_Seat T.a_Seat__name) (.cons (fldok T.n_Thing T.c_Thing T.a_Thing__name) (.cons (fldok T.n_Peg T.c_Peg T.a_Peg__name) .nil)))) (xvar (pv 0)) (xvar (pv 1)) rfl)))
theorem ok_Seat_init (T : Fx P K mg A) : FnOk P w K mg base CX0 3 A.f_Seat_init A.d_Seat_init ["self", "name"] (spP K W_Seat_init) := calmX (okX_Seat_init T)
theorem sc_is_number : FnScope ["value", "least", "most"] ["value", "least", "most"] (defScope s_is_number) := ⟨rfl, rfl, rfl, by decide +kernel, rfl, by decide +kernel, by decide +kernel⟩
def W_is_number : FW := defW 3 0 (sRet (eAnd (eCall (gIsi isa0) (aCons (eVar 0) (aCons (eC (.ty "int")) aNil))) (eAnd (eNot (eCall (gIsi isa0) (aCons (eVar 0) (aCons (eC (.ty "bool")) aNil)))) (eChain (gD2 (dCmp fun i j => decide (i ≤ j))) (gD2 (dCmp fun i j => decide (i ≤ j))) (eVar 1) (eVar 0) (eVar 2)))))
theorem ok_is_number (T : Fx P K mg A) : FnOk P w K mg base CX0 1 A.f_is_number A.d_is_number ["value", "least", "most"] (spP K W_is_number) :=
  okPD T.F_is_number sc_is_number rfl rfl fun cdv A0 outer s H E hr =>
 (xss_one (xs_ret (x_and (xcallB call_isi (snd_isi isa0_ok) (by rfl) T.z_isinstance PyProof.Rows.boot_isinstance (xa_cons (xvar (pv 0)) (xa_cons (xc (pe_bltn (v := .ty "int") (by rfl) T.z_int PyProof.Rows.boot_int rfl) fun _ => .ty _) xa_nil))) (x_and (x_not (xcallB call_isi (snd_isi isa0_ok) (by rfl) T.z_isinstance PyProof.Rows.boot_isinstance (xa_cons (xvar (pv 0)) (xa_cons (xc (pe_bltn (v := .ty "bool") (by rfl) T.z_bool PyProof.Rows.boot_bool rfl) fun _ => .ty _) xa_nil)))) (x_one (xchain op_le snd_cmp op_le snd_cmp (xvar (pv 1)) (xvar (pv 0)) (xvar (pv 2))))))))
theorem sc_InvalidNumber_init : FnScope ["self", "given"] ["self", "given"] (defScope s_InvalidNumber_init) := ⟨rfl, rfl, rfl, by decide +kernel, rfl, by decide +kernel, by decide +kernel⟩
theorem xi_InvalidNumber (T : Fx P K mg A) : FnOk P w K mg base CX0 1 A.f_InvalidNumber_init A.d_InvalidNumber_init ["self", "given"] (Ex.spX A.C_InvalidNumber "given" "InvalidNumber") :=
  T.F_InvalidNumber_init.ok sc_InvalidNumber_init (fun vs H Q E ⟨a, v, e, _⟩ => by rw [e]; rfl) fun cdv A0 outer s H vs Q E hr ⟨a, v, e, ha, k⟩ =>
    ⟨_, PSs.nox (pss_cons (Ex.ps_xst (pv 0) (pv 1)) (pss_one (Ex.ps_xst (pv 0) pe_str))), by
      subst e
      refine ⟨_, rfl, _, rfl, a, A.C_InvalidNumber, rfl, T.xr_InvalidNumber.s, T.xr_InvalidNumber.nf, .inl ⟨ha, fun dx nd ne => ⟨_, rfl, a, A.C_InvalidNumber, rfl, T.xr_InvalidNumber.s, T.xr_InvalidNumber.nc, .inr ⟨dx, _, upd_same, (upd_ne ne).trans upd_same, by show 1 ≤ 900; decide, ?_⟩⟩⟩⟩
      exact k dx _ nd ne (fun b o nb hb => (upd_ne (ne_of_none hb nd)).trans ((upd_ne nb).trans ((upd_ne (ne_of_none hb nd)).trans hb))) ((upd_ne ne.symm).trans upd_same) upd_same⟩
theorem sc_Thing_init : NdefX.NScope ["self", "name", "number", "__class__"] ["self", "name", "number"] ["__class__"] (defScope s_Thing_init) := NdefX.nscope_by (by decide +kernel)
def W_Thing_init : FW := supWX 3 0 "Thing" ["Thing"] W_Seat_init (aCons (eVar 1) aNil) (sSeq (sIf (tNotP (tOf (eCallC (gPure W_is_number [(.int 0), (.int 999999999999999999)]) (aCons (eVar 2) aNil)))) (sRaise "InvalidNumber" "given" (eVar 2)) sNext) (sFldP "Thing" "_number" (eVar 0) (eVar 2)))
theorem okX_Thing_init (T : Fx P K mg A) : FnOk P w K mg base (L2.CX P w) 5 A.f_Thing_init A.d_Thing_init ["self", "name", "number"] (spX K W_Thing_init) :=
  okSupX T.F_Thing_init sc_Thing_init T.n_Thing (AllI.all (.cons (supat T.n_Thing T.u_Thing_init_Thing) .nil)) (rawX (okX_Seat_init T) T.b_Seat_init) (by decide) rfl rfl rfl rfl rfl rfl (fun _ => rfl) (fun _ => rfl) (fun _ => ⟨_, rfl⟩) (fun _ => rfl) (fun _ => rfl) fun A0 outer s H E hr =>
 ⟨(xa_cons (xvar (pv 1)) xa_nil),
 (xss_cons (xs_if (xt_not (xt_val (xcall (snd_pure0 (.cons (fun _ => .int _) (.cons (fun _ => .int _) .nil))) (ok_is_number T) (hr.mono (by decide)) (by rfl) T.m_is_number T.F_is_number.kp T.b_is_number_1 T.v_is_number_1 pass0 (xa_cons (xvar (pv 2)) xa_nil)) (by intro _; rfl)))
 (xss_one (xs_raise (C := A.C_InvalidNumber) T.n_InvalidNumber T.xr_InvalidNumber.o T.xr_InvalidNumber.i T.xr_InvalidNumber.t (rawX (xi_InvalidNumber T) T.b_InvalidNumber_init) (hr.mono (by decide)) T.m_InvalidNumber (by rfl) rfl (takes_of rfl rfl rfl rfl) (xvar (pv 2))))
 xss_nil)
 (xss_one (xs_fld (C := A.C_Thing) T.n_Thing T.c_Thing T.a_Thing__number (xvar (pv 0)) (xvar (pv 2)) rfl)))⟩
theorem ok_Thing_init (T : Fx P K mg A) : FnOk P w K mg base CX0 5 A.f_Thing_init A.d_Thing_init ["self", "name", "number"] (spP K W_Thing_init) := calmX (okX_Thing_init T)
theorem sc_Peg_init : NdefX.NScope ["self", "name", "__class__"] ["self", "name"] ["__class__"] (defScope s_Peg_init) := NdefX.nscope_by (by decide +kernel)
def W_Peg_init : FW := supWX 2 0 "Peg" ["Peg"] W_Seat_init (aCons (eVar 1) aNil) sNext
theorem okX_Peg_init (T : Fx P K mg A) : FnOk P w K mg base (L2.CX P w) 5 A.f_Peg_init A.d_Peg_init ["self", "name"] (spX K W_Peg_init) :=
  okSupX T.F_Peg_init sc_Peg_init T.n_Peg (AllI.all (.cons (supat T.n_Peg T.u_Peg_init_Peg) .nil)) (rawX (okX_Seat_init T) T.b_Seat_init) (by decide) rfl rfl rfl rfl rfl rfl (fun _ => rfl) (fun _ => rfl) (fun _ => ⟨_, rfl⟩) (fun _ => rfl) (fun _ => rfl) fun A0 outer s H E hr =>
 ⟨(xa_cons (xvar (pv 1)) xa_nil),
 xss_nil⟩
theorem ok_Peg_init (T : Fx P K mg A) : FnOk P w K mg base CX0 5 A.f_Peg_init A.d_Peg_init ["self", "name"] (spP K W_Peg_init) := calmX (okX_Peg_init T)
/-! what the laws compare: data, equal -/
def dataOk : Nat → D → Bool
  | 0, _ => false
  | _ + 1, .non => true
  | _ + 1, .bl _ => true
  | _ + 1, .int _ => true
  | _ + 1, .str _ => true
  | n + 1, .lst ds => ds.all (dataOk n)
  | n + 1, .tup ds => ds.all (dataOk n)
  | _, _ => false
def W_sameN (n : Nat) : FW := fun bs S _ R => match bs with
  | [.fz a, .fz b] => (a = b ∧ dataOk n a = true) ∧ R (.fz (.bl true)) S
  | _ => False
theorem FnOk.impW {P : Program} {w : World} {K : PySem.W.Frag} {mg : Str → Option Value} {base : Heap} {f : Addr} {fd : FuncData} {ps : List Str} {k : Nat} {W W' : FW} (F : FnOk P w K mg base CX0 k f fd ps (spP K W)) (h : ∀ bs S R, W' bs S noX R → W bs S noX R) : FnOk P w K mg base CX0 k f fd ps (spP K W') :=
  F.imp fun _ _ _ _ ⟨β, S, w, bs, R, e, hR, hb, hW, hk⟩ => ⟨β, S, w, bs, R, e, hR, hb, h bs S R hW, hk⟩
theorem zip_self : ∀ ds : List D, zipD ds ds = ds.map fun d => .tup [d, d]
  | [] => rfl
  | d :: ds => congrArg _ (zip_self ds)
def sameF (n : Nat) : FS := (sSeq (sIf (tOf (eIsiT isa0 [(.ty "list"), (.ty "tuple")] (eVar 1))) (sSeq (sIf (tBl (eOp (gD2 (dEq true)) (eCall (gIsi isa0) (aCons (eVar 0) (aCons (eC (.ty "list")) aNil))) (eCall (gIsi isa0) (aCons (eVar 1) (aCons (eC (.ty "list")) aNil))))) (sRet (eC (.bl false))) sNext) (sSeq (sIf (tBl (eOp (gD2 (dEq true)) (eCall (gIsi isa0) (aCons (eVar 0) (aCons (eC (.ty "tuple")) aNil))) (eCall (gIsi isa0) (aCons (eVar 1) (aCons (eC (.ty "tuple")) aNil))))) (sRet (eC (.bl false))) sNext) (sRet (eAnd (eOp (gD2 (dEq false)) (eCall gLen (aCons (eVar 0) aNil)) (eCall gLen (aCons (eVar 1) aNil))) (eCall gAllL (aCons (eLc (iZipP (aCons (eVar 0) (aCons (eVar 1) aNil))) (gT 2 (gsC (gN 2) (gsC (gN 3) gsN))) tYesP (eCallC (gPure (W_sameN n) []) (aCons (eVar 2) (aCons (eVar 3) aNil))) [2, 3]) aNil)))))) sNext) (sSeq (sIf (tOrP (tBl (eOp (gD2 dIsN) (eVar 1) (eC .non))) (tBl (eOp (gD2 dIsN) (eVar 0) (eC .non)))) (sRet (eAnd (eOp (gD2 dIsN) (eVar 1) (eC .non)) (eOp (gD2 dIsN) (eVar 0) (eC .non)))) sNext) (sSeq (sIf (tBl (eOp (gD2 (dEq true)) (eCall (gIsi isa0) (aCons (eVar 1) (aCons (eC (.ty "bool")) aNil))) (eCall (gIsi isa0) (aCons (eVar 0) (aCons (eC (.ty "bool")) aNil))))) (sRet (eC (.bl false))) sNext) (sSeq (sIf (tBl (eOp (gD2 (dEq true)) (eCall (gIsi isa0) (aCons (eVar 1) (aCons (eC (.ty "int")) aNil))) (eCall (gIsi isa0) (aCons (eVar 0) (aCons (eC (.ty "int")) aNil))))) (sRet (eC (.bl false))) sNext) (sRet (eAnd (eOp (gD2 (dEq false)) (eCall (gIsi isa0) (aCons (eVar 1) (aCons (eC (.ty "str")) aNil))) (eCall (gIsi isa0) (aCons (eVar 0) (aCons (eC (.ty "str")) aNil)))) (eOp (gD2 (dEq false)) (eVar 0) (eVar 1))))))))
theorem sc__law_same : FnScope ["_law_found", "_law_due", "_law_one", "_law_two"] ["_law_found", "_law_due"] (defScope s__law_same) := ⟨rfl, rfl, rfl, by decide +kernel, rfl, by decide +kernel, by decide +kernel⟩
theorem okR__law_same (T : Fx P K mg A) (n : Nat) (ih : FnOk P w K mg base CX0 (n + 1) A.f__law_same A.d__law_same ["_law_found", "_law_due"] (spP K (W_sameN n))) :
    FnOk P w K mg base CX0 (n + 2) A.f__law_same A.d__law_same ["_law_found", "_law_due"] (spP K (defW 2 2 (sameF n))) :=
  okP T.F__law_same sc__law_same rfl rfl fun cdv A0 outer s H E hr =>
 (xss_cons (xs_if (xt_val (xisiT isa0_ok (by rfl) T.z_isinstance PyProof.Rows.boot_isinstance (xvar (pv 1)) (.cons (pe_bltn (v := .ty "list") (by rfl) T.z_list PyProof.Rows.boot_list rfl) (fun _ => .ty _) (.ty _) (.cons (pe_bltn (v := .ty "tuple") (by rfl) T.z_tuple PyProof.Rows.boot_tuple rfl) (fun _ => .ty _) (.ty _) .nil))) (by intro _; rfl))
 (xss_cons (xs_if (xt_cmp (op_neA hr.units) snd_ne (xcallB call_isi (snd_isi isa0_ok) (by rfl) T.z_isinstance PyProof.Rows.boot_isinstance (xa_cons (xvar (pv 0)) (xa_cons (xc (pe_bltn (v := .ty "list") (by rfl) T.z_list PyProof.Rows.boot_list rfl) fun _ => .ty _) xa_nil))) (xcallB call_isi (snd_isi isa0_ok) (by rfl) T.z_isinstance PyProof.Rows.boot_isinstance (xa_cons (xvar (pv 1)) (xa_cons (xc (pe_bltn (v := .ty "list") (by rfl) T.z_list PyProof.Rows.boot_list rfl) fun _ => .ty _) xa_nil))) (nomark _))
 (xss_one (xs_ret xbl))
 xss_nil)
 (xss_cons (xs_if (xt_cmp (op_neA hr.units) snd_ne (xcallB call_isi (snd_isi isa0_ok) (by rfl) T.z_isinstance PyProof.Rows.boot_isinstance (xa_cons (xvar (pv 0)) (xa_cons (xc (pe_bltn (v := .ty "tuple") (by rfl) T.z_tuple PyProof.Rows.boot_tuple rfl) fun _ => .ty _) xa_nil))) (xcallB call_isi (snd_isi isa0_ok) (by rfl) T.z_isinstance PyProof.Rows.boot_isinstance (xa_cons (xvar (pv 1)) (xa_cons (xc (pe_bltn (v := .ty "tuple") (by rfl) T.z_tuple PyProof.Rows.boot_tuple rfl) fun _ => .ty _) xa_nil))) (nomark _))
 (xss_one (xs_ret xbl))
 xss_nil)
 (xss_one (xs_ret (x_and (xcmp (op_eqA hr.units) snd_eq (xcallB call_len snd_len (by rfl) T.z_len PySem.boot_len (xa_cons (xvar (pv 0)) xa_nil)) (xcallB call_len snd_len (by rfl) T.z_len PySem.boot_len (xa_cons (xvar (pv 1)) xa_nil)) (nomark _)) (x_one (xcallB (cr_all rfl) snd_allL (by rfl) T.z_all PyProof.Rows.boot_all (xa_cons (x_lc (own := [("_law_one", 2), ("_law_two", 3)]) rfl sc__law_same.nd (xi_zip (by rfl) T.z_zip (xa_cons (xvar (pv 0)) (xa_cons (xvar (pv 1)) xa_nil))) (blkOk_by (own := [("_law_one", 2), ("_law_two", 3)]) (N := ["_law_found", "_law_due", "_law_one", "_law_two"]) (sc := defScope s__law_same) (by decide +kernel)) (by decide) (fun _ => (xg_tup rfl (xgs_cons (xg_name (pg_name (i := 2) sc__law_same.nd rfl (Or.inl rfl))) (xgs_cons (xg_name (pg_name (i := 3) sc__law_same.nd rfl (Or.inl rfl))) xgs_nil)))) (fun _ => xifs_nil) (fun _ => (xcall (snd_pure0 .nil) ih (hr.mono (by omega)) (by rfl) T.m__law_same T.F__law_same.kp T.b__law_same .nil pass0 (xa_cons (xvar (pv 2)) (xa_cons (xvar (pv 3)) xa_nil))))) xa_nil))))))))
 xss_nil)
 (xss_cons (xs_if (xt_w (xw_or (xt_cmp op_isN snd_isN (xvar (pv 1)) xnon (nomark _)) (xw_or1 (xt_cmp op_isN snd_isN (xvar (pv 0)) xnon (nomark _)))))
 (xss_one (xs_ret (x_and (xcmp op_isN snd_isN (xvar (pv 1)) xnon (nomark _)) (x_one (xcmp op_isN snd_isN (xvar (pv 0)) xnon (nomark _))))))
 xss_nil)
 (xss_cons (xs_if (xt_cmp (op_neA hr.units) snd_ne (xcallB call_isi (snd_isi isa0_ok) (by rfl) T.z_isinstance PyProof.Rows.boot_isinstance (xa_cons (xvar (pv 1)) (xa_cons (xc (pe_bltn (v := .ty "bool") (by rfl) T.z_bool PyProof.Rows.boot_bool rfl) fun _ => .ty _) xa_nil))) (xcallB call_isi (snd_isi isa0_ok) (by rfl) T.z_isinstance PyProof.Rows.boot_isinstance (xa_cons (xvar (pv 0)) (xa_cons (xc (pe_bltn (v := .ty "bool") (by rfl) T.z_bool PyProof.Rows.boot_bool rfl) fun _ => .ty _) xa_nil))) (nomark _))
 (xss_one (xs_ret xbl))
 xss_nil)
 (xss_cons (xs_if (xt_cmp (op_neA hr.units) snd_ne (xcallB call_isi (snd_isi isa0_ok) (by rfl) T.z_isinstance PyProof.Rows.boot_isinstance (xa_cons (xvar (pv 1)) (xa_cons (xc (pe_bltn (v := .ty "int") (by rfl) T.z_int PyProof.Rows.boot_int rfl) fun _ => .ty _) xa_nil))) (xcallB call_isi (snd_isi isa0_ok) (by rfl) T.z_isinstance PyProof.Rows.boot_isinstance (xa_cons (xvar (pv 0)) (xa_cons (xc (pe_bltn (v := .ty "int") (by rfl) T.z_int PyProof.Rows.boot_int rfl) fun _ => .ty _) xa_nil))) (nomark _))
 (xss_one (xs_ret xbl))
 xss_nil)
 (xss_one (xs_ret (x_and (xcmp (op_eqA hr.units) snd_eq (xcallB call_isi (snd_isi isa0_ok) (by rfl) T.z_isinstance PyProof.Rows.boot_isinstance (xa_cons (xvar (pv 1)) (xa_cons (xc (pe_bltn (v := .ty "str") (by rfl) T.z_str PyProof.Rows.boot_str rfl) fun _ => .ty _) xa_nil))) (xcallB call_isi (snd_isi isa0_ok) (by rfl) T.z_isinstance PyProof.Rows.boot_isinstance (xa_cons (xvar (pv 0)) (xa_cons (xc (pe_bltn (v := .ty "str") (by rfl) T.z_str PyProof.Rows.boot_str rfl) fun _ => .ty _) xa_nil))) (nomark _)) (x_one (xcmp (op_eqA hr.units) snd_eq (xvar (pv 0)) (xvar (pv 1)) (nomark _))))))))))

theorem sc_Seat_text : FnScope ["self"] ["self"] (defScope s_Seat_text) := ⟨rfl, rfl, rfl, by decide +kernel, rfl, by decide +kernel, by decide +kernel⟩
def W_Seat_text : FW := defW 1 0 (sRet (jsW [(eUn (gD1 dFmt) (eCon [("Seat", (.str "seat")), ("Thing", (.str "thing")), ("Peg", (.str "peg"))] "KIND" (eVar 0))), (eC (.str " ")), (eUn (gD1 dFmt) (eFldA ["Seat", "Thing", "Peg"] "_name" (eVar 0)))] Str.empty))
theorem ok_Seat_text (T : Fx P K mg A) : FnOk P w K mg base CX0 1 A.f_Seat_text A.d_Seat_text ["self"] (spP K W_Seat_text) :=
  okP T.F_Seat_text sc_Seat_text rfl rfl fun cdv A0 outer s H E hr =>
 (xss_one (xs_ret (xjoined (.cons (xfmt (xcon (AllT.look (.cons (conok T.n_Seat T.c_Seat T.k_Seat_KIND (fun _ => .str _)) (.cons (conok T.n_Thing T.c_Thing T.k_Thing_KIND (fun _ => .str _)) (.cons (conok T.n_Peg T.c_Peg T.k_Peg_KIND (fun _ => .str _)) .nil)))) (xvar (pv 0)) rfl)) (.cons xstr (.cons (xfmt (xfldA (AllI.all (.cons (fldok T.n_Seat T.c_Seat T.a_Seat__name) (.cons (fldok T.n_Thing T.c_Thing T.a_Thing__name) (.cons (fldok T.n_Peg T.c_Peg T.a_Peg__name) .nil)))) (xvar (pv 0)) rfl)) .nil))))))
theorem sc_Thing_text : FnScope ["self"] ["self"] (defScope s_Thing_text) := ⟨rfl, rfl, rfl, by decide +kernel, rfl, by decide +kernel, by decide +kernel⟩
def W_Thing_text : FW := defW 1 0 (sRet (jsW [(eUn (gD1 dFmt) (eCon [("Thing", (.str "thing"))] "KIND" (eVar 0))), (eC (.str " ")), (eUn (gD1 dFmt) (eUn (gFld "Thing" "_name") (eVar 0))), (eC (.str " ")), (eUn (gD1 dFmt) (eUn (gFld "Thing" "_number") (eVar 0)))] Str.empty))
theorem ok_Thing_text (T : Fx P K mg A) : FnOk P w K mg base CX0 1 A.f_Thing_text A.d_Thing_text ["self"] (spP K W_Thing_text) :=
  okP T.F_Thing_text sc_Thing_text rfl rfl fun cdv A0 outer s H E hr =>
 (xss_one (xs_ret (xjoined (.cons (xfmt (xcon (AllT.look (.cons (conok T.n_Thing T.c_Thing T.k_Thing_KIND (fun _ => .str _)) .nil)) (xvar (pv 0)) rfl)) (.cons xstr (.cons (xfmt (xfld (C := A.C_Thing) T.n_Thing T.c_Thing T.a_Thing__name (xvar (pv 0)) rfl)) (.cons xstr (.cons (xfmt (xfld (C := A.C_Thing) T.n_Thing T.c_Thing T.a_Thing__number (xvar (pv 0)) rfl)) .nil))))))))
theorem sc_Seat_repr : FnScope ["self"] ["self"] (defScope s_Seat_repr) := ⟨rfl, rfl, rfl, by decide +kernel, rfl, by decide +kernel, by decide +kernel⟩
def W_Seat_repr : FW := defW 1 0 (sRet (jsW [(eC (.str "Seat(")), (eUn (gD1 dFmt) (eMethA [("Seat", W_Seat_text), ("Thing", W_Thing_text), ("Peg", W_Seat_text)] "text" (fun W => gPure W []) (eVar 0) aNil)), (eC (.str ")"))] Str.empty))
theorem ok_Seat_repr (T : Fx P K mg A) : FnOk P w K mg base CX0 2 A.f_Seat_repr A.d_Seat_repr ["self"] (spP K W_Seat_repr) :=
  okP T.F_Seat_repr sc_Seat_repr rfl rfl fun cdv A0 outer s H E hr =>
 (xss_one (xs_ret (xjoined (.cons xstr (.cons (xfmt (xmethA0 (fun _ => (snd_pure0 .nil)) (AllT.look (.cons (methok T.n_Seat T.c_Seat T.M_Seat_text (ok_Seat_text T) (hr.mono (by decide)) T.b_Seat_text) (.cons (methok T.n_Thing T.c_Thing T.M_Thing_text (ok_Thing_text T) (hr.mono (by decide)) T.b_Thing_text) (.cons (methok T.n_Peg T.c_Peg T.M_Peg_text (ok_Seat_text T) (hr.mono (by decide)) T.b_Seat_text) .nil)))) pass0 (xvar (pv 0)))) (.cons xstr .nil))))))
theorem sc_Thing_number : FnScope ["self"] ["self"] (defScope s_Thing_number) := ⟨rfl, rfl, rfl, by decide +kernel, rfl, by decide +kernel, by decide +kernel⟩
def W_Thing_number : FW := defW 1 0 (sRet (eUn (gFld "Thing" "_number") (eVar 0)))
theorem ok_Thing_number (T : Fx P K mg A) : FnOk P w K mg base CX0 1 A.f_Thing_number A.d_Thing_number ["self"] (spP K W_Thing_number) :=
  okP T.F_Thing_number sc_Thing_number rfl rfl fun cdv A0 outer s H E hr =>
 (xss_one (xs_ret (xfld (C := A.C_Thing) T.n_Thing T.c_Thing T.a_Thing__number (xvar (pv 0)) rfl)))
theorem sc_Seat_label : FnScope ["self"] ["self"] (defScope s_Seat_label) := ⟨rfl, rfl, rfl, by decide +kernel, rfl, by decide +kernel, by decide +kernel⟩
def W_Seat_label : FW := defW 1 0 (sRet (eFldA ["Seat", "Thing", "Peg"] "_name" (eVar 0)))
theorem ok_Seat_label (T : Fx P K mg A) : FnOk P w K mg base CX0 1 A.f_Seat_label A.d_Seat_label ["self"] (spP K W_Seat_label) :=
  okP T.F_Seat_label sc_Seat_label rfl rfl fun cdv A0 outer s H E hr =>
 (xss_one (xs_ret (xfldA (AllI.all (.cons (fldok T.n_Seat T.c_Seat T.a_Seat__name) (.cons (fldok T.n_Thing T.c_Thing T.a_Thing__name) (.cons (fldok T.n_Peg T.c_Peg T.a_Peg__name) .nil)))) (xvar (pv 0)) rfl)))
theorem sc_Thing_eq : FnScope ["self", "other"] ["self", "other"] (defScope s_Thing_eq) := ⟨rfl, rfl, rfl, by decide +kernel, rfl, by decide +kernel, by decide +kernel⟩
def W_Thing_eq : FW := defW 2 0 (sRet (eAnd (eCall (gIsi (isaC isT)) (aCons (eVar 1) (aCons (eC (.cls "Thing")) aNil))) (eAnd (eOp (gD2 (dEq false)) (eUn (gFld "Thing" "_name") (eVar 0)) (eUn (gFld "Thing" "_name") (eVar 1))) (eOp (gD2 (dEq false)) (eUn (gFld "Thing" "_number") (eVar 0)) (eUn (gFld "Thing" "_number") (eVar 1))))))
theorem ok_Thing_eq (T : Fx P K mg A) : FnOk P w K mg base CX0 1 A.f_Thing_eq A.d_Thing_eq ["self", "other"] (spP K W_Thing_eq) :=
  okP T.F_Thing_eq sc_Thing_eq rfl rfl fun cdv A0 outer s H E hr =>
 (xss_one (xs_ret (x_and (xcallB call_isi (snd_isi (isaC_ok T.isa)) (by rfl) T.z_isinstance PyProof.Rows.boot_isinstance (xa_cons (xvar (pv 1)) (xa_cons (xc (pe_glob (v := .ref A.C_Thing) (by rfl) T.m_Thing rfl) fun _ => T.n_Thing ▸ .cls _) xa_nil))) (x_and (xcmp (op_eqA hr.units) snd_eq (xfld (C := A.C_Thing) T.n_Thing T.c_Thing T.a_Thing__name (xvar (pv 0)) rfl) (xfld (C := A.C_Thing) T.n_Thing T.c_Thing T.a_Thing__name (xvar (pv 1)) rfl) (nomark _)) (x_one (xcmp (op_eqA hr.units) snd_eq (xfld (C := A.C_Thing) T.n_Thing T.c_Thing T.a_Thing__number (xvar (pv 0)) rfl) (xfld (C := A.C_Thing) T.n_Thing T.c_Thing T.a_Thing__number (xvar (pv 1)) rfl) (nomark _)))))))
theorem sc_Seat_eq : FnScope ["self", "other"] ["self", "other"] (defScope s_Seat_eq) := ⟨rfl, rfl, rfl, by decide +kernel, rfl, by decide +kernel, by decide +kernel⟩
def W_Seat_eq : FW := defW 2 0 (sRet (eAnd (eCall (gIsi (isaC isT)) (aCons (eVar 1) (aCons (eC (.cls "Seat")) aNil))) (eAnd (eOp (gD2 (dEq false)) (eCon [("Seat", (.str "seat")), ("Thing", (.str "thing")), ("Peg", (.str "peg"))] "KIND" (eVar 0)) (eCon [("Thing", (.str "thing")), ("Peg", (.str "peg")), ("Seat", (.str "seat"))] "KIND" (eVar 1))) (eOp (gD2 (dEq false)) (eFldA ["Seat", "Thing", "Peg"] "_name" (eVar 0)) (eFldA ["Thing", "Peg", "Seat"] "_name" (eVar 1))))))
theorem ok_Seat_eq (T : Fx P K mg A) : FnOk P w K mg base CX0 1 A.f_Seat_eq A.d_Seat_eq ["self", "other"] (spP K W_Seat_eq) :=
  okP T.F_Seat_eq sc_Seat_eq rfl rfl fun cdv A0 outer s H E hr =>
 (xss_one (xs_ret (x_and (xcallB call_isi (snd_isi (isaC_ok T.isa)) (by rfl) T.z_isinstance PyProof.Rows.boot_isinstance (xa_cons (xvar (pv 1)) (xa_cons (xc (pe_glob (v := .ref A.C_Seat) (by rfl) T.m_Seat rfl) fun _ => T.n_Seat ▸ .cls _) xa_nil))) (x_and (xcmp (op_eqA hr.units) snd_eq (xcon (AllT.look (.cons (conok T.n_Seat T.c_Seat T.k_Seat_KIND (fun _ => .str _)) (.cons (conok T.n_Thing T.c_Thing T.k_Thing_KIND (fun _ => .str _)) (.cons (conok T.n_Peg T.c_Peg T.k_Peg_KIND (fun _ => .str _)) .nil)))) (xvar (pv 0)) rfl) (xcon (AllT.look (.cons (conok T.n_Thing T.c_Thing T.k_Thing_KIND (fun _ => .str _)) (.cons (conok T.n_Peg T.c_Peg T.k_Peg_KIND (fun _ => .str _)) (.cons (conok T.n_Seat T.c_Seat T.k_Seat_KIND (fun _ => .str _)) .nil)))) (xvar (pv 1)) rfl) (nomark _)) (x_one (xcmp (op_eqA hr.units) snd_eq (xfldA (AllI.all (.cons (fldok T.n_Seat T.c_Seat T.a_Seat__name) (.cons (fldok T.n_Thing T.c_Thing T.a_Thing__name) (.cons (fldok T.n_Peg T.c_Peg T.a_Peg__name) .nil)))) (xvar (pv 0)) rfl) (xfldA (AllI.all (.cons (fldok T.n_Thing T.c_Thing T.a_Thing__name) (.cons (fldok T.n_Peg T.c_Peg T.a_Peg__name) (.cons (fldok T.n_Seat T.c_Seat T.a_Seat__name) .nil)))) (xvar (pv 1)) rfl) (nomark _)))))))
theorem sc__law_odd : FnScope ["_law_bag_here"] ["_law_bag_here"] (defScope s__law_odd) := ⟨rfl, rfl, rfl, by decide +kernel, rfl, by decide +kernel, by decide +kernel⟩
def W__law_odd : FW := defW 1 0 (sRet (eCallC (gBag W__law_pick []) (aCons (eVar 0) (aCons (eLst (aCons (eC .non) (aCons (eC (.bl true)) (aCons (eOp (gD2 dSub) (eC (.int 0)) (eC (.int 1))) (aCons (eOp (gD2 dPow) (eC (.int 10)) (eC (.int 18))) (aCons (eC (.str "")) (aCons (eC (.str "A")) (aCons (eC (.str "abcdefghi")) (aCons (eLst (aCons (eC (.int 1)) aNil)) (aCons (eTup (aCons (eC (.int 1)) (aCons (eC (.str "a")) aNil))) (aCons (eC (.str "1 ")) aNil))))))))))) aNil))))
theorem ok__law_odd (T : Fx P K mg A) : FnOk P w K mg base CX0 3 A.f__law_odd A.d__law_odd ["_law_bag_here"] (spP K W__law_odd) :=
  okP T.F__law_odd sc__law_odd rfl rfl fun cdv A0 outer s H E hr =>
 (xss_one (xs_ret (xcall (snd_bag0 .nil) (ok__law_pick T) (hr.mono (by decide)) (by rfl) T.m__law_pick T.F__law_pick.kp T.b__law_pick .nil pass0 (xa_cons (xvar (pv 0)) (xa_cons (x_lst (xa_cons xnon (xa_cons xbl (xa_cons (xop op_sub snd_sub xint xint) (xa_cons (xop op_pow snd_pow xint xint) (xa_cons xstr (xa_cons xstr (xa_cons xstr (xa_cons (x_lst (xa_cons xint xa_nil)) (xa_cons (x_tup (xa_cons xint (xa_cons xstr xa_nil))) (xa_cons xstr xa_nil))))))))))) xa_nil)))))
end
end PL
namespace PL
open PySem L2 Lp
/-! ### _law_same of what is equal -/
theorem lcW_map {g : FG} {ft : FT} {fe : FE} {Γ0 : Ev} {h : D → D} {ds : List D} {acc : List B} {S : Sto} {R : List B → Sto → Prop}
    (he : ∀ d ∈ ds, ∀ (R' : List B → Sto → Prop) (acc' : List B) (ds' : List D), lcW g ft fe Γ0 ds' (acc' ++ [.fz (h d)]) S R' → lcW g ft fe Γ0 (d :: ds') acc' S R')
    (hR : R (acc ++ ds.map fun d => .fz (h d)) S) : lcW g ft fe Γ0 ds acc S R := by
  induction ds generalizing acc with
  | nil => rw [List.map_nil, List.append_nil] at hR; exact hR
  | cons d ds ih =>
    refine he d List.mem_cons_self R acc ds ?_
    refine ih (fun d' hd' => he d' (List.mem_cons_of_mem _ hd')) ?_
    rw [List.append_assoc]
    exact hR
theorem all_true (ds : List D) : (ds.map fun _ => true).all id = true := by
  induction ds with
  | nil => rfl
  | cons d ds ih => exact ih
theorem same_zip {n : Nat} {Γ0 : Ev} {S : Sto} {R : List B → Sto → Prop} {ds : List D} (hl : Γ0.length = 4) (hd : ds.all (dataOk n) = true) (hR : R (ds.map fun _ => .fz (.bl true)) S) :
    lcW (gT 2 (gsC (gN 2) (gsC (gN 3) gsN))) tYesP (eCallC (gPure (W_sameN n) []) (aCons (eVar 2) (aCons (eVar 3) aNil))) Γ0 (zipD ds ds) [] S R := by
  rw [zip_self]
  refine lcW_map (h := fun _ => .bl true) (fun d hm R' acc' ds' h => ?_) (by rw [List.map_map]; exact hR)
  obtain ⟨d0, hd0, rfl⟩ := List.mem_map.mp hm
  match Γ0, hl with
  | [_, _, _, _], _ => exact ⟨rfl, ⟨rfl, List.all_eq_true.mp hd d0 hd0⟩, h⟩
theorem neb {α : Type} [DecidableEq α] (x : α) : (false != decide (x = x)) = true := by rw [decide_eq_true rfl]; rfl
theorem asDs_fz {α : Type} (f : α → D) (xs : List α) {k : List D → Prop} (h : k (xs.map f)) : asDs (xs.map fun d => .fz (f d)) k := by
  have := asDs_map (ds := xs.map f) (k := k) h
  rw [List.map_map] at this
  exact this
theorem asBls_c {α : Type} (f : α → Bool) (xs : List α) {k : List Bool → Prop} (h : k (xs.map f)) : asBls (xs.map fun d => .bl (f d)) k := by
  have := asBls_map (is := xs.map f) (k := k) h
  rw [List.map_map] at this
  exact this
theorem same_pure (n : Nat) (bs : List B) (S : Sto) (R : RB) (h : W_sameN (n + 1) bs S noX R) : defW 2 2 (sameF n) bs S noX R := by
  match bs, h with
  | [.fz a, .fz b], h =>
    obtain ⟨⟨rfl, hd⟩, hR⟩ := h
    cases a with
    | non => exact ⟨rfl, by decide, ⟨.ty "list", _, rfl⟩, hR⟩
    | bl k => exact ⟨rfl, by decide, ⟨.ty "list", _, rfl⟩, (by rw [neb]; exact hR : R (.fz (.bl (false != decide (k = k)))) S)⟩
    | int i => exact ⟨rfl, by decide, ⟨.ty "list", _, rfl⟩, (by rw [neb]; exact hR : R (.fz (.bl (false != decide (i = i)))) S)⟩
    | str z => exact ⟨rfl, by decide, ⟨.ty "list", _, rfl⟩, (by rw [neb]; exact hR : R (.fz (.bl (false != decide (z = z)))) S)⟩
    | lst ds =>
      refine ⟨rfl, by decide, ⟨.ty "list", _, rfl⟩, cnd_t (neb _) ?_⟩
      refine same_zip rfl hd ?_
      refine asDs_fz _ _ (asBls_c _ _ ?_)
      rw [all_true]
      exact hR
    | tup ds =>
      refine ⟨rfl, by decide, ⟨.ty "list", _, rfl⟩, cnd_t (neb _) ?_⟩
      refine same_zip rfl hd ?_
      refine asDs_fz _ _ (asBls_c _ _ ?_)
      rw [all_true]
      exact hR
    | _ => cases hd
section
variable {P : Program} {w : World} {K : PySem.W.Frag} {mg : Str → Option Value} {base : Heap} {A : Ad}
theorem ok__law_same (T : Fx P K mg A) : ∀ n : Nat, FnOk P w K mg base CX0 (n + 1) A.f__law_same A.d__law_same ["_law_found", "_law_due"] (spP K (W_sameN n))
  | 0 => T.F__law_same.ok sc__law_same (fun _ _ _ _ ⟨_, _, _, bs, _, _, _, _, hW, _⟩ => by
      match bs, hW with
      | [.fz a, .fz b], hW => exact (Bool.false_ne_true hW.1.2).elim) fun _ _ _ _ _ _ _ _ _ ⟨_, _, _, bs, _, _, _, _, hW, _⟩ => by
      exfalso
      match bs, hW with
      | [.fz a, .fz b], hW => exact Bool.false_ne_true hW.1.2
  | n + 1 => FnOk.impW (okR__law_same T n (ok__law_same T n)) fun bs S R h => same_pure n bs S R h
end
theorem same_ok {n : Nat} {a b : D} {S : Sto} {Rx : XP} {R : RB} (e : a = b) (hd : dataOk n a = true) (h : R (.fz (.bl true)) S) : W_sameN n ([a, b].map .fz) S Rx R := ⟨⟨e, hd⟩, h⟩
end PL

namespace PL
open PySem L2 Lp
section
variable {P : Program} {w : World} {K : PySem.W.Frag} {mg : Str → Option Value} {base : Heap} {A : Ad}
theorem sc_law : FnScope ["_law_script", "_law_bag_here", "_law_turn", "_law_numbers_here", "_law_thing", "_law_peg", "_law_bare", "_law_found", "_law_text", "_law_due", "_law_same_here", "_law_asks", "_law_bad", "_law_names_here", "_law_odd_here"] ["_law_script"] (defScope s_law) := ⟨rfl, rfl, rfl, by decide +kernel, rfl, by decide +kernel, by decide +kernel⟩
def lamE_law_0 : List Expr := (asgE (((bodyS ((defBody s_law).getD 1 (.Pass ⟨0, 0, 0, 0⟩)))).getD 12 (.Pass ⟨0, 0, 0, 0⟩)))
def F_law_0 (PT : Addr) (cl : List (Str × Addr)) : FS := (sSeq (sAsg (eTup (aCons (eCallC (gBagJ 1 W__law_odd []) (aCons (eVar 1) aNil)) (aCons (eCallC (gBagJ 1 W__law_pick []) (aCons (eVar 1) (aCons (eLst (aCons (eC .non) (aCons (eC (.bl true)) (aCons (eOp (gD2 dSub) (eC (.int 0)) (eC (.int 1))) (aCons (eOp (gD2 dPow) (eC (.int 10)) (eC (.int 18))) (aCons (eC (.str "1")) (aCons (eTup (aCons (eC (.int 1)) aNil)) aNil))))))) aNil))) aNil))) (gT 2 (gsC (gN 14) (gsC (gN 12) gsN)))) (sSeq (sAsg (eLamL PT qLam 0 (lamDs qLam cl (lamE_law_0))) (gN 11)) (sSeq (sAsg (eLst (aCons (eTup (aCons (eC (.str "InvalidName")) (aCons (eTup (aCons (eVar 14) aNil)) aNil))) (aCons (eTup (aCons (eC (.str "InvalidNumber")) (aCons (eTup (aCons (eVar 12) aNil)) aNil))) (aCons (eTup (aCons (eC (.str "InvalidName")) (aCons (eTup (aCons (eVar 14) aNil)) aNil))) (aCons (eTup (aCons (eC (.str "InvalidName")) (aCons (eTup (aCons (eVar 14) aNil)) aNil))) aNil))))) (gN 9)) (sIf (tNotP (tOf (eCallC (gPure (W_sameN 5) []) (aCons (eWhys PT qLam exTb 0 (lamDs qLam cl (lamE_law_0)) [(eCallX (gMake "Thing" W_Thing_init []) (aCons (eVar 14) (aCons (eVar 12) aNil))), (eCallX (gMake "Thing" W_Thing_init []) (aCons (eOp gIx (eVar 13) (eC (.int 1))) (aCons (eVar 12) aNil))), (eCallX (gMake "Peg" W_Peg_init []) (aCons (eVar 14) aNil)), (eCallX (gMake "Seat" W_Seat_init []) (aCons (eVar 14) aNil)), (eProp "Thing" (gPure W_Thing_number []) (eCallX (gMake "Thing" W_Thing_init []) (aCons (eOp gIx (eVar 13) (eC (.int 1))) (aCons (eOp (gD2 dSub) (eOp (gD2 dPow) (eC (.int 10)) (eC (.int 18))) (eC (.int 1))) aNil))))] (eVar 11)) (aCons (eOp (gD2 dAdd) (eVar 9) (eLst (aCons (eTup (aCons (eC (.str "value")) (aCons (eOp (gD2 dSub) (eOp (gD2 dPow) (eC (.int 10)) (eC (.int 18))) (eC (.int 1))) aNil))) aNil))) aNil))))) (sRet (eC (.bl false))) sNext))))
def F_law_1 (PT : Addr) (cl : List (Str × Addr)) : FS := (sSeq (sAsg (eLst (aCons (eOp (gEqO false [("Thing", W_Thing_eq)] eqOO eqOB) (eVar 4) (eMkK (gMake "Thing" W_Thing_init []) [1, 0] 2 (aCons (eOp gIx (eVar 3) (eC (.int 0))) (aCons (eOp gIx (eVar 13) (eC (.int 0))) aNil)))) (aCons (eOp (gEqO false [("Thing", W_Thing_eq)] eqOO eqOB) (eVar 4) (eCallC (gMake "Thing" W_Thing_init []) (aCons (eOp gIx (eVar 13) (eC (.int 1))) (aCons (eOp gIx (eVar 3) (eC (.int 0))) aNil)))) (aCons (eOp (gEqO true [("Thing", W_Thing_eq)] eqOO eqOB) (eVar 4) (eVar 5)) (aCons (eOp (gEqO false [("Thing", W_Thing_eq)] eqOO eqOB) (eVar 4) (eCallC (gMake "Thing" W_Thing_init []) (aCons (eOp gIx (eVar 13) (eC (.int 0))) (aCons (eOp gIx (eVar 3) (eC (.int 1))) aNil)))) (aCons (eOp (gEqO false [("Peg", W_Seat_eq)] eqOO eqOB) (eVar 5) (eCallC (gMake "Peg" W_Peg_init []) (aCons (eOp gIx (eVar 13) (eC (.int 0))) aNil))) (aCons (eOp (gEqO false [("Peg", W_Seat_eq)] eqOO eqOB) (eVar 5) (eVar 6)) (aCons (eOp (gEqO false [("Peg", W_Seat_eq)] eqOO eqOB) (eVar 5) (eCallC (gMake "Peg" W_Peg_init []) (aCons (eOp gIx (eVar 13) (eC (.int 1))) aNil))) (aCons (eOp (gEqO false [("Thing", W_Thing_eq)] eqOO eqOB) (eVar 4) (eVar 8)) aNil))))))))) (gN 10)) (sSeq (sIf (tNotP (tOf (eCallC (gPure (W_sameN 5) []) (aCons (eVar 10) (aCons (eLst (aCons (eC (.bl true)) (aCons (eC (.bl false)) (aCons (eC (.bl true)) (aCons (eC (.bl false)) (aCons (eC (.bl true)) (aCons (eC (.bl false)) (aCons (eC (.bl false)) (aCons (eC (.bl false)) aNil))))))))) aNil))))) (sRet (eC (.bl false))) sNext) (sSeq (sIf (tOrP (tNotP (tOf (eCall (gIsi (isaC isT)) (aCons (eVar 4) (aCons (eC (.cls "Seat")) aNil))))) (tOrP (tNotP (tOf (eCall (gIsi (isaC isT)) (aCons (eVar 5) (aCons (eC (.cls "Seat")) aNil))))) (tOrP (tOf (eCall (gIsi (isaC isT)) (aCons (eVar 5) (aCons (eC (.cls "Thing")) aNil)))) (tOf (eCall (gIsi (isaC isT)) (aCons (eVar 4) (aCons (eC (.cls "Peg")) aNil))))))) (sRet (eC (.bl false))) sNext) (F_law_0 PT cl))))
def F_law_2 (PT : Addr) (cl : List (Str × Addr)) : FS := (sSeq (sAsg (eOp (gD2 dAdd) (eOp (gD2 dAdd) (eOp (gD2 dAdd) (eC (.str "thing ")) (eOp gIx (eVar 13) (eC (.int 0)))) (eC (.str " "))) (eCall gStr (aCons (eOp gIx (eVar 3) (eC (.int 0))) aNil))) (gN 8)) (sSeq (sAsg (eLst (aCons (ePropA [("Thing", W_Seat_label)] (fun W => gPure W []) (eVar 4)) (aCons (ePropA [("Peg", W_Seat_label)] (fun W => gPure W []) (eVar 5)) (aCons (eProp "Thing" (gPure W_Thing_number []) (eVar 4)) (aCons (eMethC "Thing" "text" (gPure W_Thing_text []) (eVar 4) aNil) (aCons (eMethA [("Peg", W_Seat_text)] "text" (fun W => gPure W []) (eVar 5) aNil) (aCons (eMethC "Seat" "text" (gPure W_Seat_text []) (eVar 6) aNil) (aCons (eCall (gReprO "Thing" (gPure W_Seat_repr [])) (aCons (eVar 4) aNil)) (aCons (eCall (gReprO "Peg" (gPure W_Seat_repr [])) (aCons (eVar 5) aNil)) aNil))))))))) (gN 7)) (sSeq (sAsg (eLst (aCons (eOp gIx (eVar 13) (eC (.int 0))) (aCons (eOp gIx (eVar 13) (eC (.int 0))) (aCons (eOp gIx (eVar 3) (eC (.int 0))) (aCons (eVar 8) (aCons (eOp (gD2 dAdd) (eC (.str "peg ")) (eOp gIx (eVar 13) (eC (.int 0)))) (aCons (eOp (gD2 dAdd) (eC (.str "seat ")) (eOp gIx (eVar 13) (eC (.int 0)))) (aCons (eOp (gD2 dAdd) (eOp (gD2 dAdd) (eC (.str "Seat(")) (eVar 8)) (eC (.str ")"))) aNil)))))))) (gN 9)) (sSeq (sIf (tNotP (tOf (eCallC (gPure (W_sameN 5) []) (aCons (eVar 7) (aCons (eOp (gD2 dAdd) (eVar 9) (eLst (aCons (eOp (gD2 dAdd) (eOp (gD2 dAdd) (eC (.str "Seat(peg ")) (eOp gIx (eVar 13) (eC (.int 0)))) (eC (.str ")"))) aNil))) aNil))))) (sRet (eC (.bl false))) sNext) (F_law_1 PT cl)))))
def F_law_3 (PT : Addr) (cl : List (Str × Addr)) : FS := (sSeq (sAsg (eTup (aCons (eCallC (gBagJ 1 W__law_names []) (aCons (eVar 1) (aCons (eC (.int 2)) aNil))) (aCons (eCallC (gBagJ 1 W__law_numbers []) (aCons (eVar 1) (aCons (eC (.int 2)) aNil))) aNil))) (gT 2 (gsC (gN 13) (gsC (gN 3) gsN)))) (sSeq (sPar3 4 5 6 (aCons (eCallC (gMake "Thing" W_Thing_init []) (aCons (eOp gIx (eVar 13) (eC (.int 0))) (aCons (eOp gIx (eVar 3) (eC (.int 0))) aNil))) (aCons (eMkK (gMake "Peg" W_Peg_init []) [0] 1 (aCons (eOp gIx (eVar 13) (eC (.int 0))) aNil)) (aCons (eCallC (gMake "Seat" W_Seat_init []) (aCons (eOp gIx (eVar 13) (eC (.int 0))) aNil)) aNil)))) (sSeq (sAsg (eLst (aCons (eCon [("Thing", (.str "thing"))] "KIND" (eVar 4)) (aCons (eCon [("Peg", (.str "peg"))] "KIND" (eVar 5)) (aCons (eCon [("Seat", (.str "seat"))] "KIND" (eVar 6)) (aCons (eCon [("Thing", (.bl true))] "IS_LOOKED_AT" (eVar 4)) (aCons (eCon [("Peg", (.bl false))] "IS_LOOKED_AT" (eVar 5)) (aCons (eCon [("Seat", (.bl false))] "IS_LOOKED_AT" (eVar 6)) aNil))))))) (gN 7)) (sSeq (sIf (tNotP (tOf (eCallC (gPure (W_sameN 5) []) (aCons (eVar 7) (aCons (eLst (aCons (eC (.str "thing")) (aCons (eC (.str "peg")) (aCons (eC (.str "seat")) (aCons (eC (.bl true)) (aCons (eC (.bl false)) (aCons (eC (.bl false)) aNil))))))) aNil))))) (sRet (eC (.bl false))) sNext) (F_law_2 PT cl)))))
def W_law (PT : Addr) : FW := defWL 1 14 fun cl => (sSeq (sAsg (eCallC (gAll W_bag []) (aCons (eVar 0) aNil)) (gN 1)) (sSeq (sForC [2, 3, 4, 5, 6, 7, 8, 9, 10, 11, 12, 13, 14] (iRng1P (aCons (eC (.int 5)) aNil)) (gN 2) (F_law_3 PT cl)) (sRet (eAnd (eOp (gD2 (dEq false)) (eC (.str "seat")) (eC (.str "seat"))) (eAnd (eOp (gD2 (dEq false)) (eC (.str "thing")) (eC (.str "thing"))) (eNot (eC (.bl false))))))))
theorem exTb_ok (T : Fx P K mg A) : ExTbl K [.ref A.C_LumpError, .ref A.C_Missing, .ref A.C_NothingLeft] exTb := AllT.look (p := fun C f => (f, C) ∈ Lp.pairs ∧ Lp.Fx K (clsAt K C) f ∧ PySem.W.exmAny K (.ref (clsAt K C)) [.ref A.C_LumpError, .ref A.C_Missing, .ref A.C_NothingLeft] = some true) (.cons (exok T.n_InvalidName (by decide +kernel) T.xr_InvalidName.x T.xe_InvalidName) (.cons (exok T.n_InvalidNumber (by decide +kernel) T.xr_InvalidNumber.x T.xe_InvalidNumber) .nil))
theorem ok_whyT (T : Fx P K mg A) (k : Nat) : FnOk P w K mg base CX0 (k + 2) A.f__law_why A.d__law_why ["_law_ask"] (Lp.spWhyB P w K mg base (k + 1) [.ref A.C_LumpError, .ref A.C_Missing, .ref A.C_NothingLeft]) := Lp.ok_whyB T.F__law_why T.m_LumpError T.m_Missing T.m_NothingLeft T.F__law_field T.m__law_field T.b__law_field
theorem ok_whysT (T : Fx P K mg A) (k : Nat) : FnOk P w K mg base CX0 (k + 3) A.f__law_whys A.d__law_whys ["_law_asks"] (Lp.spWhysB P w K mg base (k + 1) [.ref A.C_LumpError, .ref A.C_Missing, .ref A.C_NothingLeft]) := Lp.ok_whysB T.F__law_whys T.F__law_why T.b__law_why T.m__law_why (ok_whyT T k)
theorem ok_law (T : Fx P K mg A) {cL PT : Addr} {oc kV doc pm ct : Value} {od an : Option Addr} {osl : Array (Option Value)} (TB : LamX.TabB base mg cL PT)
    (lk : K.lookup A.f_law = some ⟨oc, od, .func (PySem.W.fnOf "law" "law" (defArgs s_law) (defBody s_law) (defScope s_law) .none kV doc pm an (.ref cL) ct), osl⟩) (hcd : PySem.W.codeIn K (.ref cL) "law" = true) :
    FnOk P w K mg base CX0 10 A.f_law (PySem.W.fnOf "law" "law" (defArgs s_law) (defBody s_law) (defScope s_law) .none kV doc pm an (.ref cL) ct) ["_law_script"] (spP K (W_law PT)) :=
  okPL lk hcd sc_law rfl rfl fun A0 outer s H E hr hcab =>
 (xss_cons (xs_set (i := 1) sc_law.nd rfl (Or.inl rfl) (xcall (snd_all0 .nil) (ok__law_bag T) (hr.mono (by decide)) (by rfl) T.m__law_bag T.F__law_bag.kp T.b__law_bag .nil pass0 (xa_cons (xvar (pv 0)) xa_nil)))
 (xss_cons (xs_forC [2, 3, 4, 5, 6, 7, 8, 9, 10, 11, 12, 13, 14] PassesOwn.never rfl (xi_range1 (by rfl) T.z_range (xa_cons xint xa_nil)) (xg_name (pg_name (i := 2) sc_law.nd rfl (Or.inl rfl)))
 (xss_cons (xs_asg (x_tup (xa_cons (xcall (snd_bagJ .nil) (ok__law_names T) (hr.mono (by decide)) (by rfl) T.m__law_names T.F__law_names.kp T.b__law_names .nil pass0 (xa_cons (xvar (pv 1)) (xa_cons xint xa_nil))) (xa_cons (xcall (snd_bagJ .nil) (ok__law_numbers T) (hr.mono (by decide)) (by rfl) T.m__law_numbers T.F__law_numbers.kp T.b__law_numbers .nil pass0 (xa_cons (xvar (pv 1)) (xa_cons xint xa_nil))) xa_nil))) (xg_tup rfl (xgs_cons (xg_name (pg_name (i := 13) sc_law.nd rfl (Or.inr rfl))) (xgs_cons (xg_name (pg_name (i := 3) sc_law.nd rfl (Or.inl rfl))) xgs_nil))))
 (xss_cons (xs_par3 (fun h => ps_par3 (i := 4) (j := 5) (l := 6) rfl sc_law.nd rfl rfl rfl (by decide) (by decide) (by decide) rfl rfl rfl h (by rfl)) (xa_cons (xmk (C := A.C_Thing) T.n_Thing .nil T.k_Thing (ok_Thing_init T) (hr.mono (by decide)) (by rfl) T.m_Thing T.b_Thing_init .nil pass0 (xa_cons (xix ix_seq snd_ix (xvar (pv 13)) xint (fun _ _ => rfl)) (xa_cons (xix ix_seq snd_ix (xvar (pv 3)) xint (fun _ _ => rfl)) xa_nil))) (xa_cons (xmkK (C := A.C_Peg) T.n_Peg T.k_Peg (ok_Peg_init T) (hr.mono (by decide)) (by rfl) T.m_Peg T.kb_Peg_init_name pass0 (xk_cons (xix ix_seq snd_ix (xvar (pv 13)) xint (fun _ _ => rfl)) xk_nil)) (xa_cons (xmk (C := A.C_Seat) T.n_Seat .nil T.k_Seat (ok_Seat_init T) (hr.mono (by decide)) (by rfl) T.m_Seat T.b_Seat_init .nil pass0 (xa_cons (xix ix_seq snd_ix (xvar (pv 13)) xint (fun _ _ => rfl)) xa_nil)) xa_nil))))
 (xss_cons (xs_set (i := 7) sc_law.nd rfl (Or.inl rfl) (x_lst (xa_cons (xcon (AllT.look (.cons (conok T.n_Thing T.c_Thing T.k_Thing_KIND (fun _ => .str _)) .nil)) (xvar (pv 4)) rfl) (xa_cons (xcon (AllT.look (.cons (conok T.n_Peg T.c_Peg T.k_Peg_KIND (fun _ => .str _)) .nil)) (xvar (pv 5)) rfl) (xa_cons (xcon (AllT.look (.cons (conok T.n_Seat T.c_Seat T.k_Seat_KIND (fun _ => .str _)) .nil)) (xvar (pv 6)) rfl) (xa_cons (xcon (AllT.look (.cons (conok T.n_Thing T.c_Thing T.k_Thing_IS_LOOKED_AT (fun _ => .bl _)) .nil)) (xvar (pv 4)) rfl) (xa_cons (xcon (AllT.look (.cons (conok T.n_Peg T.c_Peg T.k_Peg_IS_LOOKED_AT (fun _ => .bl _)) .nil)) (xvar (pv 5)) rfl) (xa_cons (xcon (AllT.look (.cons (conok T.n_Seat T.c_Seat T.k_Seat_IS_LOOKED_AT (fun _ => .bl _)) .nil)) (xvar (pv 6)) rfl) xa_nil))))))))
 (xss_cons (xs_if (xt_not (xt_val (xcall (snd_pure0 .nil) (ok__law_same T 5) (hr.mono (by decide)) (by rfl) T.m__law_same T.F__law_same.kp T.b__law_same .nil pass0 (xa_cons (xvar (pv 7)) (xa_cons (x_lst (xa_cons xstr (xa_cons xstr (xa_cons xstr (xa_cons xbl (xa_cons xbl (xa_cons xbl xa_nil))))))) xa_nil))) (by intro _; rfl)))
 (xss_one (xs_ret xbl))
 xss_nil)
 (xss_cons (xs_set (i := 8) sc_law.nd rfl (Or.inl rfl) (xop op_addA snd_add (xop op_addA snd_add (xop op_addA snd_add xstr (xix ix_seq snd_ix (xvar (pv 13)) xint (fun _ _ => rfl))) xstr) (xcallTy call_str_int snd_str (by rfl) T.z_str PyProof.Rows.boot_str (xa_cons (xix ix_seq snd_ix (xvar (pv 3)) xint (fun _ _ => rfl)) xa_nil))))
 (xss_cons (xs_set (i := 7) sc_law.nd rfl (Or.inl rfl) (x_lst (xa_cons (xpropA (fun _ => snd_pure0 .nil) (AllT.look (.cons (propok T.n_Thing T.c_Thing T.p_Thing_label (ok_Seat_label T) (hr.mono (by decide)) T.b_Seat_label) .nil)) (xvar (pv 4)) pass0 rfl) (xa_cons (xpropA (fun _ => snd_pure0 .nil) (AllT.look (.cons (propok T.n_Peg T.c_Peg T.p_Peg_label (ok_Seat_label T) (hr.mono (by decide)) T.b_Seat_label) .nil)) (xvar (pv 5)) pass0 rfl) (xa_cons (xprop' (C := A.C_Thing) T.n_Thing (snd_pure0 .nil) (xvar (pv 4)) fun p => pe_prop p T.c_Thing T.p_Thing_number (ok_Thing_number T) (hr.mono (by decide)) T.b_Thing_number .nil pass0 rfl) (xa_cons (xmeth0 (C := A.C_Thing) T.n_Thing (snd_pure0 .nil) (xvar (pv 4)) fun p => pe_meth0 p T.c_Thing T.M_Thing_text (ok_Thing_text T) (hr.mono (by decide)) T.b_Thing_text .nil pass0) (xa_cons (xmethA0 (fun _ => (snd_pure0 .nil)) (AllT.look (.cons (methok T.n_Peg T.c_Peg T.M_Peg_text (ok_Seat_text T) (hr.mono (by decide)) T.b_Seat_text) .nil)) pass0 (xvar (pv 5))) (xa_cons (xmeth0 (C := A.C_Seat) T.n_Seat (snd_pure0 .nil) (xvar (pv 6)) fun p => pe_meth0 p T.c_Seat T.M_Seat_text (ok_Seat_text T) (hr.mono (by decide)) T.b_Seat_text .nil pass0) (xa_cons (xcallB (call_reprOwn (C := A.C_Thing) (((ok_Seat_repr T)).raw T.b_Seat_repr .nil) (hr.mono (by decide)) T.h_Thing_repr T.hf_Thing_repr) (T.n_Thing ▸ snd_reprO (cn := "Thing") (snd_pure0 .nil)) (by rfl) T.z_repr (by decide +kernel) (xa_cons (xvar (pv 4)) xa_nil)) (xa_cons (xcallB (call_reprOwn (C := A.C_Peg) (((ok_Seat_repr T)).raw T.b_Seat_repr .nil) (hr.mono (by decide)) T.h_Peg_repr T.hf_Peg_repr) (T.n_Peg ▸ snd_reprO (cn := "Peg") (snd_pure0 .nil)) (by rfl) T.z_repr (by decide +kernel) (xa_cons (xvar (pv 5)) xa_nil)) xa_nil))))))))))
 (xss_cons (xs_set (i := 9) sc_law.nd rfl (Or.inl rfl) (x_lst (xa_cons (xix ix_seq snd_ix (xvar (pv 13)) xint (fun _ _ => rfl)) (xa_cons (xix ix_seq snd_ix (xvar (pv 13)) xint (fun _ _ => rfl)) (xa_cons (xix ix_seq snd_ix (xvar (pv 3)) xint (fun _ _ => rfl)) (xa_cons (xvar (pv 8)) (xa_cons (xop op_addA snd_add xstr (xix ix_seq snd_ix (xvar (pv 13)) xint (fun _ _ => rfl))) (xa_cons (xop op_addA snd_add xstr (xix ix_seq snd_ix (xvar (pv 13)) xint (fun _ _ => rfl))) (xa_cons (xop op_addA snd_add (xop op_addA snd_add xstr (xvar (pv 8))) xstr) xa_nil)))))))))
 (xss_cons (xs_if (xt_not (xt_val (xcall (snd_pure0 .nil) (ok__law_same T 5) (hr.mono (by decide)) (by rfl) T.m__law_same T.F__law_same.kp T.b__law_same .nil pass0 (xa_cons (xvar (pv 7)) (xa_cons (xop op_addA snd_add (xvar (pv 9)) (x_lst (xa_cons (xop op_addA snd_add (xop op_addA snd_add xstr (xix ix_seq snd_ix (xvar (pv 13)) xint (fun _ _ => rfl))) xstr) xa_nil))) xa_nil))) (by intro _; rfl)))
 (xss_one (xs_ret xbl))
 xss_nil)
 (xss_cons (xs_set (i := 10) sc_law.nd rfl (Or.inl rfl) (x_lst (xa_cons (xcmp op_eqO (snd_eqO T.eqT (AllT.look (.cons (eqfn T.n_Thing (ok_Thing_eq T) T.b_Thing_eq (hr.mono (by decide)) T.h_Thing_eq T.hf_Thing_eq) .nil))) (xvar (pv 4)) (xmkK (C := A.C_Thing) T.n_Thing T.k_Thing (ok_Thing_init T) (hr.mono (by decide)) (by rfl) T.m_Thing T.kb_Thing_init_number_name pass0 (xk_cons (xix ix_seq snd_ix (xvar (pv 3)) xint (fun _ _ => rfl)) (xk_cons (xix ix_seq snd_ix (xvar (pv 13)) xint (fun _ _ => rfl)) xk_nil))) (nomark _)) (xa_cons (xcmp op_eqO (snd_eqO T.eqT (AllT.look (.cons (eqfn T.n_Thing (ok_Thing_eq T) T.b_Thing_eq (hr.mono (by decide)) T.h_Thing_eq T.hf_Thing_eq) .nil))) (xvar (pv 4)) (xmk (C := A.C_Thing) T.n_Thing .nil T.k_Thing (ok_Thing_init T) (hr.mono (by decide)) (by rfl) T.m_Thing T.b_Thing_init .nil pass0 (xa_cons (xix ix_seq snd_ix (xvar (pv 13)) xint (fun _ _ => rfl)) (xa_cons (xix ix_seq snd_ix (xvar (pv 3)) xint (fun _ _ => rfl)) xa_nil))) (nomark _)) (xa_cons (xcmp op_neO (snd_neO T.eqT (AllT.look (.cons ⟨(eqfn T.n_Thing (ok_Thing_eq T) T.b_Thing_eq (hr.mono (by decide)) T.h_Thing_eq T.hf_Thing_eq), nefn T.n_Thing T.ne_Thing T.ob_Thing⟩ .nil))) (xvar (pv 4)) (xvar (pv 5)) (nomark _)) (xa_cons (xcmp op_eqO (snd_eqO T.eqT (AllT.look (.cons (eqfn T.n_Thing (ok_Thing_eq T) T.b_Thing_eq (hr.mono (by decide)) T.h_Thing_eq T.hf_Thing_eq) .nil))) (xvar (pv 4)) (xmk (C := A.C_Thing) T.n_Thing .nil T.k_Thing (ok_Thing_init T) (hr.mono (by decide)) (by rfl) T.m_Thing T.b_Thing_init .nil pass0 (xa_cons (xix ix_seq snd_ix (xvar (pv 13)) xint (fun _ _ => rfl)) (xa_cons (xix ix_seq snd_ix (xvar (pv 3)) xint (fun _ _ => rfl)) xa_nil))) (nomark _)) (xa_cons (xcmp op_eqO (snd_eqO T.eqT (AllT.look (.cons (eqfn T.n_Peg (ok_Seat_eq T) T.b_Seat_eq (hr.mono (by decide)) T.h_Peg_eq T.hf_Peg_eq) .nil))) (xvar (pv 5)) (xmk (C := A.C_Peg) T.n_Peg .nil T.k_Peg (ok_Peg_init T) (hr.mono (by decide)) (by rfl) T.m_Peg T.b_Peg_init .nil pass0 (xa_cons (xix ix_seq snd_ix (xvar (pv 13)) xint (fun _ _ => rfl)) xa_nil)) (nomark _)) (xa_cons (xcmp op_eqO (snd_eqO T.eqT (AllT.look (.cons (eqfn T.n_Peg (ok_Seat_eq T) T.b_Seat_eq (hr.mono (by decide)) T.h_Peg_eq T.hf_Peg_eq) .nil))) (xvar (pv 5)) (xvar (pv 6)) (nomark _)) (xa_cons (xcmp op_eqO (snd_eqO T.eqT (AllT.look (.cons (eqfn T.n_Peg (ok_Seat_eq T) T.b_Seat_eq (hr.mono (by decide)) T.h_Peg_eq T.hf_Peg_eq) .nil))) (xvar (pv 5)) (xmk (C := A.C_Peg) T.n_Peg .nil T.k_Peg (ok_Peg_init T) (hr.mono (by decide)) (by rfl) T.m_Peg T.b_Peg_init .nil pass0 (xa_cons (xix ix_seq snd_ix (xvar (pv 13)) xint (fun _ _ => rfl)) xa_nil)) (nomark _)) (xa_cons (xcmp op_eqO (snd_eqO T.eqT (AllT.look (.cons (eqfn T.n_Thing (ok_Thing_eq T) T.b_Thing_eq (hr.mono (by decide)) T.h_Thing_eq T.hf_Thing_eq) .nil))) (xvar (pv 4)) (xvar (pv 8)) (nomark _)) xa_nil))))))))))
 (xss_cons (xs_if (xt_not (xt_val (xcall (snd_pure0 .nil) (ok__law_same T 5) (hr.mono (by decide)) (by rfl) T.m__law_same T.F__law_same.kp T.b__law_same .nil pass0 (xa_cons (xvar (pv 10)) (xa_cons (x_lst (xa_cons xbl (xa_cons xbl (xa_cons xbl (xa_cons xbl (xa_cons xbl (xa_cons xbl (xa_cons xbl (xa_cons xbl xa_nil))))))))) xa_nil))) (by intro _; rfl)))
 (xss_one (xs_ret xbl))
 xss_nil)
 (xss_cons (xs_if (xt_w (xw_or (xt_not (xt_val (xcallB call_isi (snd_isi (isaC_ok T.isa)) (by rfl) T.z_isinstance PyProof.Rows.boot_isinstance (xa_cons (xvar (pv 4)) (xa_cons (xc (pe_glob (v := .ref A.C_Seat) (by rfl) T.m_Seat rfl) fun _ => T.n_Seat ▸ .cls _) xa_nil))) (by intro _; rfl))) (xw_or (xt_not (xt_val (xcallB call_isi (snd_isi (isaC_ok T.isa)) (by rfl) T.z_isinstance PyProof.Rows.boot_isinstance (xa_cons (xvar (pv 5)) (xa_cons (xc (pe_glob (v := .ref A.C_Seat) (by rfl) T.m_Seat rfl) fun _ => T.n_Seat ▸ .cls _) xa_nil))) (by intro _; rfl))) (xw_or (xt_val (xcallB call_isi (snd_isi (isaC_ok T.isa)) (by rfl) T.z_isinstance PyProof.Rows.boot_isinstance (xa_cons (xvar (pv 5)) (xa_cons (xc (pe_glob (v := .ref A.C_Thing) (by rfl) T.m_Thing rfl) fun _ => T.n_Thing ▸ .cls _) xa_nil))) (by intro _; rfl)) (xw_or1 (xt_val (xcallB call_isi (snd_isi (isaC_ok T.isa)) (by rfl) T.z_isinstance PyProof.Rows.boot_isinstance (xa_cons (xvar (pv 4)) (xa_cons (xc (pe_glob (v := .ref A.C_Peg) (by rfl) T.m_Peg rfl) fun _ => T.n_Peg ▸ .cls _) xa_nil))) (by intro _; rfl)))))))
 (xss_one (xs_ret xbl))
 xss_nil)
 (xss_cons (xs_asg (x_tup (xa_cons (xcall (snd_bagJ .nil) (ok__law_odd T) (hr.mono (by decide)) (by rfl) T.m__law_odd T.F__law_odd.kp T.b__law_odd .nil pass0 (xa_cons (xvar (pv 1)) xa_nil)) (xa_cons (xcall (snd_bagJ .nil) (ok__law_pick T) (hr.mono (by decide)) (by rfl) T.m__law_pick T.F__law_pick.kp T.b__law_pick .nil pass0 (xa_cons (xvar (pv 1)) (xa_cons (x_lst (xa_cons xnon (xa_cons xbl (xa_cons (xop op_sub snd_sub xint xint) (xa_cons (xop op_pow snd_pow xint xint) (xa_cons xstr (xa_cons (x_tup (xa_cons xint xa_nil)) xa_nil))))))) xa_nil))) xa_nil))) (xg_tup rfl (xgs_cons (xg_name (pg_name (i := 14) sc_law.nd rfl (Or.inr rfl))) (xgs_cons (xg_name (pg_name (i := 12) sc_law.nd rfl (Or.inr rfl))) xgs_nil))))
 (xss_cons (xs_set (i := 11) sc_law.nd rfl (Or.inl rfl) (x_lams (PT := PT) (q := qLam) (j := 0) (.cons (Lg.pe_lamW TB rfl (lamfr_by (by show lamFrB (defScope s_law) _ = true; decide +kernel)) rfl) (.cons (Lg.pe_lamW1 TB rfl (lamfr_by (by show lamFrB (defScope s_law) _ = true; decide +kernel)) rfl rfl pe_int) (.cons (Lg.pe_lamW1 TB rfl (lamfr_by (by show lamFrB (defScope s_law) _ = true; decide +kernel)) rfl rfl pe_int) (.cons (Lg.pe_lamW1 TB rfl (lamfr_by (by show lamFrB (defScope s_law) _ = true; decide +kernel)) rfl rfl pe_int) (.cons (Lg.pe_lamW1 TB rfl (lamfr_by (by show lamFrB (defScope s_law) _ = true; decide +kernel)) rfl rfl pe_int) .nil)))))))
 (xss_cons (xs_set (i := 9) sc_law.nd rfl (Or.inl rfl) (x_lst (xa_cons (x_tup (xa_cons xstr (xa_cons (x_tup (xa_cons (xvar (pv 14)) xa_nil)) xa_nil))) (xa_cons (x_tup (xa_cons xstr (xa_cons (x_tup (xa_cons (xvar (pv 12)) xa_nil)) xa_nil))) (xa_cons (x_tup (xa_cons xstr (xa_cons (x_tup (xa_cons (xvar (pv 14)) xa_nil)) xa_nil))) (xa_cons (x_tup (xa_cons xstr (xa_cons (x_tup (xa_cons (xvar (pv 14)) xa_nil)) xa_nil))) xa_nil))))))
 (xss_one (xs_if (xt_not (xt_val (xcall (snd_pure0 .nil) (ok__law_same T 5) (hr.mono (by decide)) (by rfl) T.m__law_same T.F__law_same.kp T.b__law_same .nil pass0 (xa_cons (x_whys (k := kLam) (fun B => ok_whysT (base := B) T kLam) (exTb_ok T) rfl hcab (hr.mono (by decide)) (by rfl) T.m__law_whys T.F__law_whys.kp T.b__law_whys (.cons (Lg.lamS1_by (by show Lg.lamS1B (defScope s_law) _ ["_law_script", "_law_bag_here", "_law_turn", "_law_numbers_here", "_law_thing", "_law_peg", "_law_bare", "_law_found", "_law_text", "_law_due", "_law_same_here", "_law_asks", "_law_bad", "_law_names_here", "_law_odd_here"] [] = true; decide +kernel)) (fun _ _ _ _ _ => .of_eq rfl) (fun B f c' A0 outer s H E hr => (xmkR (C := A.C_Thing) T.n_Thing .nil T.k_Thing (okX_Thing_init T) (hr.mono (by decide)) (by rfl) T.m_Thing T.b_Thing_init .nil (passes_call (takes_of rfl rfl rfl rfl) fun _ _ _ _ h => h) (xa_cons (xvar (pv 14)) (xa_cons (xvar (pv 12)) xa_nil)))) (.cons1 (Lg.lamS1_by (by show Lg.lamS1B (defScope s_law) _ ["_law_script", "_law_bag_here", "_law_turn", "_law_numbers_here", "_law_thing", "_law_peg", "_law_bare", "_law_found", "_law_text", "_law_due", "_law_same_here", "_law_asks", "_law_bad", "_law_names_here", "_law_odd_here"] ["_law_a"] = true; decide +kernel)) (fun _ _ _ _ _ _ _ ht => .of_defaults rfl ht rfl rfl rfl) (fun B f c' A0 outer s H E hr => (xmkR (C := A.C_Thing) T.n_Thing .nil T.k_Thing (okX_Thing_init T) (hr.mono (by decide)) (by rfl) T.m_Thing T.b_Thing_init .nil (passes_call (takes_of rfl rfl rfl rfl) fun _ _ _ _ h => h) (xa_cons (xix ix_seq snd_ix (xvar (pv 13)) xint (fun _ _ => rfl)) (xa_cons (xvar (pv 12)) xa_nil)))) (.cons1 (Lg.lamS1_by (by show Lg.lamS1B (defScope s_law) _ ["_law_script", "_law_bag_here", "_law_turn", "_law_numbers_here", "_law_thing", "_law_peg", "_law_bare", "_law_found", "_law_text", "_law_due", "_law_same_here", "_law_asks", "_law_bad", "_law_names_here", "_law_odd_here"] ["_law_b"] = true; decide +kernel)) (fun _ _ _ _ _ _ _ ht => .of_defaults rfl ht rfl rfl rfl) (fun B f c' A0 outer s H E hr => (xmkR (C := A.C_Peg) T.n_Peg .nil T.k_Peg (okX_Peg_init T) (hr.mono (by decide)) (by rfl) T.m_Peg T.b_Peg_init .nil (passes_call (takes_of rfl rfl rfl rfl) fun _ _ _ _ h => h) (xa_cons (xvar (pv 14)) xa_nil))) (.cons1 (Lg.lamS1_by (by show Lg.lamS1B (defScope s_law) _ ["_law_script", "_law_bag_here", "_law_turn", "_law_numbers_here", "_law_thing", "_law_peg", "_law_bare", "_law_found", "_law_text", "_law_due", "_law_same_here", "_law_asks", "_law_bad", "_law_names_here", "_law_odd_here"] ["_law_c"] = true; decide +kernel)) (fun _ _ _ _ _ _ _ ht => .of_defaults rfl ht rfl rfl rfl) (fun B f c' A0 outer s H E hr => (xmkR (C := A.C_Seat) T.n_Seat .nil T.k_Seat (okX_Seat_init T) (hr.mono (by decide)) (by rfl) T.m_Seat T.b_Seat_init .nil (passes_call (takes_of rfl rfl rfl rfl) fun _ _ _ _ h => h) (xa_cons (xvar (pv 14)) xa_nil))) (.cons1 (Lg.lamS1_by (by show Lg.lamS1B (defScope s_law) _ ["_law_script", "_law_bag_here", "_law_turn", "_law_numbers_here", "_law_thing", "_law_peg", "_law_bare", "_law_found", "_law_text", "_law_due", "_law_same_here", "_law_asks", "_law_bad", "_law_names_here", "_law_odd_here"] ["_law_d"] = true; decide +kernel)) (fun _ _ _ _ _ _ _ ht => .of_defaults rfl ht rfl rfl rfl) (fun B f c' A0 outer s H E hr => (xprop' (C := A.C_Thing) T.n_Thing (snd_pure0 .nil) (xmkR (C := A.C_Thing) T.n_Thing .nil T.k_Thing (okX_Thing_init T) (hr.mono (by decide)) (by rfl) T.m_Thing T.b_Thing_init .nil (passes_call (takes_of rfl rfl rfl rfl) fun _ _ _ _ h => h) (xa_cons (xix ix_seq snd_ix (xvar (pv 13)) xint (fun _ _ => rfl)) (xa_cons (xop op_sub snd_sub (xop op_pow snd_pow xint xint) xint) xa_nil))) fun p => pe_prop p T.c_Thing T.p_Thing_number (ok_Thing_number T) (hr.mono (by decide)) T.b_Thing_number .nil pass0 rfl)) .nil))))) (xvar (pv 11))) (xa_cons (xop op_addA snd_add (xvar (pv 9)) (x_lst (xa_cons (x_tup (xa_cons xstr (xa_cons (xop op_sub snd_sub (xop op_pow snd_pow xint xint) xint) xa_nil))) xa_nil))) xa_nil))) (by intro _; rfl)))
 (xss_one (xs_ret xbl))
 xss_nil)))))))))))))))))
 (xss_one (xs_ret (x_and (xcmp (op_eqA hr.units) snd_eq (xcval T.r_Seat T.v_Seat_KIND (fun _ => .str _) (by rfl) T.m_Seat) xstr (nomark _)) (x_and (xcmp (op_eqA hr.units) snd_eq (xcval T.r_Thing T.v_Thing_KIND (fun _ => .str _) (by rfl) T.m_Thing) xstr (nomark _)) (x_one (x_not (xcval T.r_Peg T.v_Peg_IS_LOOKED_AT (fun _ => .bl _) (by rfl) T.m_Peg)))))))))
end
end PL
/-! what the laws draw (own work): over W__law_pick, W__law_names, W__law_mixed, W__law_numbers -/
namespace PL
open PySem L2 Lp
abbrev nmD (l : List Nat) : D := .str (SX.S l)
theorem pick_lst {ds : List D} {R : RB} (h0 : 0 < ds.length) (h1 : ds.length ≤ 1000000000000000000) (hR : ∀ d ∈ ds, R (.fz d) [.bag]) : W__law_pick [.mt 0, .fz (.lst ds)] [.bag] noX R :=
  ⟨rfl, rfl, trivial, rfl, ⟨by omega, by omega⟩, fun d d0 d1 => ⟨rfl, optK_in (k := fun d => R (.fz d) [.bag]) d0 d1 hR⟩⟩
theorem pick_str {z : Str} {R : RB} (h0 : 0 < z.length) (h1 : z.length ≤ sizeLine) (hR : ∀ c ∈ z.cps.toList, R (.fz (.str ⟨#[c]⟩)) [.bag]) : W__law_pick [.mt 0, .fz (.str z)] [.bag] noX R :=
  ⟨rfl, h1, rfl, trivial, rfl, ⟨by omega, by have : sizeLine = 16777216 := rfl; omega⟩, fun d d0 d1 => ⟨rfl, h1, optK_in (k := fun c => R (.fz (.str ⟨#[c]⟩)) [.bag]) d0 (by have : z.cps.toList.length = z.length := Array.length_toList; omega) hR⟩⟩
theorem range_get {lo : Int} {n i : Nat} {d : D} (h : (rangeD lo n)[i]? = some d) : d = .int (lo + (i : Nat)) ∧ i < n := by
  unfold rangeD at h
  rw [List.getElem?_map] at h
  cases e : (List.range n)[i]? with
  | none => rw [e] at h; cases h
  | some k =>
    rw [e] at h
    have hk := List.getElem?_range (n := n) (i := i) (by have := get_lt e; rwa [List.length_range] at this)
    rw [e] at hk
    cases hk
    cases h
    exact ⟨rfl, by have := get_lt e; rwa [List.length_range] at this⟩
theorem letters_eq : Str.ofString "abcdefghijklmnopqrstuvwxyz" = SX.S azL := by decide +kernel
theorem az_len : azL.length = 26 := by decide
theorem S_lt {l : List Nat} {n : Nat} (h : l.length ≤ n) : (SX.S l).length ≤ n := by rw [SX.S_len]; exact h
theorem nm_okS {l : List Nat} (h : ∀ c ∈ l, c < 128) : okS (SX.S l) := okS_iff.mpr fun c hc => by
  have := h c hc
  omega
theorem names_spec2 {n : Int} {R : RB} (h0 : 0 ≤ n) (h1 : n ≤ 26) (hR : ∀ ls : List (List Nat), ls.length = n.toNat → (∀ l ∈ ls, IsNm l) → ls.Nodup → R (.fz (.lst (ls.map nmD))) [.bag]) : W__law_names [.mt 0, .fz (.int n)] [.bag] noX R := by
  have sz : sizeLine = 16777216 := rfl
  refine ⟨rfl, trivial, (by decide : 5 ≤ sizeLine), rfl, trivial, pick_lst (ds := [.int 0, .int 0, .int 1, .int 3, .int 7]) (by decide) (by decide) fun d hd => ⟨rfl, ?_⟩⟩
  have hd : ∃ j : Int, d = .int j ∧ 0 ≤ j ∧ j ≤ 7 := by
    simp only [List.mem_cons, List.not_mem_nil, or_false] at hd
    rcases hd with rfl | rfl | rfl | rfl | rfl <;> exact ⟨_, rfl, by decide, by decide⟩
  obtain ⟨j, rfl, j0, j1⟩ := hd
  refine ⟨⟨by omega, by omega⟩, ?_⟩
  refine lcW_at (fun i acc => ∃ l : List Nat, l.length = i ∧ (∀ c ∈ l, 97 ≤ c ∧ c ≤ 122) ∧ acc = (l.map fun c => D.str (SX.S [c])).map B.fz) ⟨[], rfl, (fun c hc => by cases hc), rfl⟩ (fun i d _ acc ⟨l, hl, hc, ea⟩ nx hn => ?_) fun acc ⟨l, hl, hc, ea⟩ => ?_
  · refine ⟨rfl, trivial, ?_⟩
    refine pick_str (by rw [letters_eq, SX.S_len, az_len]; decide) (by rw [letters_eq, SX.S_len, az_len]; decide) fun c hcm => ⟨rfl, ?_⟩
    rw [letters_eq] at hcm
    have hcm : c ∈ azL := hcm
    exact hn _ ⟨l ++ [c], by rw [List.length_append, hl]; rfl, fun x hx => by
      rcases List.mem_append.mp hx with z | z
      · exact hc x z
      · rw [List.mem_singleton.mp z]; exact az_mem hcm, by rw [ea, List.map_append, List.map_append]; rfl⟩
  · subst ea
    refine asDs_map ?_
    have e0 : (l.map fun c => D.str (SX.S [c])) = (l.map fun c => SX.S [c]).map D.str := by rw [List.map_map]; rfl
    rw [e0]
    rw [range_len] at hl
    have hl7 : l.length ≤ 7 := by omega
    have hj : Txt.join (SX.S []) (l.map fun c => SX.S [c]) = SX.S l := join_flat l
    have ee : Str.ofString "" = SX.S [] := rfl
    refine asStrs_m ⟨?_, ?_⟩
    · have e1 := sum_le (fun z : Str => z.length) 1 (l.map fun c => SX.S [c]) fun z hz => by
        obtain ⟨c, _, rfl⟩ := List.mem_map.mp hz
        exact Nat.le_refl 1
      rw [List.length_map] at e1
      have e2 : (Str.ofString "").length = 0 := rfl
      rw [e2]
      show ((l.map fun c => SX.S [c]).map fun z => z.length).sum + _ ≤ _
      omega
    rw [ee, hj]
    refine ⟨by rw [SX.S_len]; omega, rfl, trivial, rfl, ⟨by omega, by rw [SX.S_len]; omega⟩, fun a a0 a1 => ⟨rfl, rfl, trivial, rfl, ⟨by decide, by decide⟩, fun f f0 f1 => ⟨rfl, (by decide : 2 ≤ sizeLine), rfl, ⟨by omega, by omega⟩, ?_⟩⟩⟩
    rw [SX.S_len] at a1
    have key : ∀ k : Nat, (cutS (SX.S l) none (some a) ++ SX.S [(f.toNat + 5 * k) % 26 + 97]) ++ cutS (SX.S l) (some a) none = SX.S (nmAt l a.toNat f.toNat k) := fun k => by
      rw [cut_to a0, cut_from a0, SX.S_cat, SX.S_cat]
      unfold nmAt
      rw [List.append_assoc]
      rfl
    refine lcW_fun (fun k => nmD (nmAt l a.toNat f.toNat k)) (fun i d hd acc nx hn => ?_) ?_
    · obtain ⟨rfl, hi⟩ := range_get hd
      have l26 : (Str.ofString "abcdefghijklmnopqrstuvwxyz").length ≤ sizeLine := by rw [letters_eq, SX.S_len, az_len]; decide
      have em : (f + 5 * (0 + (i : Nat))) % 26 = (((f.toNat + 5 * i) % 26 : Nat) : Int) := by omega
      have lt : (f.toNat + 5 * i) % 26 < 26 := Nat.mod_lt _ (by decide)
      have at_ : atI (Str.ofString "abcdefghijklmnopqrstuvwxyz").cps.toList ((f + 5 * (0 + (i : Nat))) % 26) = some ((f.toNat + 5 * i) % 26 + 97) := by
        rw [em, atI_nat (Int.natCast_nonneg _), letters_eq]
        exact az_get lt
      have k := key i
      refine ⟨?_, .inl ⟨by decide, by decide⟩, (by decide : (0 : Int) < 26), l26, optK_at at_ ?_⟩
      · rw [SX.S_len]; omega
      have c1 : (Str.mk #[(f.toNat + 5 * i) % 26 + 97]) = SX.S [(f.toNat + 5 * i) % 26 + 97] := rfl
      have len1 : (cutS (SX.S l) none (some a)).length ≤ 7 := by rw [cut_to a0, SX.S_len, List.length_take]; omega
      have len2 : (cutS (SX.S l) (some a) none).length ≤ 7 := by rw [cut_from a0, SX.S_len, List.length_drop]; omega
      rw [c1]
      have len3 := PySem.Str.length_append (cutS (SX.S l) none (some a)) (SX.S [(f.toNat + 5 * i) % 26 + 97])
      have len4 : (SX.S [(f.toNat + 5 * i) % 26 + 97]).length = 1 := rfl
      refine ⟨by omega, by rw [SX.S_len]; omega, by omega, ?_⟩
      show nx (acc ++ [B.fz (D.str ((cutS (SX.S l) none (some a) ++ SX.S [(f.toNat + 5 * i) % 26 + 97]) ++ cutS (SX.S l) (some a) none))]) _
      rw [k]
      exact hn
    · rw [range_len]
      refine asDs_map ?_
      have nd := nmAt_nd (stem := l) (a := a.toNat) (first := f.toNat) (m := (n - 0).toNat) (by omega)
      have e : (List.range n.toNat).map (fun k => nmD (nmAt l a.toNat f.toNat k)) = ((List.range n.toNat).map (nmAt l a.toNat f.toNat)).map nmD := by rw [List.map_map]; rfl
      rw [e]
      refine hR _ (by rw [List.length_map, List.length_range]) (fun z hz => ?_) (by rw [Int.sub_zero] at nd; exact nd)
      obtain ⟨k, _, rfl⟩ := List.mem_map.mp hz
      exact nmAt_ok hl7 hc
/-- in a drawn order -/
theorem mixed_spec {ds : List D} {R : RB} (h : ds.length ≤ 100000) (hR : ∀ es : List D, es.Perm ds → R (.fz (.lst es)) [.bag, .dead]) : W__law_mixed [.mt 0, .fz (.lst ds)] [.bag] noX R := by
  have sz : sizeLine = 16777216 := rfl
  refine ⟨rfl, (by decide : 0 ≤ sizeLine), forC_at (fun i Γ S => Γ.take 3 = [some (.mt 0), some (.fz (.lst ds)), some (.mt 1)] ∧ Γ.length = 4 ∧ ∃ es : List D, S = [.bag, .lst (es.map .fz)] ∧ es.Perm (ds.take i)) ?_ ⟨rfl, rfl, [], rfl, .refl _⟩ ?_ ?_⟩
  · rintro i Γ S ⟨e1, e2, es, rfl, hp⟩
    match Γ, e1, e2 with
    | [a, b, c, d], e1, _ =>
      cases e1
      show (([some (.mt 0), some (.fz (.lst ds)), some (.mt 1), none] : Ev).all (belowO 2) && (true && ((es.map B.fz).all (belowB 2) && true))) = true
      have z : (es.map B.fz).all (belowB 2) = true := List.all_eq_true.mpr fun b hb => by
        obtain ⟨d, _, rfl⟩ := List.mem_map.mp hb
        rfl
      rw [z]
      rfl
  · rintro i d hd Γ S ⟨e1, e2, es, rfl, hp⟩ nx hn
    match Γ, e1, e2 with
    | [a, b, c, o], e1, _ =>
      cases e1
      have li : i < ds.length := get_lt hd
      have le : es.length = i := by rw [hp.length_eq, List.length_take]; omega
      refine ⟨trivial, rfl, trivial, rfl, ⟨?_, ?_⟩, fun p p0 p1 => ⟨rfl, ⟨?_, p0, ?_⟩, ?_⟩⟩
      · rw [List.length_map]; omega
      · rw [List.length_map]; omega
      · rw [List.length_map]; omega
      · rw [List.length_map] at p1; omega
      · refine hn _ _ ⟨rfl, rfl, es.take p.toNat ++ [d] ++ es.drop p.toNat, ?_, ?_⟩
        · show [Cell.bag, Cell.lst ((es.map B.fz).take p.toNat ++ [B.fz d] ++ (es.map B.fz).drop p.toNat)] = _
          rw [List.map_append, List.map_append, List.map_take, List.map_drop]
          rfl
        · rw [take_succ'' hd]
          have q1 : (es.take p.toNat ++ [d] ++ es.drop p.toNat).Perm ([d] ++ (es.take p.toNat ++ es.drop p.toNat)) := by
            rw [List.append_assoc]
            exact (List.perm_append_comm_assoc _ _ _)
          rw [List.take_append_drop] at q1
          exact q1.trans ((List.perm_append_comm).trans (hp.append_right [d]))
  · rintro Γ S ⟨e1, e2, es, rfl, hp⟩
    match Γ, e1, e2 with
    | [a, b, c, o], e1, _ =>
      cases e1
      rw [List.take_length] at hp
      exact asDs_map (hR es hp)
theorem ints_inj : ∀ {is js : List Int}, is.map D.int = js.map D.int → is = js
  | [], [], _ => rfl
  | [], _ :: _, h => by cases h
  | _ :: _, [], h => by cases h
  | i :: is, j :: js, h => by
    rw [List.map_cons, List.map_cons] at h
    injection h with h1 h2
    injection h1 with h1
    rw [h1, ints_inj h2]
theorem perm_ints {es : List D} {is : List Int} (h : es.Perm (is.map D.int)) : ∃ js : List Int, es = js.map D.int ∧ js.Perm is := by
  have go : ∀ {xs ys : List D}, xs.Perm ys → ∀ is : List Int, ys = is.map D.int → ∃ js : List Int, xs = js.map D.int ∧ js.Perm is := by
    intro xs ys h
    induction h with
    | nil => intro is e; exact ⟨[], rfl, by cases is with
      | nil => exact .refl _
      | cons _ _ => cases e⟩
    | cons x p ih =>
      intro is e
      cases is with
      | nil => cases e
      | cons i is =>
        injection e with e1 e2
        obtain ⟨js, r1, r2⟩ := ih is e2
        exact ⟨i :: js, by rw [e1, r1]; rfl, r2.cons i⟩
    | swap x y l =>
      intro is e
      match is, e with
      | i :: j :: r, e =>
        injection e with e1 e2
        injection e2 with e2 e3
        exact ⟨j :: i :: r, by rw [e1, e2, e3]; rfl, .swap i j r⟩
    | trans p q ih1 ih2 =>
      intro is e
      obtain ⟨js, r1, r2⟩ := ih2 is e
      obtain ⟨ks, s1, s2⟩ := ih1 js r1
      exact ⟨ks, s1, s2.trans r2⟩
  exact go h is rfl
/-- different numbers -/
theorem numbers_spec {n : Int} {R : RB} (h0 : 0 ≤ n) (h1 : n ≤ 26) (hR : ∀ is : List Int, is.length = n.toNat → (∀ i ∈ is, 0 ≤ i ∧ i ≤ 999999999999999999) → is.Nodup → R (.fz (.lst (is.map .int))) [.bag]) : W__law_numbers [.mt 0, .fz (.int n)] [.bag] noX R := by
  have sz : sizeLine = 16777216 := rfl
  refine ⟨rfl, ⟨by decide, by decide, by decide⟩, rfl, trivial, rfl, ⟨by decide, by decide⟩, fun g g0 g1 => ⟨rfl, (by decide : 4 ≤ sizeLine), rfl, trivial, pick_lst (by show 0 < 4; decide) (by show 4 ≤ _; decide) fun gap hg => ⟨rfl, ?_⟩⟩⟩
  have hg : ∃ j : Int, gap = .int j ∧ 1 ≤ j ∧ j ≤ 1000000000 := by
    have g1 : g < 1000000000 := g1
    simp only [List.mem_cons, List.not_mem_nil, or_false] at hg
    rcases hg with rfl | rfl | rfl | rfl
    · exact ⟨_, rfl, by decide, by decide⟩
    · exact ⟨_, rfl, by decide, by decide⟩
    · exact ⟨_, rfl, by decide, by decide⟩
    · exact ⟨_, rfl, by omega, by omega⟩
  obtain ⟨gap, rfl, gp0, gp1⟩ := hg
  refine ⟨rfl, trivial, rfl, ⟨by decide, by decide⟩, fun a a0 a1 => ⟨rfl, ⟨by decide, by decide, by decide⟩, .inr ⟨by omega, by omega⟩, ⟨by decide, by decide, by decide⟩, rfl, trivial, rfl, ⟨by decide, by decide⟩, fun b b0 b1 => ⟨rfl, (by decide : 4 ≤ sizeLine), rfl, trivial, pick_lst (by show 0 < 4; decide) (by show 4 ≤ _; decide) fun low hlow => ⟨rfl, ?_⟩⟩⟩⟩
  have e18 : (10 : Int) ^ Int.toNat 18 = 1000000000000000000 := by decide
  have gm : gap * n ≤ 26000000000 := by
    have h2 : gap * n ≤ 1000000000 * n := Int.mul_le_mul_of_nonneg_right gp1 h0
    omega
  have gm0 : 0 ≤ gap * n := Int.mul_nonneg (by omega) h0
  have hl : ∃ j : Int, low = .int j ∧ 0 ≤ j ∧ j + gap * n ≤ 999999999999999999 := by
    have a1 : a < 1000 := a1
    have b1 : b < 100000000000000000 := b1
    simp only [List.mem_cons, List.not_mem_nil, or_false] at hlow
    rcases hlow with rfl | rfl | rfl | rfl
    · exact ⟨_, rfl, by decide, by omega⟩
    · exact ⟨_, rfl, a0, by omega⟩
    · exact ⟨_, rfl, by rw [e18]; omega, by rw [e18]; omega⟩
    · exact ⟨_, rfl, b0, by omega⟩
  obtain ⟨low, rfl, l0, l1⟩ := hl
  refine ⟨⟨by omega, by omega⟩, ?_⟩
  refine lcW_fun (fun k => .int (low + gap * (k : Nat))) (fun i d hd acc nx hn => ?_) ?_
  · obtain ⟨rfl, hi⟩ := range_get hd
    have e : (0 : Int) + (i : Nat) = (i : Nat) := Int.zero_add _
    rw [e]
    exact ⟨.inr ⟨by omega, by omega⟩, hn⟩
  · rw [range_len]
    have e0 : (List.range (n - 0).toNat).map (fun k => D.int (low + gap * (k : Nat))) = ((List.range n.toNat).map fun k => low + gap * (k : Nat)).map D.int := by rw [List.map_map, Int.sub_zero]; rfl
    refine asDs_map ?_
    rw [show (List.range n.toNat).map (fun k => D.int (low + gap * ((k : Nat) : Int))) = ((List.range n.toNat).map fun k => low + gap * ((k : Nat) : Int)).map D.int by rw [List.map_map]; rfl]
    have nd : ((List.range n.toNat).map fun k => low + gap * ((k : Nat) : Int)).Nodup := by
      refine List.pairwise_map.mpr (List.Pairwise.imp (fun {i j} h => ?_) List.pairwise_lt_range)
      intro e
      have h2 : gap * ((i : Nat) : Int) < gap * ((j : Nat) : Int) := Int.mul_lt_mul_of_pos_left (by omega) (by omega)
      omega
    refine ⟨rfl, trivial, mixed_spec (by rw [List.length_map, List.length_map, List.length_range]; omega) fun es hp => ⟨rfl, ?_⟩⟩
    obtain ⟨is, rfl, hq⟩ := perm_ints hp
    refine hR is (by rw [hq.length_eq, List.length_map, List.length_range]) (fun i hi => ?_) (hq.nodup_iff.mpr nd)
    obtain ⟨k, hk, rfl⟩ := List.mem_map.mp (hq.mem_iff.mp hi)
    have hk := List.mem_range.mp hk
    have h2 : gap * ((k : Nat) : Int) ≤ gap * n := Int.mul_le_mul_of_nonneg_left (by omega) (by omega)
    have h3 : 0 ≤ gap * ((k : Nat) : Int) := Int.mul_nonneg (by omega) (by omega)
    exact ⟨by omega, by omega⟩
end PL

/-! numbers, names, seats (own work): over W_is_number, W_is_name, W_Seat_init, .. -/
namespace PL
open PySem L2 Lp
section
variable {Rx : XP} {R : RB} {S : Sto}
/-- what is_number tells -/
def isNum (d : D) (lo hi : Int) : Bool := match d with
  | .int i => decide (lo ≤ i) && decide (i ≤ hi)
  | _ => false
def isNam (d : D) : Bool := match d with
  | .str z => nmB z
  | _ => false
/-- values of built-in types that are known -/
def known (d : D) : Bool := (tyName d).isSome
theorem num_spec {d : D} {lo hi : Int} (hk : known d = true) (h : R (.fz (.bl (isNum d lo hi))) S) : W_is_number [.fz d, .fz (.int lo), .fz (.int hi)] S Rx R := by
  cases d with
  | int i =>
    refine ⟨rfl, ?_⟩
    show cnd (decide (lo ≤ i)) (R (.fz (.bl (decide (i ≤ hi)))) S) (R (.fz (.bl false)) S)
    cases e : decide (lo ≤ i) with
    | true => rw [show isNum (.int i) lo hi = decide (i ≤ hi) by show (decide (lo ≤ i) && _) = _; rw [e]; rfl] at h; exact h
    | false => rw [show isNum (.int i) lo hi = false by show (decide (lo ≤ i) && _) = _; rw [e]; rfl] at h; exact h
  | bl b => exact ⟨rfl, h⟩
  | non => exact ⟨rfl, h⟩
  | str z => exact ⟨rfl, h⟩
  | lst xs => exact ⟨rfl, h⟩
  | tup xs => exact ⟨rfl, h⟩
  | dic kvs => exact ⟨rfl, h⟩
  | _ => cases hk
theorem nam_spec {d : D} (hk : known d = true) (hl : ∀ z, d = .str z → z.length ≤ sizeLine) (h : R (.fz (.bl (isNam d))) S) : W_is_name [.fz d] S Rx R := by
  cases d with
  | str z =>
    refine ⟨rfl, hl z rfl, ?_⟩
    show cnd (decide ((8 : Int) < (z.length : Int))) _ _
    have h : R (.fz (.bl (decide (z.length ≤ 8) && (Txt.isascii z && (Txt.isalpha z && Txt.islower z))))) S := h
    by_cases e : z.length ≤ 8
    · rw [decide_eq_true e, Bool.true_and] at h
      rw [decide_eq_false (show ¬ (8 : Int) < (z.length : Int) by omega)]
      refine ⟨trivial, ?_⟩
      show cnd (Txt.isascii z) _ _
      cases a : Txt.isascii z with
      | false => rw [a] at h; exact h
      | true =>
        rw [a] at h
        refine ⟨trivial, ?_⟩
        show cnd (Txt.isalpha z) _ _
        cases b : Txt.isalpha z with
        | false => rw [b] at h; exact h
        | true => rw [b] at h; exact ⟨trivial, h⟩
    · rw [decide_eq_false e, Bool.false_and] at h
      rw [decide_eq_true (show (8 : Int) < (z.length : Int) by omega)]
      exact h
  | int i => exact ⟨rfl, h⟩
  | bl b => exact ⟨rfl, h⟩
  | non => exact ⟨rfl, h⟩
  | lst xs => exact ⟨rfl, h⟩
  | tup xs => exact ⟨rfl, h⟩
  | dic kvs => exact ⟨rfl, h⟩
  | _ => cases hk
/-- seats -/
abbrev seatD (n : D) : D := .ins "Seat" [("_name", n)]
abbrev pegD (n : D) : D := .ins "Peg" [("_name", n)]
abbrev thingD (n k : D) : D := .ins "Thing" [("_name", n), ("_number", k)]
/-- what may be asked for as a name -/
structure Nmd (d : D) : Prop where
  k : known d = true
  l : ∀ z, d = .str z → z.length ≤ sizeLine
theorem nmd_nm {l : List Nat} (h : IsNm l) : Nmd (nmD l) := ⟨rfl, fun z e => by cases e; rw [SX.S_len]; have := h.2.1; have : sizeLine = 16777216 := rfl; omega⟩
theorem isNam_nm {l : List Nat} (h : IsNm l) : isNam (nmD l) = true := nm_yes h
def errX (Rx : XP) (C f : Str) (d : D) (S : Sto) : Prop := Rx C [("code", .str C), (f, d)] S
theorem seat_init {c : Str} {n : D} (hc : c = "Seat" ∨ c = "Thing" ∨ c = "Peg") (hn : Nmd n) (h : cnd (isNam n) (R (.fz .non) [.ins c [("_name", .fz n)]]) (errX Rx "InvalidName" "given" n [.ins c []])) : W_Seat_init [.mt 0, .fz n] [.ins c []] Rx R := by
  refine defW_i rfl ?_
  repeat (first | with_reducible refine eC_i ?_ | with_reducible refine eOp_i ?_ | with_reducible refine eUn_i ?_ | with_reducible refine eAnd_i ?_ | with_reducible refine eOr_i ?_ | with_reducible refine eNot_i ?_ | with_reducible refine eIf_i ?_ | with_reducible refine aNil_i ?_ | with_reducible refine aCons_i ?_ | with_reducible refine eCall_i ?_ | with_reducible refine eCallX_i ?_ | with_reducible refine eCallC_i ?_ | with_reducible refine eMethX_i ?_ | with_reducible refine eMethC_i ?_ | with_reducible refine eProp_i ?_ | with_reducible refine eLst_i ?_ | with_reducible refine eTup_i ?_ | with_reducible refine eLstM_i ?_ | with_reducible refine eSl_i ?_ | with_reducible refine oNone_i ?_ | with_reducible refine oSome_i ?_ | with_reducible refine eBM_i ?_ | with_reducible refine tOf_i ?_ | with_reducible refine tBl_i ?_ | with_reducible refine tAndP_i ?_ | with_reducible refine tOrP_i ?_ | with_reducible refine tNotP_i ?_ | with_reducible refine sSeq_i ?_ | with_reducible refine sNext_i ?_ | with_reducible refine sExpr_i ?_ | with_reducible refine sRet_i ?_ | with_reducible refine sRetN_i ?_ | with_reducible refine sIf_i ?_ | with_reducible refine sAsg_i ?_ | with_reducible refine gN_i ?_ | with_reducible refine sForC_i ?_ | with_reducible refine eLc_i ?_ | with_reducible refine eLcM_i ?_ | with_reducible refine tYesP_i ?_ | with_reducible refine eCon_i ?_ | with_reducible refine ePropA_i ?_ | with_reducible refine eMethA_i ?_ | with_reducible refine eMkK_i ?_ | with_reducible refine eMkKX_i ?_ | with_reducible refine eVar_i (by with_unfolding_all rfl) ?_ | with_reducible refine pure1N_i ?_ | with_reducible refine pure2N_i ?_ | with_reducible refine pure1_i ?_ | with_reducible refine pure2_i ?_ | with_reducible refine pure3_i ?_ | with_reducible refine bagJ2_i (by with_unfolding_all rfl) ?_ | with_reducible refine bagJ1_i (by with_unfolding_all rfl) ?_ | with_reducible refine ixL_i (by with_unfolding_all rfl) ?_ | with_reducible refine ixT_i (by with_unfolding_all rfl) ?_ | with_reducible refine addI_i ?_ | with_reducible refine subI_i ?_ | with_reducible refine cmpI_i ?_ | with_reducible refine eqI_i ?_ | with_reducible refine eqS_i ?_ | with_reducible refine lenL_i ?_ | with_reducible refine lenT_i ?_ | with_reducible refine asDsC_i ?_ | with_reducible refine asDsN_i ?_ | with_reducible refine asDsM_i ?_ | with_reducible refine le_i (by with_unfolding_all rfl) ?_ | with_reducible refine eqand_i (by with_unfolding_all rfl) ?_ | with_reducible refine isObj_i ?_ | with_reducible refine isIns_i (by with_unfolding_all rfl) ?_ | with_reducible refine insA_i ?_ | with_reducible refine optK_i (by with_unfolding_all rfl) ?_ | with_reducible refine gT_i (by with_unfolding_all rfl) ?_ | with_reducible refine gsC_i ?_ | with_reducible refine gsN_i ?_ | with_reducible refine sPar_i ?_ | with_reducible refine sPar3_i ?_ | with_reducible refine fldI_i (by with_unfolding_all rfl) ?_ | with_reducible refine eFldA_i ?_ | with_reducible refine fldA_i (by with_unfolding_all decide) (by with_unfolding_all rfl) ?_ | with_reducible refine fldAM_i (by with_unfolding_all rfl) (by with_unfolding_all decide) (by with_unfolding_all rfl) ?_ | with_reducible refine asBl_i ?_ | with_reducible refine asInt_i ?_ | with_reducible refine truth_bl ?_ | with_reducible refine cndT_i ?_ | with_reducible refine cndF_i ?_ | with_reducible refine cndNT_i ?_ | with_reducible refine cndNF_i ?_ | with_reducible refine addS_i (by decide +kernel) ?_ | with_reducible refine addL_i (by with_unfolding_all rfl) ?_ | with_reducible refine powI_i (by with_unfolding_all rfl) ?_ | with_reducible refine bag1_i (by with_unfolding_all rfl) ?_ | with_reducible refine bag2_i (by with_unfolding_all rfl) ?_ | with_reducible refine fmtS_i (by decide +kernel) ?_ | with_reducible refine fmtI_i (by assumption) ?_ | with_reducible refine gStr_i (by assumption) ?_ | with_reducible refine asStr_i ?_ | with_reducible refine jsN_i ?_ | with_reducible refine jsC_i ?_ | with_reducible refine slAnd_i (by decide +kernel) ?_ | with_reducible refine gReprO_i ?_ | with_reducible refine gEqO_i (by with_unfolding_all (show _ ∈ _; exact List.mem_of_elem_eq_true (by rfl))) (by with_unfolding_all rfl) ?_ | with_reducible refine perm10_i ?_ | with_reducible refine eLamL_i (by with_unfolding_all rfl) (lamDs_le (by decide +kernel)) ?_ | with_reducible refine eWhys_i ?_ | with_reducible refine gWhys_i (by with_unfolding_all rfl) (by with_unfolding_all rfl) (by with_unfolding_all rfl) (by with_unfolding_all rfl) ?_ | with_reducible refine why1_i ?_ | with_reducible refine whysN_i ?_ | with_reducible refine whysC_i ?_ | with_reducible refine xWhy_i (by with_unfolding_all rfl) ?_ | with_reducible refine vWhy_i ?_ | with_reducible refine gIsi_i (by with_unfolding_all rfl) ?_ | with_reducible refine cndE_i (by first | with_reducible rfl | assumption | decide +kernel) ?_ | with_reducible refine cndN_i (by first | assumption | decide +kernel) ?_ | with_reducible refine cndE2_i (by first | with_reducible rfl | assumption | decide +kernel) ?_ | with_reducible refine cndN2_i (by first | assumption | decide +kernel) ?_)
  refine nam_spec hn.k hn.l ?_
  repeat (first | with_reducible refine eC_i ?_ | with_reducible refine eOp_i ?_ | with_reducible refine eUn_i ?_ | with_reducible refine eAnd_i ?_ | with_reducible refine eOr_i ?_ | with_reducible refine eNot_i ?_ | with_reducible refine eIf_i ?_ | with_reducible refine aNil_i ?_ | with_reducible refine aCons_i ?_ | with_reducible refine eCall_i ?_ | with_reducible refine eCallX_i ?_ | with_reducible refine eCallC_i ?_ | with_reducible refine eMethX_i ?_ | with_reducible refine eMethC_i ?_ | with_reducible refine eProp_i ?_ | with_reducible refine eLst_i ?_ | with_reducible refine eTup_i ?_ | with_reducible refine eLstM_i ?_ | with_reducible refine eSl_i ?_ | with_reducible refine oNone_i ?_ | with_reducible refine oSome_i ?_ | with_reducible refine eBM_i ?_ | with_reducible refine tOf_i ?_ | with_reducible refine tBl_i ?_ | with_reducible refine tAndP_i ?_ | with_reducible refine tOrP_i ?_ | with_reducible refine tNotP_i ?_ | with_reducible refine sSeq_i ?_ | with_reducible refine sNext_i ?_ | with_reducible refine sExpr_i ?_ | with_reducible refine sRet_i ?_ | with_reducible refine sRetN_i ?_ | with_reducible refine sIf_i ?_ | with_reducible refine sAsg_i ?_ | with_reducible refine gN_i ?_ | with_reducible refine sForC_i ?_ | with_reducible refine eLc_i ?_ | with_reducible refine eLcM_i ?_ | with_reducible refine tYesP_i ?_ | with_reducible refine eCon_i ?_ | with_reducible refine ePropA_i ?_ | with_reducible refine eMethA_i ?_ | with_reducible refine eMkK_i ?_ | with_reducible refine eMkKX_i ?_ | with_reducible refine eVar_i (by with_unfolding_all rfl) ?_ | with_reducible refine pure1N_i ?_ | with_reducible refine pure2N_i ?_ | with_reducible refine pure1_i ?_ | with_reducible refine pure2_i ?_ | with_reducible refine pure3_i ?_ | with_reducible refine bagJ2_i (by with_unfolding_all rfl) ?_ | with_reducible refine bagJ1_i (by with_unfolding_all rfl) ?_ | with_reducible refine ixL_i (by with_unfolding_all rfl) ?_ | with_reducible refine ixT_i (by with_unfolding_all rfl) ?_ | with_reducible refine addI_i ?_ | with_reducible refine subI_i ?_ | with_reducible refine cmpI_i ?_ | with_reducible refine eqI_i ?_ | with_reducible refine eqS_i ?_ | with_reducible refine lenL_i ?_ | with_reducible refine lenT_i ?_ | with_reducible refine asDsC_i ?_ | with_reducible refine asDsN_i ?_ | with_reducible refine asDsM_i ?_ | with_reducible refine le_i (by with_unfolding_all rfl) ?_ | with_reducible refine eqand_i (by with_unfolding_all rfl) ?_ | with_reducible refine isObj_i ?_ | with_reducible refine isIns_i (by with_unfolding_all rfl) ?_ | with_reducible refine insA_i ?_ | with_reducible refine optK_i (by with_unfolding_all rfl) ?_ | with_reducible refine gT_i (by with_unfolding_all rfl) ?_ | with_reducible refine gsC_i ?_ | with_reducible refine gsN_i ?_ | with_reducible refine sPar_i ?_ | with_reducible refine sPar3_i ?_ | with_reducible refine fldI_i (by with_unfolding_all rfl) ?_ | with_reducible refine eFldA_i ?_ | with_reducible refine fldA_i (by with_unfolding_all decide) (by with_unfolding_all rfl) ?_ | with_reducible refine fldAM_i (by with_unfolding_all rfl) (by with_unfolding_all decide) (by with_unfolding_all rfl) ?_ | with_reducible refine asBl_i ?_ | with_reducible refine asInt_i ?_ | with_reducible refine truth_bl ?_ | with_reducible refine cndT_i ?_ | with_reducible refine cndF_i ?_ | with_reducible refine cndNT_i ?_ | with_reducible refine cndNF_i ?_ | with_reducible refine addS_i (by decide +kernel) ?_ | with_reducible refine addL_i (by with_unfolding_all rfl) ?_ | with_reducible refine powI_i (by with_unfolding_all rfl) ?_ | with_reducible refine bag1_i (by with_unfolding_all rfl) ?_ | with_reducible refine bag2_i (by with_unfolding_all rfl) ?_ | with_reducible refine fmtS_i (by decide +kernel) ?_ | with_reducible refine fmtI_i (by assumption) ?_ | with_reducible refine gStr_i (by assumption) ?_ | with_reducible refine asStr_i ?_ | with_reducible refine jsN_i ?_ | with_reducible refine jsC_i ?_ | with_reducible refine slAnd_i (by decide +kernel) ?_ | with_reducible refine gReprO_i ?_ | with_reducible refine gEqO_i (by with_unfolding_all (show _ ∈ _; exact List.mem_of_elem_eq_true (by rfl))) (by with_unfolding_all rfl) ?_ | with_reducible refine perm10_i ?_ | with_reducible refine eLamL_i (by with_unfolding_all rfl) (lamDs_le (by decide +kernel)) ?_ | with_reducible refine eWhys_i ?_ | with_reducible refine gWhys_i (by with_unfolding_all rfl) (by with_unfolding_all rfl) (by with_unfolding_all rfl) (by with_unfolding_all rfl) ?_ | with_reducible refine why1_i ?_ | with_reducible refine whysN_i ?_ | with_reducible refine whysC_i ?_ | with_reducible refine xWhy_i (by with_unfolding_all rfl) ?_ | with_reducible refine vWhy_i ?_ | with_reducible refine gIsi_i (by with_unfolding_all rfl) ?_ | with_reducible refine cndE_i (by first | with_reducible rfl | assumption | decide +kernel) ?_ | with_reducible refine cndN_i (by first | assumption | decide +kernel) ?_ | with_reducible refine cndE2_i (by first | with_reducible rfl | assumption | decide +kernel) ?_ | with_reducible refine cndN2_i (by first | assumption | decide +kernel) ?_)
  cases e : isNam n with
  | true =>
    rw [e] at h
    rcases hc with rfl | rfl | rfl <;> exact ⟨⟨by simp, Nat.le_of_ble_eq_true rfl⟩, h⟩
  | false => rw [e] at h; exact h
theorem peg_init {n : D} (hn : Nmd n) (h : cnd (isNam n) (R (.fz .non) [.ins "Peg" [("_name", .fz n)]]) (errX Rx "InvalidName" "given" n [.ins "Peg" []])) : W_Peg_init [.mt 0, .fz n] [.ins "Peg" []] Rx R := by
  refine supWX_i rfl (by simp) rfl ?_
  repeat (first | with_reducible refine eC_i ?_ | with_reducible refine eOp_i ?_ | with_reducible refine eUn_i ?_ | with_reducible refine eAnd_i ?_ | with_reducible refine eOr_i ?_ | with_reducible refine eNot_i ?_ | with_reducible refine eIf_i ?_ | with_reducible refine aNil_i ?_ | with_reducible refine aCons_i ?_ | with_reducible refine eCall_i ?_ | with_reducible refine eCallX_i ?_ | with_reducible refine eCallC_i ?_ | with_reducible refine eMethX_i ?_ | with_reducible refine eMethC_i ?_ | with_reducible refine eProp_i ?_ | with_reducible refine eLst_i ?_ | with_reducible refine eTup_i ?_ | with_reducible refine eLstM_i ?_ | with_reducible refine eSl_i ?_ | with_reducible refine oNone_i ?_ | with_reducible refine oSome_i ?_ | with_reducible refine eBM_i ?_ | with_reducible refine tOf_i ?_ | with_reducible refine tBl_i ?_ | with_reducible refine tAndP_i ?_ | with_reducible refine tOrP_i ?_ | with_reducible refine tNotP_i ?_ | with_reducible refine sSeq_i ?_ | with_reducible refine sNext_i ?_ | with_reducible refine sExpr_i ?_ | with_reducible refine sRet_i ?_ | with_reducible refine sRetN_i ?_ | with_reducible refine sIf_i ?_ | with_reducible refine sAsg_i ?_ | with_reducible refine gN_i ?_ | with_reducible refine sForC_i ?_ | with_reducible refine eLc_i ?_ | with_reducible refine eLcM_i ?_ | with_reducible refine tYesP_i ?_ | with_reducible refine eCon_i ?_ | with_reducible refine ePropA_i ?_ | with_reducible refine eMethA_i ?_ | with_reducible refine eMkK_i ?_ | with_reducible refine eMkKX_i ?_ | with_reducible refine eVar_i (by with_unfolding_all rfl) ?_ | with_reducible refine pure1N_i ?_ | with_reducible refine pure2N_i ?_ | with_reducible refine pure1_i ?_ | with_reducible refine pure2_i ?_ | with_reducible refine pure3_i ?_ | with_reducible refine bagJ2_i (by with_unfolding_all rfl) ?_ | with_reducible refine bagJ1_i (by with_unfolding_all rfl) ?_ | with_reducible refine ixL_i (by with_unfolding_all rfl) ?_ | with_reducible refine ixT_i (by with_unfolding_all rfl) ?_ | with_reducible refine addI_i ?_ | with_reducible refine subI_i ?_ | with_reducible refine cmpI_i ?_ | with_reducible refine eqI_i ?_ | with_reducible refine eqS_i ?_ | with_reducible refine lenL_i ?_ | with_reducible refine lenT_i ?_ | with_reducible refine asDsC_i ?_ | with_reducible refine asDsN_i ?_ | with_reducible refine asDsM_i ?_ | with_reducible refine le_i (by with_unfolding_all rfl) ?_ | with_reducible refine eqand_i (by with_unfolding_all rfl) ?_ | with_reducible refine isObj_i ?_ | with_reducible refine isIns_i (by with_unfolding_all rfl) ?_ | with_reducible refine insA_i ?_ | with_reducible refine optK_i (by with_unfolding_all rfl) ?_ | with_reducible refine gT_i (by with_unfolding_all rfl) ?_ | with_reducible refine gsC_i ?_ | with_reducible refine gsN_i ?_ | with_reducible refine sPar_i ?_ | with_reducible refine sPar3_i ?_ | with_reducible refine fldI_i (by with_unfolding_all rfl) ?_ | with_reducible refine eFldA_i ?_ | with_reducible refine fldA_i (by with_unfolding_all decide) (by with_unfolding_all rfl) ?_ | with_reducible refine fldAM_i (by with_unfolding_all rfl) (by with_unfolding_all decide) (by with_unfolding_all rfl) ?_ | with_reducible refine asBl_i ?_ | with_reducible refine asInt_i ?_ | with_reducible refine truth_bl ?_ | with_reducible refine cndT_i ?_ | with_reducible refine cndF_i ?_ | with_reducible refine cndNT_i ?_ | with_reducible refine cndNF_i ?_ | with_reducible refine addS_i (by decide +kernel) ?_ | with_reducible refine addL_i (by with_unfolding_all rfl) ?_ | with_reducible refine powI_i (by with_unfolding_all rfl) ?_ | with_reducible refine bag1_i (by with_unfolding_all rfl) ?_ | with_reducible refine bag2_i (by with_unfolding_all rfl) ?_ | with_reducible refine fmtS_i (by decide +kernel) ?_ | with_reducible refine fmtI_i (by assumption) ?_ | with_reducible refine gStr_i (by assumption) ?_ | with_reducible refine asStr_i ?_ | with_reducible refine jsN_i ?_ | with_reducible refine jsC_i ?_ | with_reducible refine slAnd_i (by decide +kernel) ?_ | with_reducible refine gReprO_i ?_ | with_reducible refine gEqO_i (by with_unfolding_all (show _ ∈ _; exact List.mem_of_elem_eq_true (by rfl))) (by with_unfolding_all rfl) ?_ | with_reducible refine perm10_i ?_ | with_reducible refine eLamL_i (by with_unfolding_all rfl) (lamDs_le (by decide +kernel)) ?_ | with_reducible refine eWhys_i ?_ | with_reducible refine gWhys_i (by with_unfolding_all rfl) (by with_unfolding_all rfl) (by with_unfolding_all rfl) (by with_unfolding_all rfl) ?_ | with_reducible refine why1_i ?_ | with_reducible refine whysN_i ?_ | with_reducible refine whysC_i ?_ | with_reducible refine xWhy_i (by with_unfolding_all rfl) ?_ | with_reducible refine vWhy_i ?_ | with_reducible refine gIsi_i (by with_unfolding_all rfl) ?_ | with_reducible refine cndE_i (by first | with_reducible rfl | assumption | decide +kernel) ?_ | with_reducible refine cndN_i (by first | assumption | decide +kernel) ?_ | with_reducible refine cndE2_i (by first | with_reducible rfl | assumption | decide +kernel) ?_ | with_reducible refine cndN2_i (by first | assumption | decide +kernel) ?_)
  refine seat_init (.inr (.inr rfl)) hn ?_
  cases e : isNam n with
  | true => rw [e] at h; exact h
  | false => rw [e] at h; exact h
theorem thing_init {n k : D} (hn : Nmd n) (hk : known k = true) (h : cnd (isNam n) (cnd (isNum k 0 999999999999999999) (R (.fz .non) [.ins "Thing" [("_name", .fz n), ("_number", .fz k)]]) (errX Rx "InvalidNumber" "given" k [.ins "Thing" [("_name", .fz n)]])) (errX Rx "InvalidName" "given" n [.ins "Thing" []])) : W_Thing_init [.mt 0, .fz n, .fz k] [.ins "Thing" []] Rx R := by
  refine supWX_i rfl (by simp) rfl ?_
  repeat (first | with_reducible refine eC_i ?_ | with_reducible refine eOp_i ?_ | with_reducible refine eUn_i ?_ | with_reducible refine eAnd_i ?_ | with_reducible refine eOr_i ?_ | with_reducible refine eNot_i ?_ | with_reducible refine eIf_i ?_ | with_reducible refine aNil_i ?_ | with_reducible refine aCons_i ?_ | with_reducible refine eCall_i ?_ | with_reducible refine eCallX_i ?_ | with_reducible refine eCallC_i ?_ | with_reducible refine eMethX_i ?_ | with_reducible refine eMethC_i ?_ | with_reducible refine eProp_i ?_ | with_reducible refine eLst_i ?_ | with_reducible refine eTup_i ?_ | with_reducible refine eLstM_i ?_ | with_reducible refine eSl_i ?_ | with_reducible refine oNone_i ?_ | with_reducible refine oSome_i ?_ | with_reducible refine eBM_i ?_ | with_reducible refine tOf_i ?_ | with_reducible refine tBl_i ?_ | with_reducible refine tAndP_i ?_ | with_reducible refine tOrP_i ?_ | with_reducible refine tNotP_i ?_ | with_reducible refine sSeq_i ?_ | with_reducible refine sNext_i ?_ | with_reducible refine sExpr_i ?_ | with_reducible refine sRet_i ?_ | with_reducible refine sRetN_i ?_ | with_reducible refine sIf_i ?_ | with_reducible refine sAsg_i ?_ | with_reducible refine gN_i ?_ | with_reducible refine sForC_i ?_ | with_reducible refine eLc_i ?_ | with_reducible refine eLcM_i ?_ | with_reducible refine tYesP_i ?_ | with_reducible refine eCon_i ?_ | with_reducible refine ePropA_i ?_ | with_reducible refine eMethA_i ?_ | with_reducible refine eMkK_i ?_ | with_reducible refine eMkKX_i ?_ | with_reducible refine eVar_i (by with_unfolding_all rfl) ?_ | with_reducible refine pure1N_i ?_ | with_reducible refine pure2N_i ?_ | with_reducible refine pure1_i ?_ | with_reducible refine pure2_i ?_ | with_reducible refine pure3_i ?_ | with_reducible refine bagJ2_i (by with_unfolding_all rfl) ?_ | with_reducible refine bagJ1_i (by with_unfolding_all rfl) ?_ | with_reducible refine ixL_i (by with_unfolding_all rfl) ?_ | with_reducible refine ixT_i (by with_unfolding_all rfl) ?_ | with_reducible refine addI_i ?_ | with_reducible refine subI_i ?_ | with_reducible refine cmpI_i ?_ | with_reducible refine eqI_i ?_ | with_reducible refine eqS_i ?_ | with_reducible refine lenL_i ?_ | with_reducible refine lenT_i ?_ | with_reducible refine asDsC_i ?_ | with_reducible refine asDsN_i ?_ | with_reducible refine asDsM_i ?_ | with_reducible refine le_i (by with_unfolding_all rfl) ?_ | with_reducible refine eqand_i (by with_unfolding_all rfl) ?_ | with_reducible refine isObj_i ?_ | with_reducible refine isIns_i (by with_unfolding_all rfl) ?_ | with_reducible refine insA_i ?_ | with_reducible refine optK_i (by with_unfolding_all rfl) ?_ | with_reducible refine gT_i (by with_unfolding_all rfl) ?_ | with_reducible refine gsC_i ?_ | with_reducible refine gsN_i ?_ | with_reducible refine sPar_i ?_ | with_reducible refine sPar3_i ?_ | with_reducible refine fldI_i (by with_unfolding_all rfl) ?_ | with_reducible refine eFldA_i ?_ | with_reducible refine fldA_i (by with_unfolding_all decide) (by with_unfolding_all rfl) ?_ | with_reducible refine fldAM_i (by with_unfolding_all rfl) (by with_unfolding_all decide) (by with_unfolding_all rfl) ?_ | with_reducible refine asBl_i ?_ | with_reducible refine asInt_i ?_ | with_reducible refine truth_bl ?_ | with_reducible refine cndT_i ?_ | with_reducible refine cndF_i ?_ | with_reducible refine cndNT_i ?_ | with_reducible refine cndNF_i ?_ | with_reducible refine addS_i (by decide +kernel) ?_ | with_reducible refine addL_i (by with_unfolding_all rfl) ?_ | with_reducible refine powI_i (by with_unfolding_all rfl) ?_ | with_reducible refine bag1_i (by with_unfolding_all rfl) ?_ | with_reducible refine bag2_i (by with_unfolding_all rfl) ?_ | with_reducible refine fmtS_i (by decide +kernel) ?_ | with_reducible refine fmtI_i (by assumption) ?_ | with_reducible refine gStr_i (by assumption) ?_ | with_reducible refine asStr_i ?_ | with_reducible refine jsN_i ?_ | with_reducible refine jsC_i ?_ | with_reducible refine slAnd_i (by decide +kernel) ?_ | with_reducible refine gReprO_i ?_ | with_reducible refine gEqO_i (by with_unfolding_all (show _ ∈ _; exact List.mem_of_elem_eq_true (by rfl))) (by with_unfolding_all rfl) ?_ | with_reducible refine perm10_i ?_ | with_reducible refine eLamL_i (by with_unfolding_all rfl) (lamDs_le (by decide +kernel)) ?_ | with_reducible refine eWhys_i ?_ | with_reducible refine gWhys_i (by with_unfolding_all rfl) (by with_unfolding_all rfl) (by with_unfolding_all rfl) (by with_unfolding_all rfl) ?_ | with_reducible refine why1_i ?_ | with_reducible refine whysN_i ?_ | with_reducible refine whysC_i ?_ | with_reducible refine xWhy_i (by with_unfolding_all rfl) ?_ | with_reducible refine vWhy_i ?_ | with_reducible refine gIsi_i (by with_unfolding_all rfl) ?_ | with_reducible refine cndE_i (by first | with_reducible rfl | assumption | decide +kernel) ?_ | with_reducible refine cndN_i (by first | assumption | decide +kernel) ?_ | with_reducible refine cndE2_i (by first | with_reducible rfl | assumption | decide +kernel) ?_ | with_reducible refine cndN2_i (by first | assumption | decide +kernel) ?_)
  refine seat_init (.inr (.inl rfl)) hn ?_
  cases e : isNam n with
  | true =>
    rw [e] at h
    repeat (first | with_reducible refine eC_i ?_ | with_reducible refine eOp_i ?_ | with_reducible refine eUn_i ?_ | with_reducible refine eAnd_i ?_ | with_reducible refine eOr_i ?_ | with_reducible refine eNot_i ?_ | with_reducible refine eIf_i ?_ | with_reducible refine aNil_i ?_ | with_reducible refine aCons_i ?_ | with_reducible refine eCall_i ?_ | with_reducible refine eCallX_i ?_ | with_reducible refine eCallC_i ?_ | with_reducible refine eMethX_i ?_ | with_reducible refine eMethC_i ?_ | with_reducible refine eProp_i ?_ | with_reducible refine eLst_i ?_ | with_reducible refine eTup_i ?_ | with_reducible refine eLstM_i ?_ | with_reducible refine eSl_i ?_ | with_reducible refine oNone_i ?_ | with_reducible refine oSome_i ?_ | with_reducible refine eBM_i ?_ | with_reducible refine tOf_i ?_ | with_reducible refine tBl_i ?_ | with_reducible refine tAndP_i ?_ | with_reducible refine tOrP_i ?_ | with_reducible refine tNotP_i ?_ | with_reducible refine sSeq_i ?_ | with_reducible refine sNext_i ?_ | with_reducible refine sExpr_i ?_ | with_reducible refine sRet_i ?_ | with_reducible refine sRetN_i ?_ | with_reducible refine sIf_i ?_ | with_reducible refine sAsg_i ?_ | with_reducible refine gN_i ?_ | with_reducible refine sForC_i ?_ | with_reducible refine eLc_i ?_ | with_reducible refine eLcM_i ?_ | with_reducible refine tYesP_i ?_ | with_reducible refine eCon_i ?_ | with_reducible refine ePropA_i ?_ | with_reducible refine eMethA_i ?_ | with_reducible refine eMkK_i ?_ | with_reducible refine eMkKX_i ?_ | with_reducible refine eVar_i (by with_unfolding_all rfl) ?_ | with_reducible refine pure1N_i ?_ | with_reducible refine pure2N_i ?_ | with_reducible refine pure1_i ?_ | with_reducible refine pure2_i ?_ | with_reducible refine pure3_i ?_ | with_reducible refine bagJ2_i (by with_unfolding_all rfl) ?_ | with_reducible refine bagJ1_i (by with_unfolding_all rfl) ?_ | with_reducible refine ixL_i (by with_unfolding_all rfl) ?_ | with_reducible refine ixT_i (by with_unfolding_all rfl) ?_ | with_reducible refine addI_i ?_ | with_reducible refine subI_i ?_ | with_reducible refine cmpI_i ?_ | with_reducible refine eqI_i ?_ | with_reducible refine eqS_i ?_ | with_reducible refine lenL_i ?_ | with_reducible refine lenT_i ?_ | with_reducible refine asDsC_i ?_ | with_reducible refine asDsN_i ?_ | with_reducible refine asDsM_i ?_ | with_reducible refine le_i (by with_unfolding_all rfl) ?_ | with_reducible refine eqand_i (by with_unfolding_all rfl) ?_ | with_reducible refine isObj_i ?_ | with_reducible refine isIns_i (by with_unfolding_all rfl) ?_ | with_reducible refine insA_i ?_ | with_reducible refine optK_i (by with_unfolding_all rfl) ?_ | with_reducible refine gT_i (by with_unfolding_all rfl) ?_ | with_reducible refine gsC_i ?_ | with_reducible refine gsN_i ?_ | with_reducible refine sPar_i ?_ | with_reducible refine sPar3_i ?_ | with_reducible refine fldI_i (by with_unfolding_all rfl) ?_ | with_reducible refine eFldA_i ?_ | with_reducible refine fldA_i (by with_unfolding_all decide) (by with_unfolding_all rfl) ?_ | with_reducible refine fldAM_i (by with_unfolding_all rfl) (by with_unfolding_all decide) (by with_unfolding_all rfl) ?_ | with_reducible refine asBl_i ?_ | with_reducible refine asInt_i ?_ | with_reducible refine truth_bl ?_ | with_reducible refine cndT_i ?_ | with_reducible refine cndF_i ?_ | with_reducible refine cndNT_i ?_ | with_reducible refine cndNF_i ?_ | with_reducible refine addS_i (by decide +kernel) ?_ | with_reducible refine addL_i (by with_unfolding_all rfl) ?_ | with_reducible refine powI_i (by with_unfolding_all rfl) ?_ | with_reducible refine bag1_i (by with_unfolding_all rfl) ?_ | with_reducible refine bag2_i (by with_unfolding_all rfl) ?_ | with_reducible refine fmtS_i (by decide +kernel) ?_ | with_reducible refine fmtI_i (by assumption) ?_ | with_reducible refine gStr_i (by assumption) ?_ | with_reducible refine asStr_i ?_ | with_reducible refine jsN_i ?_ | with_reducible refine jsC_i ?_ | with_reducible refine slAnd_i (by decide +kernel) ?_ | with_reducible refine gReprO_i ?_ | with_reducible refine gEqO_i (by with_unfolding_all (show _ ∈ _; exact List.mem_of_elem_eq_true (by rfl))) (by with_unfolding_all rfl) ?_ | with_reducible refine perm10_i ?_ | with_reducible refine eLamL_i (by with_unfolding_all rfl) (lamDs_le (by decide +kernel)) ?_ | with_reducible refine eWhys_i ?_ | with_reducible refine gWhys_i (by with_unfolding_all rfl) (by with_unfolding_all rfl) (by with_unfolding_all rfl) (by with_unfolding_all rfl) ?_ | with_reducible refine why1_i ?_ | with_reducible refine whysN_i ?_ | with_reducible refine whysC_i ?_ | with_reducible refine xWhy_i (by with_unfolding_all rfl) ?_ | with_reducible refine vWhy_i ?_ | with_reducible refine gIsi_i (by with_unfolding_all rfl) ?_ | with_reducible refine cndE_i (by first | with_reducible rfl | assumption | decide +kernel) ?_ | with_reducible refine cndN_i (by first | assumption | decide +kernel) ?_ | with_reducible refine cndE2_i (by first | with_reducible rfl | assumption | decide +kernel) ?_ | with_reducible refine cndN2_i (by first | assumption | decide +kernel) ?_)
    refine num_spec hk ?_
    repeat (first | with_reducible refine eC_i ?_ | with_reducible refine eOp_i ?_ | with_reducible refine eUn_i ?_ | with_reducible refine eAnd_i ?_ | with_reducible refine eOr_i ?_ | with_reducible refine eNot_i ?_ | with_reducible refine eIf_i ?_ | with_reducible refine aNil_i ?_ | with_reducible refine aCons_i ?_ | with_reducible refine eCall_i ?_ | with_reducible refine eCallX_i ?_ | with_reducible refine eCallC_i ?_ | with_reducible refine eMethX_i ?_ | with_reducible refine eMethC_i ?_ | with_reducible refine eProp_i ?_ | with_reducible refine eLst_i ?_ | with_reducible refine eTup_i ?_ | with_reducible refine eLstM_i ?_ | with_reducible refine eSl_i ?_ | with_reducible refine oNone_i ?_ | with_reducible refine oSome_i ?_ | with_reducible refine eBM_i ?_ | with_reducible refine tOf_i ?_ | with_reducible refine tBl_i ?_ | with_reducible refine tAndP_i ?_ | with_reducible refine tOrP_i ?_ | with_reducible refine tNotP_i ?_ | with_reducible refine sSeq_i ?_ | with_reducible refine sNext_i ?_ | with_reducible refine sExpr_i ?_ | with_reducible refine sRet_i ?_ | with_reducible refine sRetN_i ?_ | with_reducible refine sIf_i ?_ | with_reducible refine sAsg_i ?_ | with_reducible refine gN_i ?_ | with_reducible refine sForC_i ?_ | with_reducible refine eLc_i ?_ | with_reducible refine eLcM_i ?_ | with_reducible refine tYesP_i ?_ | with_reducible refine eCon_i ?_ | with_reducible refine ePropA_i ?_ | with_reducible refine eMethA_i ?_ | with_reducible refine eMkK_i ?_ | with_reducible refine eMkKX_i ?_ | with_reducible refine eVar_i (by with_unfolding_all rfl) ?_ | with_reducible refine pure1N_i ?_ | with_reducible refine pure2N_i ?_ | with_reducible refine pure1_i ?_ | with_reducible refine pure2_i ?_ | with_reducible refine pure3_i ?_ | with_reducible refine bagJ2_i (by with_unfolding_all rfl) ?_ | with_reducible refine bagJ1_i (by with_unfolding_all rfl) ?_ | with_reducible refine ixL_i (by with_unfolding_all rfl) ?_ | with_reducible refine ixT_i (by with_unfolding_all rfl) ?_ | with_reducible refine addI_i ?_ | with_reducible refine subI_i ?_ | with_reducible refine cmpI_i ?_ | with_reducible refine eqI_i ?_ | with_reducible refine eqS_i ?_ | with_reducible refine lenL_i ?_ | with_reducible refine lenT_i ?_ | with_reducible refine asDsC_i ?_ | with_reducible refine asDsN_i ?_ | with_reducible refine asDsM_i ?_ | with_reducible refine le_i (by with_unfolding_all rfl) ?_ | with_reducible refine eqand_i (by with_unfolding_all rfl) ?_ | with_reducible refine isObj_i ?_ | with_reducible refine isIns_i (by with_unfolding_all rfl) ?_ | with_reducible refine insA_i ?_ | with_reducible refine optK_i (by with_unfolding_all rfl) ?_ | with_reducible refine gT_i (by with_unfolding_all rfl) ?_ | with_reducible refine gsC_i ?_ | with_reducible refine gsN_i ?_ | with_reducible refine sPar_i ?_ | with_reducible refine sPar3_i ?_ | with_reducible refine fldI_i (by with_unfolding_all rfl) ?_ | with_reducible refine eFldA_i ?_ | with_reducible refine fldA_i (by with_unfolding_all decide) (by with_unfolding_all rfl) ?_ | with_reducible refine fldAM_i (by with_unfolding_all rfl) (by with_unfolding_all decide) (by with_unfolding_all rfl) ?_ | with_reducible refine asBl_i ?_ | with_reducible refine asInt_i ?_ | with_reducible refine truth_bl ?_ | with_reducible refine cndT_i ?_ | with_reducible refine cndF_i ?_ | with_reducible refine cndNT_i ?_ | with_reducible refine cndNF_i ?_ | with_reducible refine addS_i (by decide +kernel) ?_ | with_reducible refine addL_i (by with_unfolding_all rfl) ?_ | with_reducible refine powI_i (by with_unfolding_all rfl) ?_ | with_reducible refine bag1_i (by with_unfolding_all rfl) ?_ | with_reducible refine bag2_i (by with_unfolding_all rfl) ?_ | with_reducible refine fmtS_i (by decide +kernel) ?_ | with_reducible refine fmtI_i (by assumption) ?_ | with_reducible refine gStr_i (by assumption) ?_ | with_reducible refine asStr_i ?_ | with_reducible refine jsN_i ?_ | with_reducible refine jsC_i ?_ | with_reducible refine slAnd_i (by decide +kernel) ?_ | with_reducible refine gReprO_i ?_ | with_reducible refine gEqO_i (by with_unfolding_all (show _ ∈ _; exact List.mem_of_elem_eq_true (by rfl))) (by with_unfolding_all rfl) ?_ | with_reducible refine perm10_i ?_ | with_reducible refine eLamL_i (by with_unfolding_all rfl) (lamDs_le (by decide +kernel)) ?_ | with_reducible refine eWhys_i ?_ | with_reducible refine gWhys_i (by with_unfolding_all rfl) (by with_unfolding_all rfl) (by with_unfolding_all rfl) (by with_unfolding_all rfl) ?_ | with_reducible refine why1_i ?_ | with_reducible refine whysN_i ?_ | with_reducible refine whysC_i ?_ | with_reducible refine xWhy_i (by with_unfolding_all rfl) ?_ | with_reducible refine vWhy_i ?_ | with_reducible refine gIsi_i (by with_unfolding_all rfl) ?_ | with_reducible refine cndE_i (by first | with_reducible rfl | assumption | decide +kernel) ?_ | with_reducible refine cndN_i (by first | assumption | decide +kernel) ?_ | with_reducible refine cndE2_i (by first | with_reducible rfl | assumption | decide +kernel) ?_ | with_reducible refine cndN2_i (by first | assumption | decide +kernel) ?_)
    cases e2 : isNum k 0 999999999999999999 with
    | true => rw [e2] at h; exact ⟨⟨rfl, Nat.le_of_ble_eq_true rfl⟩, h⟩
    | false => rw [e2] at h; exact h
  | false => rw [e] at h; exact h
/-- made -/
theorem mk_thing {n k : D} (hn : Nmd n) (hk : known k = true) (h : cnd (isNam n) (cnd (isNum k 0 999999999999999999) (R (.fz (thingD n k)) S) (errX Rx "InvalidNumber" "given" k S)) (errX Rx "InvalidName" "given" n S)) : gMake "Thing" W_Thing_init [] [.fz n, .fz k] S Rx R := by
  refine make2_i (thing_init hn hk ?_)
  cases e : isNam n with
  | true =>
    rw [e] at h
    cases e2 : isNum k 0 999999999999999999 with
    | true => rw [e2] at h; exact h
    | false => rw [e2] at h; exact h
  | false => rw [e] at h; exact h
theorem mk_peg {n : D} (hn : Nmd n) (h : cnd (isNam n) (R (.fz (pegD n)) S) (errX Rx "InvalidName" "given" n S)) : gMake "Peg" W_Peg_init [] [.fz n] S Rx R := by
  refine make1_i (peg_init hn ?_)
  cases e : isNam n with
  | true => rw [e] at h; exact h
  | false => rw [e] at h; exact h
theorem mk_seat {n : D} (hn : Nmd n) (h : cnd (isNam n) (R (.fz (seatD n)) S) (errX Rx "InvalidName" "given" n S)) : gMake "Seat" W_Seat_init [] [.fz n] S Rx R := by
  refine make1_i (seat_init (.inl rfl) hn ?_)
  cases e : isNam n with
  | true => rw [e] at h; exact h
  | false => rw [e] at h; exact h
end
end PL

namespace PL
open PySem L2 Lp
theorem two_of {α : Type} : ∀ {xs : List α}, xs.length = 2 → ∃ a b, xs = [a, b]
  | [a, b], _ => ⟨a, b, rfl⟩
section
variable {PT : Addr} {cl : List (Str × Addr)} {P : EndsP} {d : D}
abbrev E11 : Ev := [some (.fz .scr), some (.mt 1), none, none, none, none, none, none, none, none, none, none, none, none, none]
abbrev G11 (d : D) (ns ks : List D) (n1 : List Nat) (k1 : Int) (o7 o8 o9 o10 o11 o12 : Option B) (o14 : Option B) : Ev :=
  [some (.fz .scr), some (.mt 1), some (.fz d), some (.fz (.lst ks)), some (.fz (thingD (nmD n1) (.int k1))), some (.fz (pegD (nmD n1))), some (.fz (seatD (nmD n1))), o7, o8, o9, o10, o11, o12, some (.fz (.lst ns)), o14]
theorem isnum_k {k : Int} (h : 0 ≤ k ∧ k ≤ 999999999999999999) : isNum (.int k) 0 999999999999999999 = true := by
  show (decide (0 ≤ k) && decide (k ≤ 999999999999999999)) = true
  rw [decide_eq_true h.1, decide_eq_true h.2]; rfl
theorem int_log {k : Int} (h : 0 ≤ k ∧ k ≤ 999999999999999999) : k.natAbs.log2 < 1920 := by
  have h1 : k.natAbs < 2 ^ 1920 := Nat.lt_of_le_of_lt (show k.natAbs ≤ 999999999999999999 by omega) (by decide +kernel)
  by_cases h0 : k.natAbs = 0
  · rw [h0]; decide
  · exact (Nat.log2_lt h0).mpr h1
theorem int_sl {k : Int} (h : 0 ≤ k ∧ k ≤ 999999999999999999) : SL (Str.ofString (toString k)) 18 := ⟨PyProof.Rows.toString_length_le h.1 (by decide) (Int.lt_of_le_of_lt h.2 (by decide +kernel))⟩
theorem nm_sl {l : List Nat} (h : IsNm l) : SL (SX.S l) 8 := ⟨by rw [SX.S_len]; exact h.2.1⟩
theorem l_thing : Str.ofString "thing " = Str.ofString "thing" ++ Str.ofString " " := by decide +kernel
theorem l_peg : Str.ofString "peg " = Str.ofString "peg" ++ Str.ofString " " := by decide +kernel
theorem l_seat : Str.ofString "seat " = Str.ofString "seat" ++ Str.ofString " " := by decide +kernel
theorem l_sp : Str.ofString "Seat(peg " = Str.ofString "Seat(" ++ (Str.ofString "peg" ++ Str.ofString " ") := by decide +kernel
theorem mkT_ok {Rx : XP} {R : RB} {S : Sto} {l : List Nat} {k : Int} (h : R (.fz (thingD (nmD l) (.int k))) S) (hl : IsNm l := by assumption) (hk : 0 ≤ k ∧ k ≤ 999999999999999999 := by assumption) : gMake "Thing" W_Thing_init [] [.fz (nmD l), .fz (.int k)] S Rx R := by
  refine mk_thing (nmd_nm hl) rfl ?_
  rw [isNam_nm hl, isnum_k hk]
  exact h
theorem mkP_ok {Rx : XP} {R : RB} {S : Sto} {l : List Nat} (h : R (.fz (pegD (nmD l))) S) (hl : IsNm l := by assumption) : gMake "Peg" W_Peg_init [] [.fz (nmD l)] S Rx R := by
  refine mk_peg (nmd_nm hl) ?_
  rw [isNam_nm hl]
  exact h

def oddL : List D := [.non, .bl true, .int (0 - 1), .int ((10 : Int) ^ (18 : Int).toNat), .str (Str.ofString ""), .str (Str.ofString "A"), .str (Str.ofString "abcdefghi"), .lst [.int 1], .tup [.int 1, .str (Str.ofString "a")], .str (Str.ofString "1 ")]
theorem odd_spec {R : RB} (h : ∀ o ∈ oddL, R (.fz o) [.bag]) : W__law_odd [.mt 0] [.bag] noX R := by
  unfold W__law_odd
  refine defW_i rfl ?_
  repeat (first | with_reducible refine eC_i ?_ | with_reducible refine eOp_i ?_ | with_reducible refine eUn_i ?_ | with_reducible refine eAnd_i ?_ | with_reducible refine eOr_i ?_ | with_reducible refine eNot_i ?_ | with_reducible refine eIf_i ?_ | with_reducible refine aNil_i ?_ | with_reducible refine aCons_i ?_ | with_reducible refine eCall_i ?_ | with_reducible refine eCallX_i ?_ | with_reducible refine eCallC_i ?_ | with_reducible refine eMethX_i ?_ | with_reducible refine eMethC_i ?_ | with_reducible refine eProp_i ?_ | with_reducible refine eLst_i ?_ | with_reducible refine eTup_i ?_ | with_reducible refine eLstM_i ?_ | with_reducible refine eSl_i ?_ | with_reducible refine oNone_i ?_ | with_reducible refine oSome_i ?_ | with_reducible refine eBM_i ?_ | with_reducible refine tOf_i ?_ | with_reducible refine tBl_i ?_ | with_reducible refine tAndP_i ?_ | with_reducible refine tOrP_i ?_ | with_reducible refine tNotP_i ?_ | with_reducible refine sSeq_i ?_ | with_reducible refine sNext_i ?_ | with_reducible refine sExpr_i ?_ | with_reducible refine sRet_i ?_ | with_reducible refine sRetN_i ?_ | with_reducible refine sIf_i ?_ | with_reducible refine sAsg_i ?_ | with_reducible refine gN_i ?_ | with_reducible refine sForC_i ?_ | with_reducible refine eLc_i ?_ | with_reducible refine eLcM_i ?_ | with_reducible refine tYesP_i ?_ | with_reducible refine eCon_i ?_ | with_reducible refine ePropA_i ?_ | with_reducible refine eMethA_i ?_ | with_reducible refine eMkK_i ?_ | with_reducible refine eMkKX_i ?_ | with_reducible refine eVar_i (by with_unfolding_all rfl) ?_ | with_reducible refine pure1N_i ?_ | with_reducible refine pure2N_i ?_ | with_reducible refine pure1_i ?_ | with_reducible refine pure2_i ?_ | with_reducible refine pure3_i ?_ | with_reducible refine bagJ2_i (by with_unfolding_all rfl) ?_ | with_reducible refine bagJ1_i (by with_unfolding_all rfl) ?_ | with_reducible refine ixL_i (by with_unfolding_all rfl) ?_ | with_reducible refine ixT_i (by with_unfolding_all rfl) ?_ | with_reducible refine addI_i ?_ | with_reducible refine subI_i ?_ | with_reducible refine cmpI_i ?_ | with_reducible refine eqI_i ?_ | with_reducible refine eqS_i ?_ | with_reducible refine lenL_i ?_ | with_reducible refine lenT_i ?_ | with_reducible refine asDsC_i ?_ | with_reducible refine asDsN_i ?_ | with_reducible refine asDsM_i ?_ | with_reducible refine le_i (by with_unfolding_all rfl) ?_ | with_reducible refine eqand_i (by with_unfolding_all rfl) ?_ | with_reducible refine isObj_i ?_ | with_reducible refine isIns_i (by with_unfolding_all rfl) ?_ | with_reducible refine insA_i ?_ | with_reducible refine optK_i (by with_unfolding_all rfl) ?_ | with_reducible refine gT_i (by with_unfolding_all rfl) ?_ | with_reducible refine gsC_i ?_ | with_reducible refine gsN_i ?_ | with_reducible refine sPar_i ?_ | with_reducible refine sPar3_i ?_ | with_reducible refine fldI_i (by with_unfolding_all rfl) ?_ | with_reducible refine eFldA_i ?_ | with_reducible refine fldA_i (by with_unfolding_all decide) (by with_unfolding_all rfl) ?_ | with_reducible refine fldAM_i (by with_unfolding_all rfl) (by with_unfolding_all decide) (by with_unfolding_all rfl) ?_ | with_reducible refine asBl_i ?_ | with_reducible refine asInt_i ?_ | with_reducible refine truth_bl ?_ | with_reducible refine cndT_i ?_ | with_reducible refine cndF_i ?_ | with_reducible refine cndNT_i ?_ | with_reducible refine cndNF_i ?_ | with_reducible refine addS_i (by decide +kernel) ?_ | with_reducible refine addL_i (by with_unfolding_all rfl) ?_ | with_reducible refine powI_i (by with_unfolding_all rfl) ?_ | with_reducible refine bag1_i (by with_unfolding_all rfl) ?_ | with_reducible refine bag2_i (by with_unfolding_all rfl) ?_ | with_reducible refine fmtS_i (by decide +kernel) ?_ | with_reducible refine fmtI_i (by assumption) ?_ | with_reducible refine gStr_i (by assumption) ?_ | with_reducible refine asStr_i ?_ | with_reducible refine jsN_i ?_ | with_reducible refine jsC_i ?_ | with_reducible refine slAnd_i (by decide +kernel) ?_ | with_reducible refine gReprO_i ?_ | with_reducible refine gEqO_i (by with_unfolding_all (show _ ∈ _; exact List.mem_of_elem_eq_true (by rfl))) (by with_unfolding_all rfl) ?_ | with_reducible refine perm10_i ?_ | with_reducible refine eLamL_i (by with_unfolding_all rfl) (lamDs_le (by decide +kernel)) ?_ | with_reducible refine eWhys_i ?_ | with_reducible refine gWhys_i (by with_unfolding_all rfl) (by with_unfolding_all rfl) (by with_unfolding_all rfl) (by with_unfolding_all rfl) ?_ | with_reducible refine why1_i ?_ | with_reducible refine whysN_i ?_ | with_reducible refine whysC_i ?_ | with_reducible refine xWhy_i (by with_unfolding_all rfl) ?_ | with_reducible refine vWhy_i ?_ | with_reducible refine gIsi_i (by with_unfolding_all rfl) ?_ | with_reducible refine cndE_i (by first | with_reducible rfl | assumption | decide +kernel) ?_ | with_reducible refine cndN_i (by first | assumption | decide +kernel) ?_ | with_reducible refine cndE2_i (by first | with_reducible rfl | assumption | decide +kernel) ?_ | with_reducible refine cndN2_i (by first | assumption | decide +kernel) ?_)
  refine pick_lst (by decide) (by decide) fun o ho => ⟨rfl, h o ho⟩
def badL : List D := [.non, .bl true, .int (0 - 1), .int ((10 : Int) ^ (18 : Int).toNat), .str (Str.ofString "1"), .tup [.int 1]]
theorem odd_isNam : ∀ o ∈ oddL, isNam o = false := by
  unfold oddL
  simp only [List.forall_mem_cons, List.forall_mem_nil, and_true]
  decide +kernel
theorem odd_known : ∀ o ∈ oddL, known o = true := by
  unfold oddL
  simp only [List.forall_mem_cons, List.forall_mem_nil, and_true]
  decide +kernel
theorem odd_ok : ∀ o ∈ oddL, dataOk 2 o = true := by
  unfold oddL
  simp only [List.forall_mem_cons, List.forall_mem_nil, and_true]
  decide +kernel
theorem odd_str : ∀ o ∈ oddL, ∀ z, o = .str z → z.length ≤ sizeLine := by
  unfold oddL
  simp only [List.forall_mem_cons, List.forall_mem_nil, and_true, D.str.injEq, reduceCtorEq, false_implies, implies_true, true_and, forall_eq', forall_eq, List.not_mem_nil, and_true]
  decide +kernel
theorem bad_known : ∀ o ∈ badL, known o = true := by
  unfold badL
  simp only [List.forall_mem_cons, List.forall_mem_nil, and_true]
  decide +kernel
theorem bad_ok : ∀ o ∈ badL, dataOk 2 o = true := by
  unfold badL
  simp only [List.forall_mem_cons, List.forall_mem_nil, and_true]
  decide +kernel
theorem bad_num : ∀ o ∈ badL, isNum o 0 999999999999999999 = false := by
  unfold badL
  simp only [List.forall_mem_cons, List.forall_mem_nil, and_true]
  decide +kernel
theorem odd_nmd {o : D} (h : o ∈ oddL) : Nmd o := ⟨odd_known o h, odd_str o h⟩
section
variable {Rx : XP} {R : RB} {S : Sto} {o b : D} {l : List Nat}
theorem mkT_n (h : errX Rx "InvalidName" "given" o S) (ho : o ∈ oddL := by assumption) (hb : b ∈ badL := by assumption) : gMake "Thing" W_Thing_init [] [.fz o, .fz b] S Rx R := by
  refine mk_thing (odd_nmd ho) (bad_known b hb) ?_
  rw [odd_isNam o ho]
  exact h
theorem mkT_b (h : errX Rx "InvalidNumber" "given" b S) (hl : IsNm l := by assumption) (hb : b ∈ badL := by assumption) : gMake "Thing" W_Thing_init [] [.fz (nmD l), .fz b] S Rx R := by
  refine mk_thing (nmd_nm hl) (bad_known b hb) ?_
  rw [isNam_nm hl, bad_num b hb]
  exact h
theorem mkP_n (h : errX Rx "InvalidName" "given" o S) (ho : o ∈ oddL := by assumption) : gMake "Peg" W_Peg_init [] [.fz o] S Rx R := by
  refine mk_peg (odd_nmd ho) ?_
  rw [odd_isNam o ho]
  exact h
theorem mkS_n (h : errX Rx "InvalidName" "given" o S) (ho : o ∈ oddL := by assumption) : gMake "Seat" W_Seat_init [] [.fz o] S Rx R := by
  refine mk_seat (odd_nmd ho) ?_
  rw [odd_isNam o ho]
  exact h
theorem errX_i {C f : Str} {d : D} (h : Rx C [("code", .str C), (f, d)] S) : errX Rx C f d S := h
end
theorem turnL {n1 n2 : List Nat} {k1 k2 : Int} {o7 o8 o9 o10 : Option B} (m1 : IsNm n1) (m2 : IsNm n2) (i1 : 0 ≤ k1 ∧ k1 ≤ 999999999999999999) (i2 : 0 ≤ k2 ∧ k2 ≤ 999999999999999999)
    (hP : ∀ Γ, EvWipe Γ [2, 3, 4, 5, 6, 7, 8, 9, 10, 11, 12, 13, 14] = E11 → P.nx Γ [.tab PT qLam, .bag, .dead]) :
    F_law_0 PT cl (G11 d [nmD n1, nmD n2] [.int k1, .int k2] n1 k1 o7 o8 o9 o10 none none none) [.tab PT qLam, .bag] P := by
  unfold F_law_0
  repeat (first | with_reducible refine eC_i ?_ | with_reducible refine eOp_i ?_ | with_reducible refine eUn_i ?_ | with_reducible refine eAnd_i ?_ | with_reducible refine eOr_i ?_ | with_reducible refine eNot_i ?_ | with_reducible refine eIf_i ?_ | with_reducible refine aNil_i ?_ | with_reducible refine aCons_i ?_ | with_reducible refine eCall_i ?_ | with_reducible refine eCallX_i ?_ | with_reducible refine eCallC_i ?_ | with_reducible refine eMethX_i ?_ | with_reducible refine eMethC_i ?_ | with_reducible refine eProp_i ?_ | with_reducible refine eLst_i ?_ | with_reducible refine eTup_i ?_ | with_reducible refine eLstM_i ?_ | with_reducible refine eSl_i ?_ | with_reducible refine oNone_i ?_ | with_reducible refine oSome_i ?_ | with_reducible refine eBM_i ?_ | with_reducible refine tOf_i ?_ | with_reducible refine tBl_i ?_ | with_reducible refine tAndP_i ?_ | with_reducible refine tOrP_i ?_ | with_reducible refine tNotP_i ?_ | with_reducible refine sSeq_i ?_ | with_reducible refine sNext_i ?_ | with_reducible refine sExpr_i ?_ | with_reducible refine sRet_i ?_ | with_reducible refine sRetN_i ?_ | with_reducible refine sIf_i ?_ | with_reducible refine sAsg_i ?_ | with_reducible refine gN_i ?_ | with_reducible refine sForC_i ?_ | with_reducible refine eLc_i ?_ | with_reducible refine eLcM_i ?_ | with_reducible refine tYesP_i ?_ | with_reducible refine eCon_i ?_ | with_reducible refine ePropA_i ?_ | with_reducible refine eMethA_i ?_ | with_reducible refine eMkK_i ?_ | with_reducible refine eMkKX_i ?_ | with_reducible refine eVar_i (by with_unfolding_all rfl) ?_ | with_reducible refine pure1N_i ?_ | with_reducible refine pure2N_i ?_ | with_reducible refine pure1_i ?_ | with_reducible refine pure2_i ?_ | with_reducible refine pure3_i ?_ | with_reducible refine bagJ2_i (by with_unfolding_all rfl) ?_ | with_reducible refine bagJ1_i (by with_unfolding_all rfl) ?_ | with_reducible refine ixL_i (by with_unfolding_all rfl) ?_ | with_reducible refine ixT_i (by with_unfolding_all rfl) ?_ | with_reducible refine addI_i ?_ | with_reducible refine subI_i ?_ | with_reducible refine cmpI_i ?_ | with_reducible refine eqI_i ?_ | with_reducible refine eqS_i ?_ | with_reducible refine lenL_i ?_ | with_reducible refine lenT_i ?_ | with_reducible refine asDsC_i ?_ | with_reducible refine asDsN_i ?_ | with_reducible refine asDsM_i ?_ | with_reducible refine le_i (by with_unfolding_all rfl) ?_ | with_reducible refine eqand_i (by with_unfolding_all rfl) ?_ | with_reducible refine isObj_i ?_ | with_reducible refine isIns_i (by with_unfolding_all rfl) ?_ | with_reducible refine insA_i ?_ | with_reducible refine optK_i (by with_unfolding_all rfl) ?_ | with_reducible refine gT_i (by with_unfolding_all rfl) ?_ | with_reducible refine gsC_i ?_ | with_reducible refine gsN_i ?_ | with_reducible refine sPar_i ?_ | with_reducible refine sPar3_i ?_ | with_reducible refine fldI_i (by with_unfolding_all rfl) ?_ | with_reducible refine eFldA_i ?_ | with_reducible refine fldA_i (by with_unfolding_all decide) (by with_unfolding_all rfl) ?_ | with_reducible refine fldAM_i (by with_unfolding_all rfl) (by with_unfolding_all decide) (by with_unfolding_all rfl) ?_ | with_reducible refine asBl_i ?_ | with_reducible refine asInt_i ?_ | with_reducible refine truth_bl ?_ | with_reducible refine cndT_i ?_ | with_reducible refine cndF_i ?_ | with_reducible refine cndNT_i ?_ | with_reducible refine cndNF_i ?_ | with_reducible refine addS_i (by decide +kernel) ?_ | with_reducible refine addL_i (by with_unfolding_all rfl) ?_ | with_reducible refine powI_i (by with_unfolding_all rfl) ?_ | with_reducible refine bag1_i (by with_unfolding_all rfl) ?_ | with_reducible refine bag2_i (by with_unfolding_all rfl) ?_ | with_reducible refine fmtS_i (by decide +kernel) ?_ | with_reducible refine fmtI_i (by assumption) ?_ | with_reducible refine gStr_i (by assumption) ?_ | with_reducible refine asStr_i ?_ | with_reducible refine jsN_i ?_ | with_reducible refine jsC_i ?_ | with_reducible refine slAnd_i (by decide +kernel) ?_ | with_reducible refine gReprO_i ?_ | with_reducible refine gEqO_i (by with_unfolding_all (show _ ∈ _; exact List.mem_of_elem_eq_true (by rfl))) (by with_unfolding_all rfl) ?_ | with_reducible refine perm10_i ?_ | with_reducible refine eLamL_i (by with_unfolding_all rfl) (lamDs_le (by decide +kernel)) ?_ | with_reducible refine eWhys_i ?_ | with_reducible refine gWhys_i (by with_unfolding_all rfl) (by with_unfolding_all rfl) (by with_unfolding_all rfl) (by with_unfolding_all rfl) ?_ | with_reducible refine why1_i ?_ | with_reducible refine whysN_i ?_ | with_reducible refine whysC_i ?_ | with_reducible refine xWhy_i (by with_unfolding_all rfl) ?_ | with_reducible refine vWhy_i ?_ | with_reducible refine gIsi_i (by with_unfolding_all rfl) ?_ | with_reducible refine cndE_i (by first | with_reducible rfl | assumption | decide +kernel) ?_ | with_reducible refine cndN_i (by first | assumption | decide +kernel) ?_ | with_reducible refine cndE2_i (by first | with_reducible rfl | assumption | decide +kernel) ?_ | with_reducible refine cndN2_i (by first | assumption | decide +kernel) ?_)
  refine odd_spec fun o ho => ⟨rfl, ?_⟩
  repeat (first | with_reducible refine eC_i ?_ | with_reducible refine eOp_i ?_ | with_reducible refine eUn_i ?_ | with_reducible refine eAnd_i ?_ | with_reducible refine eOr_i ?_ | with_reducible refine eNot_i ?_ | with_reducible refine eIf_i ?_ | with_reducible refine aNil_i ?_ | with_reducible refine aCons_i ?_ | with_reducible refine eCall_i ?_ | with_reducible refine eCallX_i ?_ | with_reducible refine eCallC_i ?_ | with_reducible refine eMethX_i ?_ | with_reducible refine eMethC_i ?_ | with_reducible refine eProp_i ?_ | with_reducible refine eLst_i ?_ | with_reducible refine eTup_i ?_ | with_reducible refine eLstM_i ?_ | with_reducible refine eSl_i ?_ | with_reducible refine oNone_i ?_ | with_reducible refine oSome_i ?_ | with_reducible refine eBM_i ?_ | with_reducible refine tOf_i ?_ | with_reducible refine tBl_i ?_ | with_reducible refine tAndP_i ?_ | with_reducible refine tOrP_i ?_ | with_reducible refine tNotP_i ?_ | with_reducible refine sSeq_i ?_ | with_reducible refine sNext_i ?_ | with_reducible refine sExpr_i ?_ | with_reducible refine sRet_i ?_ | with_reducible refine sRetN_i ?_ | with_reducible refine sIf_i ?_ | with_reducible refine sAsg_i ?_ | with_reducible refine gN_i ?_ | with_reducible refine sForC_i ?_ | with_reducible refine eLc_i ?_ | with_reducible refine eLcM_i ?_ | with_reducible refine tYesP_i ?_ | with_reducible refine eCon_i ?_ | with_reducible refine ePropA_i ?_ | with_reducible refine eMethA_i ?_ | with_reducible refine eMkK_i ?_ | with_reducible refine eMkKX_i ?_ | with_reducible refine eVar_i (by with_unfolding_all rfl) ?_ | with_reducible refine pure1N_i ?_ | with_reducible refine pure2N_i ?_ | with_reducible refine pure1_i ?_ | with_reducible refine pure2_i ?_ | with_reducible refine pure3_i ?_ | with_reducible refine bagJ2_i (by with_unfolding_all rfl) ?_ | with_reducible refine bagJ1_i (by with_unfolding_all rfl) ?_ | with_reducible refine ixL_i (by with_unfolding_all rfl) ?_ | with_reducible refine ixT_i (by with_unfolding_all rfl) ?_ | with_reducible refine addI_i ?_ | with_reducible refine subI_i ?_ | with_reducible refine cmpI_i ?_ | with_reducible refine eqI_i ?_ | with_reducible refine eqS_i ?_ | with_reducible refine lenL_i ?_ | with_reducible refine lenT_i ?_ | with_reducible refine asDsC_i ?_ | with_reducible refine asDsN_i ?_ | with_reducible refine asDsM_i ?_ | with_reducible refine le_i (by with_unfolding_all rfl) ?_ | with_reducible refine eqand_i (by with_unfolding_all rfl) ?_ | with_reducible refine isObj_i ?_ | with_reducible refine isIns_i (by with_unfolding_all rfl) ?_ | with_reducible refine insA_i ?_ | with_reducible refine optK_i (by with_unfolding_all rfl) ?_ | with_reducible refine gT_i (by with_unfolding_all rfl) ?_ | with_reducible refine gsC_i ?_ | with_reducible refine gsN_i ?_ | with_reducible refine sPar_i ?_ | with_reducible refine sPar3_i ?_ | with_reducible refine fldI_i (by with_unfolding_all rfl) ?_ | with_reducible refine eFldA_i ?_ | with_reducible refine fldA_i (by with_unfolding_all decide) (by with_unfolding_all rfl) ?_ | with_reducible refine fldAM_i (by with_unfolding_all rfl) (by with_unfolding_all decide) (by with_unfolding_all rfl) ?_ | with_reducible refine asBl_i ?_ | with_reducible refine asInt_i ?_ | with_reducible refine truth_bl ?_ | with_reducible refine cndT_i ?_ | with_reducible refine cndF_i ?_ | with_reducible refine cndNT_i ?_ | with_reducible refine cndNF_i ?_ | with_reducible refine addS_i (by decide +kernel) ?_ | with_reducible refine addL_i (by with_unfolding_all rfl) ?_ | with_reducible refine powI_i (by with_unfolding_all rfl) ?_ | with_reducible refine bag1_i (by with_unfolding_all rfl) ?_ | with_reducible refine bag2_i (by with_unfolding_all rfl) ?_ | with_reducible refine fmtS_i (by decide +kernel) ?_ | with_reducible refine fmtI_i (by assumption) ?_ | with_reducible refine gStr_i (by assumption) ?_ | with_reducible refine asStr_i ?_ | with_reducible refine jsN_i ?_ | with_reducible refine jsC_i ?_ | with_reducible refine slAnd_i (by decide +kernel) ?_ | with_reducible refine gReprO_i ?_ | with_reducible refine gEqO_i (by with_unfolding_all (show _ ∈ _; exact List.mem_of_elem_eq_true (by rfl))) (by with_unfolding_all rfl) ?_ | with_reducible refine perm10_i ?_ | with_reducible refine eLamL_i (by with_unfolding_all rfl) (lamDs_le (by decide +kernel)) ?_ | with_reducible refine eWhys_i ?_ | with_reducible refine gWhys_i (by with_unfolding_all rfl) (by with_unfolding_all rfl) (by with_unfolding_all rfl) (by with_unfolding_all rfl) ?_ | with_reducible refine why1_i ?_ | with_reducible refine whysN_i ?_ | with_reducible refine whysC_i ?_ | with_reducible refine xWhy_i (by with_unfolding_all rfl) ?_ | with_reducible refine vWhy_i ?_ | with_reducible refine gIsi_i (by with_unfolding_all rfl) ?_ | with_reducible refine cndE_i (by first | with_reducible rfl | assumption | decide +kernel) ?_ | with_reducible refine cndN_i (by first | assumption | decide +kernel) ?_ | with_reducible refine cndE2_i (by first | with_reducible rfl | assumption | decide +kernel) ?_ | with_reducible refine cndN2_i (by first | assumption | decide +kernel) ?_)
  refine pick_lst (ds := badL) (by decide) (by decide) fun b hb => ⟨rfl, ?_⟩
  repeat (first | with_reducible refine eC_i ?_ | with_reducible refine eOp_i ?_ | with_reducible refine eUn_i ?_ | with_reducible refine eAnd_i ?_ | with_reducible refine eOr_i ?_ | with_reducible refine eNot_i ?_ | with_reducible refine eIf_i ?_ | with_reducible refine aNil_i ?_ | with_reducible refine aCons_i ?_ | with_reducible refine eCall_i ?_ | with_reducible refine eCallX_i ?_ | with_reducible refine eCallC_i ?_ | with_reducible refine eMethX_i ?_ | with_reducible refine eMethC_i ?_ | with_reducible refine eProp_i ?_ | with_reducible refine eLst_i ?_ | with_reducible refine eTup_i ?_ | with_reducible refine eLstM_i ?_ | with_reducible refine eSl_i ?_ | with_reducible refine oNone_i ?_ | with_reducible refine oSome_i ?_ | with_reducible refine eBM_i ?_ | with_reducible refine tOf_i ?_ | with_reducible refine tBl_i ?_ | with_reducible refine tAndP_i ?_ | with_reducible refine tOrP_i ?_ | with_reducible refine tNotP_i ?_ | with_reducible refine sSeq_i ?_ | with_reducible refine sNext_i ?_ | with_reducible refine sExpr_i ?_ | with_reducible refine sRet_i ?_ | with_reducible refine sRetN_i ?_ | with_reducible refine sIf_i ?_ | with_reducible refine sAsg_i ?_ | with_reducible refine gN_i ?_ | with_reducible refine sForC_i ?_ | with_reducible refine eLc_i ?_ | with_reducible refine eLcM_i ?_ | with_reducible refine tYesP_i ?_ | with_reducible refine eCon_i ?_ | with_reducible refine ePropA_i ?_ | with_reducible refine eMethA_i ?_ | with_reducible refine eMkK_i ?_ | with_reducible refine eMkKX_i ?_ | with_reducible refine eVar_i (by with_unfolding_all rfl) ?_ | with_reducible refine pure1N_i ?_ | with_reducible refine pure2N_i ?_ | with_reducible refine pure1_i ?_ | with_reducible refine pure2_i ?_ | with_reducible refine pure3_i ?_ | with_reducible refine bagJ2_i (by with_unfolding_all rfl) ?_ | with_reducible refine bagJ1_i (by with_unfolding_all rfl) ?_ | with_reducible refine ixL_i (by with_unfolding_all rfl) ?_ | with_reducible refine ixT_i (by with_unfolding_all rfl) ?_ | with_reducible refine addI_i ?_ | with_reducible refine subI_i ?_ | with_reducible refine cmpI_i ?_ | with_reducible refine eqI_i ?_ | with_reducible refine eqS_i ?_ | with_reducible refine lenL_i ?_ | with_reducible refine lenT_i ?_ | with_reducible refine asDsC_i ?_ | with_reducible refine asDsN_i ?_ | with_reducible refine asDsM_i ?_ | with_reducible refine le_i (by with_unfolding_all rfl) ?_ | with_reducible refine eqand_i (by with_unfolding_all rfl) ?_ | with_reducible refine isObj_i ?_ | with_reducible refine isIns_i (by with_unfolding_all rfl) ?_ | with_reducible refine insA_i ?_ | with_reducible refine optK_i (by with_unfolding_all rfl) ?_ | with_reducible refine gT_i (by with_unfolding_all rfl) ?_ | with_reducible refine gsC_i ?_ | with_reducible refine gsN_i ?_ | with_reducible refine sPar_i ?_ | with_reducible refine sPar3_i ?_ | with_reducible refine fldI_i (by with_unfolding_all rfl) ?_ | with_reducible refine eFldA_i ?_ | with_reducible refine fldA_i (by with_unfolding_all decide) (by with_unfolding_all rfl) ?_ | with_reducible refine fldAM_i (by with_unfolding_all rfl) (by with_unfolding_all decide) (by with_unfolding_all rfl) ?_ | with_reducible refine asBl_i ?_ | with_reducible refine asInt_i ?_ | with_reducible refine truth_bl ?_ | with_reducible refine cndT_i ?_ | with_reducible refine cndF_i ?_ | with_reducible refine cndNT_i ?_ | with_reducible refine cndNF_i ?_ | with_reducible refine addS_i (by decide +kernel) ?_ | with_reducible refine addL_i (by with_unfolding_all rfl) ?_ | with_reducible refine powI_i (by with_unfolding_all rfl) ?_ | with_reducible refine bag1_i (by with_unfolding_all rfl) ?_ | with_reducible refine bag2_i (by with_unfolding_all rfl) ?_ | with_reducible refine fmtS_i (by decide +kernel) ?_ | with_reducible refine fmtI_i (by assumption) ?_ | with_reducible refine gStr_i (by assumption) ?_ | with_reducible refine asStr_i ?_ | with_reducible refine jsN_i ?_ | with_reducible refine jsC_i ?_ | with_reducible refine slAnd_i (by decide +kernel) ?_ | with_reducible refine gReprO_i ?_ | with_reducible refine gEqO_i (by with_unfolding_all (show _ ∈ _; exact List.mem_of_elem_eq_true (by rfl))) (by with_unfolding_all rfl) ?_ | with_reducible refine perm10_i ?_ | with_reducible refine eLamL_i (by with_unfolding_all rfl) (lamDs_le (by decide +kernel)) ?_ | with_reducible refine eWhys_i ?_ | with_reducible refine gWhys_i (by with_unfolding_all rfl) (by with_unfolding_all rfl) (by with_unfolding_all rfl) (by with_unfolding_all rfl) ?_ | with_reducible refine why1_i ?_ | with_reducible refine whysN_i ?_ | with_reducible refine whysC_i ?_ | with_reducible refine xWhy_i (by with_unfolding_all rfl) ?_ | with_reducible refine vWhy_i ?_ | with_reducible refine gIsi_i (by with_unfolding_all rfl) ?_ | with_reducible refine cndE_i (by first | with_reducible rfl | assumption | decide +kernel) ?_ | with_reducible refine cndN_i (by first | assumption | decide +kernel) ?_ | with_reducible refine cndE2_i (by first | with_reducible rfl | assumption | decide +kernel) ?_ | with_reducible refine cndN2_i (by first | assumption | decide +kernel) ?_ | with_reducible refine mkT_n ?_ | with_reducible refine mkT_b ?_ | with_reducible refine mkP_n ?_ | with_reducible refine mkS_n ?_ | with_reducible refine mkT_ok ?_ | with_reducible refine errX_i ?_ | with_reducible refine defWat_i (W := W_Thing_number) (by with_unfolding_all rfl) (by with_unfolding_all rfl) ?_)
  refine mkT_ok ?_ m2 (by decide +kernel)
  repeat (first | with_reducible refine eC_i ?_ | with_reducible refine eOp_i ?_ | with_reducible refine eUn_i ?_ | with_reducible refine eAnd_i ?_ | with_reducible refine eOr_i ?_ | with_reducible refine eNot_i ?_ | with_reducible refine eIf_i ?_ | with_reducible refine aNil_i ?_ | with_reducible refine aCons_i ?_ | with_reducible refine eCall_i ?_ | with_reducible refine eCallX_i ?_ | with_reducible refine eCallC_i ?_ | with_reducible refine eMethX_i ?_ | with_reducible refine eMethC_i ?_ | with_reducible refine eProp_i ?_ | with_reducible refine eLst_i ?_ | with_reducible refine eTup_i ?_ | with_reducible refine eLstM_i ?_ | with_reducible refine eSl_i ?_ | with_reducible refine oNone_i ?_ | with_reducible refine oSome_i ?_ | with_reducible refine eBM_i ?_ | with_reducible refine tOf_i ?_ | with_reducible refine tBl_i ?_ | with_reducible refine tAndP_i ?_ | with_reducible refine tOrP_i ?_ | with_reducible refine tNotP_i ?_ | with_reducible refine sSeq_i ?_ | with_reducible refine sNext_i ?_ | with_reducible refine sExpr_i ?_ | with_reducible refine sRet_i ?_ | with_reducible refine sRetN_i ?_ | with_reducible refine sIf_i ?_ | with_reducible refine sAsg_i ?_ | with_reducible refine gN_i ?_ | with_reducible refine sForC_i ?_ | with_reducible refine eLc_i ?_ | with_reducible refine eLcM_i ?_ | with_reducible refine tYesP_i ?_ | with_reducible refine eCon_i ?_ | with_reducible refine ePropA_i ?_ | with_reducible refine eMethA_i ?_ | with_reducible refine eMkK_i ?_ | with_reducible refine eMkKX_i ?_ | with_reducible refine eVar_i (by with_unfolding_all rfl) ?_ | with_reducible refine pure1N_i ?_ | with_reducible refine pure2N_i ?_ | with_reducible refine pure1_i ?_ | with_reducible refine pure2_i ?_ | with_reducible refine pure3_i ?_ | with_reducible refine bagJ2_i (by with_unfolding_all rfl) ?_ | with_reducible refine bagJ1_i (by with_unfolding_all rfl) ?_ | with_reducible refine ixL_i (by with_unfolding_all rfl) ?_ | with_reducible refine ixT_i (by with_unfolding_all rfl) ?_ | with_reducible refine addI_i ?_ | with_reducible refine subI_i ?_ | with_reducible refine cmpI_i ?_ | with_reducible refine eqI_i ?_ | with_reducible refine eqS_i ?_ | with_reducible refine lenL_i ?_ | with_reducible refine lenT_i ?_ | with_reducible refine asDsC_i ?_ | with_reducible refine asDsN_i ?_ | with_reducible refine asDsM_i ?_ | with_reducible refine le_i (by with_unfolding_all rfl) ?_ | with_reducible refine eqand_i (by with_unfolding_all rfl) ?_ | with_reducible refine isObj_i ?_ | with_reducible refine isIns_i (by with_unfolding_all rfl) ?_ | with_reducible refine insA_i ?_ | with_reducible refine optK_i (by with_unfolding_all rfl) ?_ | with_reducible refine gT_i (by with_unfolding_all rfl) ?_ | with_reducible refine gsC_i ?_ | with_reducible refine gsN_i ?_ | with_reducible refine sPar_i ?_ | with_reducible refine sPar3_i ?_ | with_reducible refine fldI_i (by with_unfolding_all rfl) ?_ | with_reducible refine eFldA_i ?_ | with_reducible refine fldA_i (by with_unfolding_all decide) (by with_unfolding_all rfl) ?_ | with_reducible refine fldAM_i (by with_unfolding_all rfl) (by with_unfolding_all decide) (by with_unfolding_all rfl) ?_ | with_reducible refine asBl_i ?_ | with_reducible refine asInt_i ?_ | with_reducible refine truth_bl ?_ | with_reducible refine cndT_i ?_ | with_reducible refine cndF_i ?_ | with_reducible refine cndNT_i ?_ | with_reducible refine cndNF_i ?_ | with_reducible refine addS_i (by decide +kernel) ?_ | with_reducible refine addL_i (by with_unfolding_all rfl) ?_ | with_reducible refine powI_i (by with_unfolding_all rfl) ?_ | with_reducible refine bag1_i (by with_unfolding_all rfl) ?_ | with_reducible refine bag2_i (by with_unfolding_all rfl) ?_ | with_reducible refine fmtS_i (by decide +kernel) ?_ | with_reducible refine fmtI_i (by assumption) ?_ | with_reducible refine gStr_i (by assumption) ?_ | with_reducible refine asStr_i ?_ | with_reducible refine jsN_i ?_ | with_reducible refine jsC_i ?_ | with_reducible refine slAnd_i (by decide +kernel) ?_ | with_reducible refine gReprO_i ?_ | with_reducible refine gEqO_i (by with_unfolding_all (show _ ∈ _; exact List.mem_of_elem_eq_true (by rfl))) (by with_unfolding_all rfl) ?_ | with_reducible refine perm10_i ?_ | with_reducible refine eLamL_i (by with_unfolding_all rfl) (lamDs_le (by decide +kernel)) ?_ | with_reducible refine eWhys_i ?_ | with_reducible refine gWhys_i (by with_unfolding_all rfl) (by with_unfolding_all rfl) (by with_unfolding_all rfl) (by with_unfolding_all rfl) ?_ | with_reducible refine why1_i ?_ | with_reducible refine whysN_i ?_ | with_reducible refine whysC_i ?_ | with_reducible refine xWhy_i (by with_unfolding_all rfl) ?_ | with_reducible refine vWhy_i ?_ | with_reducible refine gIsi_i (by with_unfolding_all rfl) ?_ | with_reducible refine cndE_i (by first | with_reducible rfl | assumption | decide +kernel) ?_ | with_reducible refine cndN_i (by first | assumption | decide +kernel) ?_ | with_reducible refine cndE2_i (by first | with_reducible rfl | assumption | decide +kernel) ?_ | with_reducible refine cndN2_i (by first | assumption | decide +kernel) ?_ | with_reducible refine defWat_i (W := W_Thing_number) (by with_unfolding_all rfl) (by with_unfolding_all rfl) ?_)
  refine same_ok rfl ?_ ?_
  · have eo := odd_ok o ho
    have eb := bad_ok b hb
    simp only [dataOk, List.all_cons, List.all_nil, List.cons_append, List.nil_append, eo, eb, Bool.and_true]
  repeat (first | with_reducible refine eC_i ?_ | with_reducible refine eOp_i ?_ | with_reducible refine eUn_i ?_ | with_reducible refine eAnd_i ?_ | with_reducible refine eOr_i ?_ | with_reducible refine eNot_i ?_ | with_reducible refine eIf_i ?_ | with_reducible refine aNil_i ?_ | with_reducible refine aCons_i ?_ | with_reducible refine eCall_i ?_ | with_reducible refine eCallX_i ?_ | with_reducible refine eCallC_i ?_ | with_reducible refine eMethX_i ?_ | with_reducible refine eMethC_i ?_ | with_reducible refine eProp_i ?_ | with_reducible refine eLst_i ?_ | with_reducible refine eTup_i ?_ | with_reducible refine eLstM_i ?_ | with_reducible refine eSl_i ?_ | with_reducible refine oNone_i ?_ | with_reducible refine oSome_i ?_ | with_reducible refine eBM_i ?_ | with_reducible refine tOf_i ?_ | with_reducible refine tBl_i ?_ | with_reducible refine tAndP_i ?_ | with_reducible refine tOrP_i ?_ | with_reducible refine tNotP_i ?_ | with_reducible refine sSeq_i ?_ | with_reducible refine sNext_i ?_ | with_reducible refine sExpr_i ?_ | with_reducible refine sRet_i ?_ | with_reducible refine sRetN_i ?_ | with_reducible refine sIf_i ?_ | with_reducible refine sAsg_i ?_ | with_reducible refine gN_i ?_ | with_reducible refine sForC_i ?_ | with_reducible refine eLc_i ?_ | with_reducible refine eLcM_i ?_ | with_reducible refine tYesP_i ?_ | with_reducible refine eCon_i ?_ | with_reducible refine ePropA_i ?_ | with_reducible refine eMethA_i ?_ | with_reducible refine eMkK_i ?_ | with_reducible refine eMkKX_i ?_ | with_reducible refine eVar_i (by with_unfolding_all rfl) ?_ | with_reducible refine pure1N_i ?_ | with_reducible refine pure2N_i ?_ | with_reducible refine pure1_i ?_ | with_reducible refine pure2_i ?_ | with_reducible refine pure3_i ?_ | with_reducible refine bagJ2_i (by with_unfolding_all rfl) ?_ | with_reducible refine bagJ1_i (by with_unfolding_all rfl) ?_ | with_reducible refine ixL_i (by with_unfolding_all rfl) ?_ | with_reducible refine ixT_i (by with_unfolding_all rfl) ?_ | with_reducible refine addI_i ?_ | with_reducible refine subI_i ?_ | with_reducible refine cmpI_i ?_ | with_reducible refine eqI_i ?_ | with_reducible refine eqS_i ?_ | with_reducible refine lenL_i ?_ | with_reducible refine lenT_i ?_ | with_reducible refine asDsC_i ?_ | with_reducible refine asDsN_i ?_ | with_reducible refine asDsM_i ?_ | with_reducible refine le_i (by with_unfolding_all rfl) ?_ | with_reducible refine eqand_i (by with_unfolding_all rfl) ?_ | with_reducible refine isObj_i ?_ | with_reducible refine isIns_i (by with_unfolding_all rfl) ?_ | with_reducible refine insA_i ?_ | with_reducible refine optK_i (by with_unfolding_all rfl) ?_ | with_reducible refine gT_i (by with_unfolding_all rfl) ?_ | with_reducible refine gsC_i ?_ | with_reducible refine gsN_i ?_ | with_reducible refine sPar_i ?_ | with_reducible refine sPar3_i ?_ | with_reducible refine fldI_i (by with_unfolding_all rfl) ?_ | with_reducible refine eFldA_i ?_ | with_reducible refine fldA_i (by with_unfolding_all decide) (by with_unfolding_all rfl) ?_ | with_reducible refine fldAM_i (by with_unfolding_all rfl) (by with_unfolding_all decide) (by with_unfolding_all rfl) ?_ | with_reducible refine asBl_i ?_ | with_reducible refine asInt_i ?_ | with_reducible refine truth_bl ?_ | with_reducible refine cndT_i ?_ | with_reducible refine cndF_i ?_ | with_reducible refine cndNT_i ?_ | with_reducible refine cndNF_i ?_ | with_reducible refine addS_i (by decide +kernel) ?_ | with_reducible refine addL_i (by with_unfolding_all rfl) ?_ | with_reducible refine powI_i (by with_unfolding_all rfl) ?_ | with_reducible refine bag1_i (by with_unfolding_all rfl) ?_ | with_reducible refine bag2_i (by with_unfolding_all rfl) ?_ | with_reducible refine fmtS_i (by decide +kernel) ?_ | with_reducible refine fmtI_i (by assumption) ?_ | with_reducible refine gStr_i (by assumption) ?_ | with_reducible refine asStr_i ?_ | with_reducible refine jsN_i ?_ | with_reducible refine jsC_i ?_ | with_reducible refine slAnd_i (by decide +kernel) ?_ | with_reducible refine gReprO_i ?_ | with_reducible refine gEqO_i (by with_unfolding_all (show _ ∈ _; exact List.mem_of_elem_eq_true (by rfl))) (by with_unfolding_all rfl) ?_ | with_reducible refine perm10_i ?_ | with_reducible refine eLamL_i (by with_unfolding_all rfl) (lamDs_le (by decide +kernel)) ?_ | with_reducible refine eWhys_i ?_ | with_reducible refine gWhys_i (by with_unfolding_all rfl) (by with_unfolding_all rfl) (by with_unfolding_all rfl) (by with_unfolding_all rfl) ?_ | with_reducible refine why1_i ?_ | with_reducible refine whysN_i ?_ | with_reducible refine whysC_i ?_ | with_reducible refine xWhy_i (by with_unfolding_all rfl) ?_ | with_reducible refine vWhy_i ?_ | with_reducible refine gIsi_i (by with_unfolding_all rfl) ?_ | with_reducible refine cndE_i (by first | with_reducible rfl | assumption | decide +kernel) ?_ | with_reducible refine cndN_i (by first | assumption | decide +kernel) ?_ | with_reducible refine cndE2_i (by first | with_reducible rfl | assumption | decide +kernel) ?_ | with_reducible refine cndN2_i (by first | assumption | decide +kernel) ?_)
  exact hP _ (by with_unfolding_all rfl)

theorem turn1 {n1 n2 : List Nat} {k1 k2 : Int} {z : Str} {o7 o9 : Option B} (m1 : IsNm n1) (m2 : IsNm n2) (i1 : 0 ≤ k1 ∧ k1 ≤ 999999999999999999) (i2 : 0 ≤ k2 ∧ k2 ≤ 999999999999999999) (hn : n1 ≠ n2) (hk : k1 ≠ k2) (hP : ∀ Γ, EvWipe Γ [2, 3, 4, 5, 6, 7, 8, 9, 10, 11, 12, 13, 14] = E11 → P.nx Γ [.tab PT qLam, .bag, .dead]) :
    F_law_1 PT cl (G11 d [nmD n1, nmD n2] [.int k1, .int k2] n1 k1 o7 (some (.fz (.str z))) o9 none none none none) [.tab PT qLam, .bag] P := by
  have e1 := S_ne hn
  unfold F_law_1
  repeat (first | with_reducible refine eC_i ?_ | with_reducible refine eOp_i ?_ | with_reducible refine eUn_i ?_ | with_reducible refine eAnd_i ?_ | with_reducible refine eOr_i ?_ | with_reducible refine eNot_i ?_ | with_reducible refine eIf_i ?_ | with_reducible refine aNil_i ?_ | with_reducible refine aCons_i ?_ | with_reducible refine eCall_i ?_ | with_reducible refine eCallX_i ?_ | with_reducible refine eCallC_i ?_ | with_reducible refine eMethX_i ?_ | with_reducible refine eMethC_i ?_ | with_reducible refine eProp_i ?_ | with_reducible refine eLst_i ?_ | with_reducible refine eTup_i ?_ | with_reducible refine eLstM_i ?_ | with_reducible refine eSl_i ?_ | with_reducible refine oNone_i ?_ | with_reducible refine oSome_i ?_ | with_reducible refine eBM_i ?_ | with_reducible refine tOf_i ?_ | with_reducible refine tBl_i ?_ | with_reducible refine tAndP_i ?_ | with_reducible refine tOrP_i ?_ | with_reducible refine tNotP_i ?_ | with_reducible refine sSeq_i ?_ | with_reducible refine sNext_i ?_ | with_reducible refine sExpr_i ?_ | with_reducible refine sRet_i ?_ | with_reducible refine sRetN_i ?_ | with_reducible refine sIf_i ?_ | with_reducible refine sAsg_i ?_ | with_reducible refine gN_i ?_ | with_reducible refine sForC_i ?_ | with_reducible refine eLc_i ?_ | with_reducible refine eLcM_i ?_ | with_reducible refine tYesP_i ?_ | with_reducible refine eCon_i ?_ | with_reducible refine ePropA_i ?_ | with_reducible refine eMethA_i ?_ | with_reducible refine eMkK_i ?_ | with_reducible refine eMkKX_i ?_ | with_reducible refine eVar_i (by with_unfolding_all rfl) ?_ | with_reducible refine pure1N_i ?_ | with_reducible refine pure2N_i ?_ | with_reducible refine pure1_i ?_ | with_reducible refine pure2_i ?_ | with_reducible refine pure3_i ?_ | with_reducible refine bagJ2_i (by with_unfolding_all rfl) ?_ | with_reducible refine bagJ1_i (by with_unfolding_all rfl) ?_ | with_reducible refine ixL_i (by with_unfolding_all rfl) ?_ | with_reducible refine ixT_i (by with_unfolding_all rfl) ?_ | with_reducible refine addI_i ?_ | with_reducible refine subI_i ?_ | with_reducible refine cmpI_i ?_ | with_reducible refine eqI_i ?_ | with_reducible refine eqS_i ?_ | with_reducible refine lenL_i ?_ | with_reducible refine lenT_i ?_ | with_reducible refine asDsC_i ?_ | with_reducible refine asDsN_i ?_ | with_reducible refine asDsM_i ?_ | with_reducible refine le_i (by with_unfolding_all rfl) ?_ | with_reducible refine eqand_i (by with_unfolding_all rfl) ?_ | with_reducible refine isObj_i ?_ | with_reducible refine isIns_i (by with_unfolding_all rfl) ?_ | with_reducible refine insA_i ?_ | with_reducible refine optK_i (by with_unfolding_all rfl) ?_ | with_reducible refine gT_i (by with_unfolding_all rfl) ?_ | with_reducible refine gsC_i ?_ | with_reducible refine gsN_i ?_ | with_reducible refine sPar_i ?_ | with_reducible refine sPar3_i ?_ | with_reducible refine fldI_i (by with_unfolding_all rfl) ?_ | with_reducible refine eFldA_i ?_ | with_reducible refine fldA_i (by with_unfolding_all decide) (by with_unfolding_all rfl) ?_ | with_reducible refine fldAM_i (by with_unfolding_all rfl) (by with_unfolding_all decide) (by with_unfolding_all rfl) ?_ | with_reducible refine asBl_i ?_ | with_reducible refine asInt_i ?_ | with_reducible refine truth_bl ?_ | with_reducible refine cndT_i ?_ | with_reducible refine cndF_i ?_ | with_reducible refine cndNT_i ?_ | with_reducible refine cndNF_i ?_ | with_reducible refine addS_i (by decide +kernel) ?_ | with_reducible refine addL_i (by with_unfolding_all rfl) ?_ | with_reducible refine powI_i (by with_unfolding_all rfl) ?_ | with_reducible refine bag1_i (by with_unfolding_all rfl) ?_ | with_reducible refine bag2_i (by with_unfolding_all rfl) ?_ | with_reducible refine fmtS_i (by decide +kernel) ?_ | with_reducible refine fmtI_i (by assumption) ?_ | with_reducible refine gStr_i (by assumption) ?_ | with_reducible refine asStr_i ?_ | with_reducible refine jsN_i ?_ | with_reducible refine jsC_i ?_ | with_reducible refine slAnd_i (by decide +kernel) ?_ | with_reducible refine gReprO_i ?_ | with_reducible refine gEqO_i (by with_unfolding_all (show _ ∈ _; exact List.mem_of_elem_eq_true (by rfl))) (by with_unfolding_all rfl) ?_ | with_reducible refine perm10_i ?_ | with_reducible refine eLamL_i (by with_unfolding_all rfl) (lamDs_le (by decide +kernel)) ?_ | with_reducible refine eWhys_i ?_ | with_reducible refine gWhys_i (by with_unfolding_all rfl) (by with_unfolding_all rfl) (by with_unfolding_all rfl) (by with_unfolding_all rfl) ?_ | with_reducible refine why1_i ?_ | with_reducible refine whysN_i ?_ | with_reducible refine whysC_i ?_ | with_reducible refine xWhy_i (by with_unfolding_all rfl) ?_ | with_reducible refine vWhy_i ?_ | with_reducible refine gIsi_i (by with_unfolding_all rfl) ?_ | with_reducible refine cndE_i (by first | with_reducible rfl | assumption | decide +kernel) ?_ | with_reducible refine cndN_i (by first | assumption | decide +kernel) ?_ | with_reducible refine cndE2_i (by first | with_reducible rfl | assumption | decide +kernel) ?_ | with_reducible refine cndN2_i (by first | assumption | decide +kernel) ?_ | with_reducible refine mkT_ok ?_ | with_reducible refine mkP_ok ?_ | with_reducible refine defWat_i (W := W_Thing_eq) (by with_unfolding_all rfl) (by with_unfolding_all rfl) ?_ | with_reducible refine defWat_i (W := W_Seat_eq) (by with_unfolding_all rfl) (by with_unfolding_all rfl) ?_)
  refine same_ok (by simp [hk, e1]) (by with_unfolding_all rfl) ?_
  repeat (first | with_reducible refine eC_i ?_ | with_reducible refine eOp_i ?_ | with_reducible refine eUn_i ?_ | with_reducible refine eAnd_i ?_ | with_reducible refine eOr_i ?_ | with_reducible refine eNot_i ?_ | with_reducible refine eIf_i ?_ | with_reducible refine aNil_i ?_ | with_reducible refine aCons_i ?_ | with_reducible refine eCall_i ?_ | with_reducible refine eCallX_i ?_ | with_reducible refine eCallC_i ?_ | with_reducible refine eMethX_i ?_ | with_reducible refine eMethC_i ?_ | with_reducible refine eProp_i ?_ | with_reducible refine eLst_i ?_ | with_reducible refine eTup_i ?_ | with_reducible refine eLstM_i ?_ | with_reducible refine eSl_i ?_ | with_reducible refine oNone_i ?_ | with_reducible refine oSome_i ?_ | with_reducible refine eBM_i ?_ | with_reducible refine tOf_i ?_ | with_reducible refine tBl_i ?_ | with_reducible refine tAndP_i ?_ | with_reducible refine tOrP_i ?_ | with_reducible refine tNotP_i ?_ | with_reducible refine sSeq_i ?_ | with_reducible refine sNext_i ?_ | with_reducible refine sExpr_i ?_ | with_reducible refine sRet_i ?_ | with_reducible refine sRetN_i ?_ | with_reducible refine sIf_i ?_ | with_reducible refine sAsg_i ?_ | with_reducible refine gN_i ?_ | with_reducible refine sForC_i ?_ | with_reducible refine eLc_i ?_ | with_reducible refine eLcM_i ?_ | with_reducible refine tYesP_i ?_ | with_reducible refine eCon_i ?_ | with_reducible refine ePropA_i ?_ | with_reducible refine eMethA_i ?_ | with_reducible refine eMkK_i ?_ | with_reducible refine eMkKX_i ?_ | with_reducible refine eVar_i (by with_unfolding_all rfl) ?_ | with_reducible refine pure1N_i ?_ | with_reducible refine pure2N_i ?_ | with_reducible refine pure1_i ?_ | with_reducible refine pure2_i ?_ | with_reducible refine pure3_i ?_ | with_reducible refine bagJ2_i (by with_unfolding_all rfl) ?_ | with_reducible refine bagJ1_i (by with_unfolding_all rfl) ?_ | with_reducible refine ixL_i (by with_unfolding_all rfl) ?_ | with_reducible refine ixT_i (by with_unfolding_all rfl) ?_ | with_reducible refine addI_i ?_ | with_reducible refine subI_i ?_ | with_reducible refine cmpI_i ?_ | with_reducible refine eqI_i ?_ | with_reducible refine eqS_i ?_ | with_reducible refine lenL_i ?_ | with_reducible refine lenT_i ?_ | with_reducible refine asDsC_i ?_ | with_reducible refine asDsN_i ?_ | with_reducible refine asDsM_i ?_ | with_reducible refine le_i (by with_unfolding_all rfl) ?_ | with_reducible refine eqand_i (by with_unfolding_all rfl) ?_ | with_reducible refine isObj_i ?_ | with_reducible refine isIns_i (by with_unfolding_all rfl) ?_ | with_reducible refine insA_i ?_ | with_reducible refine optK_i (by with_unfolding_all rfl) ?_ | with_reducible refine gT_i (by with_unfolding_all rfl) ?_ | with_reducible refine gsC_i ?_ | with_reducible refine gsN_i ?_ | with_reducible refine sPar_i ?_ | with_reducible refine sPar3_i ?_ | with_reducible refine fldI_i (by with_unfolding_all rfl) ?_ | with_reducible refine eFldA_i ?_ | with_reducible refine fldA_i (by with_unfolding_all decide) (by with_unfolding_all rfl) ?_ | with_reducible refine fldAM_i (by with_unfolding_all rfl) (by with_unfolding_all decide) (by with_unfolding_all rfl) ?_ | with_reducible refine asBl_i ?_ | with_reducible refine asInt_i ?_ | with_reducible refine truth_bl ?_ | with_reducible refine cndT_i ?_ | with_reducible refine cndF_i ?_ | with_reducible refine cndNT_i ?_ | with_reducible refine cndNF_i ?_ | with_reducible refine addS_i (by decide +kernel) ?_ | with_reducible refine addL_i (by with_unfolding_all rfl) ?_ | with_reducible refine powI_i (by with_unfolding_all rfl) ?_ | with_reducible refine bag1_i (by with_unfolding_all rfl) ?_ | with_reducible refine bag2_i (by with_unfolding_all rfl) ?_ | with_reducible refine fmtS_i (by decide +kernel) ?_ | with_reducible refine fmtI_i (by assumption) ?_ | with_reducible refine gStr_i (by assumption) ?_ | with_reducible refine asStr_i ?_ | with_reducible refine jsN_i ?_ | with_reducible refine jsC_i ?_ | with_reducible refine slAnd_i (by decide +kernel) ?_ | with_reducible refine gReprO_i ?_ | with_reducible refine gEqO_i (by with_unfolding_all (show _ ∈ _; exact List.mem_of_elem_eq_true (by rfl))) (by with_unfolding_all rfl) ?_ | with_reducible refine perm10_i ?_ | with_reducible refine eLamL_i (by with_unfolding_all rfl) (lamDs_le (by decide +kernel)) ?_ | with_reducible refine eWhys_i ?_ | with_reducible refine gWhys_i (by with_unfolding_all rfl) (by with_unfolding_all rfl) (by with_unfolding_all rfl) (by with_unfolding_all rfl) ?_ | with_reducible refine why1_i ?_ | with_reducible refine whysN_i ?_ | with_reducible refine whysC_i ?_ | with_reducible refine xWhy_i (by with_unfolding_all rfl) ?_ | with_reducible refine vWhy_i ?_ | with_reducible refine gIsi_i (by with_unfolding_all rfl) ?_ | with_reducible refine cndE_i (by first | with_reducible rfl | assumption | decide +kernel) ?_ | with_reducible refine cndN_i (by first | assumption | decide +kernel) ?_ | with_reducible refine cndE2_i (by first | with_reducible rfl | assumption | decide +kernel) ?_ | with_reducible refine cndN2_i (by first | assumption | decide +kernel) ?_)
  exact turnL m1 m2 i1 i2 hP
theorem turn2 {n1 n2 : List Nat} {k1 k2 : Int} {o7 : Option B} (m1 : IsNm n1) (m2 : IsNm n2) (i1 : 0 ≤ k1 ∧ k1 ≤ 999999999999999999) (i2 : 0 ≤ k2 ∧ k2 ≤ 999999999999999999) (hn : n1 ≠ n2) (hk : k1 ≠ k2) (hP : ∀ Γ, EvWipe Γ [2, 3, 4, 5, 6, 7, 8, 9, 10, 11, 12, 13, 14] = E11 → P.nx Γ [.tab PT qLam, .bag, .dead]) :
    F_law_2 PT cl (G11 d [nmD n1, nmD n2] [.int k1, .int k2] n1 k1 o7 none none none none none none) [.tab PT qLam, .bag] P := by
  have sl1 := nm_sl m1
  have sl2 := int_sl i1
  have lg := int_log i1
  unfold F_law_2
  repeat (first | with_reducible refine eC_i ?_ | with_reducible refine eOp_i ?_ | with_reducible refine eUn_i ?_ | with_reducible refine eAnd_i ?_ | with_reducible refine eOr_i ?_ | with_reducible refine eNot_i ?_ | with_reducible refine eIf_i ?_ | with_reducible refine aNil_i ?_ | with_reducible refine aCons_i ?_ | with_reducible refine eCall_i ?_ | with_reducible refine eCallX_i ?_ | with_reducible refine eCallC_i ?_ | with_reducible refine eMethX_i ?_ | with_reducible refine eMethC_i ?_ | with_reducible refine eProp_i ?_ | with_reducible refine eLst_i ?_ | with_reducible refine eTup_i ?_ | with_reducible refine eLstM_i ?_ | with_reducible refine eSl_i ?_ | with_reducible refine oNone_i ?_ | with_reducible refine oSome_i ?_ | with_reducible refine eBM_i ?_ | with_reducible refine tOf_i ?_ | with_reducible refine tBl_i ?_ | with_reducible refine tAndP_i ?_ | with_reducible refine tOrP_i ?_ | with_reducible refine tNotP_i ?_ | with_reducible refine sSeq_i ?_ | with_reducible refine sNext_i ?_ | with_reducible refine sExpr_i ?_ | with_reducible refine sRet_i ?_ | with_reducible refine sRetN_i ?_ | with_reducible refine sIf_i ?_ | with_reducible refine sAsg_i ?_ | with_reducible refine gN_i ?_ | with_reducible refine sForC_i ?_ | with_reducible refine eLc_i ?_ | with_reducible refine eLcM_i ?_ | with_reducible refine tYesP_i ?_ | with_reducible refine eCon_i ?_ | with_reducible refine ePropA_i ?_ | with_reducible refine eMethA_i ?_ | with_reducible refine eMkK_i ?_ | with_reducible refine eMkKX_i ?_ | with_reducible refine eVar_i (by with_unfolding_all rfl) ?_ | with_reducible refine pure1N_i ?_ | with_reducible refine pure2N_i ?_ | with_reducible refine pure1_i ?_ | with_reducible refine pure2_i ?_ | with_reducible refine pure3_i ?_ | with_reducible refine bagJ2_i (by with_unfolding_all rfl) ?_ | with_reducible refine bagJ1_i (by with_unfolding_all rfl) ?_ | with_reducible refine ixL_i (by with_unfolding_all rfl) ?_ | with_reducible refine ixT_i (by with_unfolding_all rfl) ?_ | with_reducible refine addI_i ?_ | with_reducible refine subI_i ?_ | with_reducible refine cmpI_i ?_ | with_reducible refine eqI_i ?_ | with_reducible refine eqS_i ?_ | with_reducible refine lenL_i ?_ | with_reducible refine lenT_i ?_ | with_reducible refine asDsC_i ?_ | with_reducible refine asDsN_i ?_ | with_reducible refine asDsM_i ?_ | with_reducible refine le_i (by with_unfolding_all rfl) ?_ | with_reducible refine eqand_i (by with_unfolding_all rfl) ?_ | with_reducible refine isObj_i ?_ | with_reducible refine isIns_i (by with_unfolding_all rfl) ?_ | with_reducible refine insA_i ?_ | with_reducible refine optK_i (by with_unfolding_all rfl) ?_ | with_reducible refine gT_i (by with_unfolding_all rfl) ?_ | with_reducible refine gsC_i ?_ | with_reducible refine gsN_i ?_ | with_reducible refine sPar_i ?_ | with_reducible refine sPar3_i ?_ | with_reducible refine fldI_i (by with_unfolding_all rfl) ?_ | with_reducible refine eFldA_i ?_ | with_reducible refine fldA_i (by with_unfolding_all decide) (by with_unfolding_all rfl) ?_ | with_reducible refine fldAM_i (by with_unfolding_all rfl) (by with_unfolding_all decide) (by with_unfolding_all rfl) ?_ | with_reducible refine asBl_i ?_ | with_reducible refine asInt_i ?_ | with_reducible refine truth_bl ?_ | with_reducible refine cndT_i ?_ | with_reducible refine cndF_i ?_ | with_reducible refine cndNT_i ?_ | with_reducible refine cndNF_i ?_ | with_reducible refine addS_i (by decide +kernel) ?_ | with_reducible refine addL_i (by with_unfolding_all rfl) ?_ | with_reducible refine powI_i (by with_unfolding_all rfl) ?_ | with_reducible refine bag1_i (by with_unfolding_all rfl) ?_ | with_reducible refine bag2_i (by with_unfolding_all rfl) ?_ | with_reducible refine fmtS_i (by decide +kernel) ?_ | with_reducible refine fmtI_i (by assumption) ?_ | with_reducible refine gStr_i (by assumption) ?_ | with_reducible refine asStr_i ?_ | with_reducible refine jsN_i ?_ | with_reducible refine jsC_i ?_ | with_reducible refine slAnd_i (by decide +kernel) ?_ | with_reducible refine gReprO_i ?_ | with_reducible refine gEqO_i (by with_unfolding_all (show _ ∈ _; exact List.mem_of_elem_eq_true (by rfl))) (by with_unfolding_all rfl) ?_ | with_reducible refine perm10_i ?_ | with_reducible refine eLamL_i (by with_unfolding_all rfl) (lamDs_le (by decide +kernel)) ?_ | with_reducible refine eWhys_i ?_ | with_reducible refine gWhys_i (by with_unfolding_all rfl) (by with_unfolding_all rfl) (by with_unfolding_all rfl) (by with_unfolding_all rfl) ?_ | with_reducible refine why1_i ?_ | with_reducible refine whysN_i ?_ | with_reducible refine whysC_i ?_ | with_reducible refine xWhy_i (by with_unfolding_all rfl) ?_ | with_reducible refine vWhy_i ?_ | with_reducible refine gIsi_i (by with_unfolding_all rfl) ?_ | with_reducible refine cndE_i (by first | with_reducible rfl | assumption | decide +kernel) ?_ | with_reducible refine cndN_i (by first | assumption | decide +kernel) ?_ | with_reducible refine cndE2_i (by first | with_reducible rfl | assumption | decide +kernel) ?_ | with_reducible refine cndN2_i (by first | assumption | decide +kernel) ?_ | with_reducible refine defWat_i (W := W_Seat_label) (by with_unfolding_all rfl) (by with_unfolding_all rfl) ?_ | with_reducible refine defWat_i (W := W_Thing_number) (by with_unfolding_all rfl) (by with_unfolding_all rfl) ?_ | with_reducible refine defWat_i (W := W_Thing_text) (by with_unfolding_all rfl) (by with_unfolding_all rfl) ?_ | with_reducible refine defWat_i (W := W_Seat_text) (by with_unfolding_all rfl) (by with_unfolding_all rfl) ?_ | with_reducible refine defWat_i (W := W_Seat_repr) (by with_unfolding_all rfl) (by with_unfolding_all rfl) ?_)
  refine same_ok (by simp only [List.cons_append, List.nil_append, l_thing, l_peg, l_seat, l_sp, str_assoc, str_empty]) (by with_unfolding_all rfl) ?_
  repeat (first | with_reducible refine eC_i ?_ | with_reducible refine eOp_i ?_ | with_reducible refine eUn_i ?_ | with_reducible refine eAnd_i ?_ | with_reducible refine eOr_i ?_ | with_reducible refine eNot_i ?_ | with_reducible refine eIf_i ?_ | with_reducible refine aNil_i ?_ | with_reducible refine aCons_i ?_ | with_reducible refine eCall_i ?_ | with_reducible refine eCallX_i ?_ | with_reducible refine eCallC_i ?_ | with_reducible refine eMethX_i ?_ | with_reducible refine eMethC_i ?_ | with_reducible refine eProp_i ?_ | with_reducible refine eLst_i ?_ | with_reducible refine eTup_i ?_ | with_reducible refine eLstM_i ?_ | with_reducible refine eSl_i ?_ | with_reducible refine oNone_i ?_ | with_reducible refine oSome_i ?_ | with_reducible refine eBM_i ?_ | with_reducible refine tOf_i ?_ | with_reducible refine tBl_i ?_ | with_reducible refine tAndP_i ?_ | with_reducible refine tOrP_i ?_ | with_reducible refine tNotP_i ?_ | with_reducible refine sSeq_i ?_ | with_reducible refine sNext_i ?_ | with_reducible refine sExpr_i ?_ | with_reducible refine sRet_i ?_ | with_reducible refine sRetN_i ?_ | with_reducible refine sIf_i ?_ | with_reducible refine sAsg_i ?_ | with_reducible refine gN_i ?_ | with_reducible refine sForC_i ?_ | with_reducible refine eLc_i ?_ | with_reducible refine eLcM_i ?_ | with_reducible refine tYesP_i ?_ | with_reducible refine eCon_i ?_ | with_reducible refine ePropA_i ?_ | with_reducible refine eMethA_i ?_ | with_reducible refine eMkK_i ?_ | with_reducible refine eMkKX_i ?_ | with_reducible refine eVar_i (by with_unfolding_all rfl) ?_ | with_reducible refine pure1N_i ?_ | with_reducible refine pure2N_i ?_ | with_reducible refine pure1_i ?_ | with_reducible refine pure2_i ?_ | with_reducible refine pure3_i ?_ | with_reducible refine bagJ2_i (by with_unfolding_all rfl) ?_ | with_reducible refine bagJ1_i (by with_unfolding_all rfl) ?_ | with_reducible refine ixL_i (by with_unfolding_all rfl) ?_ | with_reducible refine ixT_i (by with_unfolding_all rfl) ?_ | with_reducible refine addI_i ?_ | with_reducible refine subI_i ?_ | with_reducible refine cmpI_i ?_ | with_reducible refine eqI_i ?_ | with_reducible refine eqS_i ?_ | with_reducible refine lenL_i ?_ | with_reducible refine lenT_i ?_ | with_reducible refine asDsC_i ?_ | with_reducible refine asDsN_i ?_ | with_reducible refine asDsM_i ?_ | with_reducible refine le_i (by with_unfolding_all rfl) ?_ | with_reducible refine eqand_i (by with_unfolding_all rfl) ?_ | with_reducible refine isObj_i ?_ | with_reducible refine isIns_i (by with_unfolding_all rfl) ?_ | with_reducible refine insA_i ?_ | with_reducible refine optK_i (by with_unfolding_all rfl) ?_ | with_reducible refine gT_i (by with_unfolding_all rfl) ?_ | with_reducible refine gsC_i ?_ | with_reducible refine gsN_i ?_ | with_reducible refine sPar_i ?_ | with_reducible refine sPar3_i ?_ | with_reducible refine fldI_i (by with_unfolding_all rfl) ?_ | with_reducible refine eFldA_i ?_ | with_reducible refine fldA_i (by with_unfolding_all decide) (by with_unfolding_all rfl) ?_ | with_reducible refine fldAM_i (by with_unfolding_all rfl) (by with_unfolding_all decide) (by with_unfolding_all rfl) ?_ | with_reducible refine asBl_i ?_ | with_reducible refine asInt_i ?_ | with_reducible refine truth_bl ?_ | with_reducible refine cndT_i ?_ | with_reducible refine cndF_i ?_ | with_reducible refine cndNT_i ?_ | with_reducible refine cndNF_i ?_ | with_reducible refine addS_i (by decide +kernel) ?_ | with_reducible refine addL_i (by with_unfolding_all rfl) ?_ | with_reducible refine powI_i (by with_unfolding_all rfl) ?_ | with_reducible refine bag1_i (by with_unfolding_all rfl) ?_ | with_reducible refine bag2_i (by with_unfolding_all rfl) ?_ | with_reducible refine fmtS_i (by decide +kernel) ?_ | with_reducible refine fmtI_i (by assumption) ?_ | with_reducible refine gStr_i (by assumption) ?_ | with_reducible refine asStr_i ?_ | with_reducible refine jsN_i ?_ | with_reducible refine jsC_i ?_ | with_reducible refine slAnd_i (by decide +kernel) ?_ | with_reducible refine gReprO_i ?_ | with_reducible refine gEqO_i (by with_unfolding_all (show _ ∈ _; exact List.mem_of_elem_eq_true (by rfl))) (by with_unfolding_all rfl) ?_ | with_reducible refine perm10_i ?_ | with_reducible refine eLamL_i (by with_unfolding_all rfl) (lamDs_le (by decide +kernel)) ?_ | with_reducible refine eWhys_i ?_ | with_reducible refine gWhys_i (by with_unfolding_all rfl) (by with_unfolding_all rfl) (by with_unfolding_all rfl) (by with_unfolding_all rfl) ?_ | with_reducible refine why1_i ?_ | with_reducible refine whysN_i ?_ | with_reducible refine whysC_i ?_ | with_reducible refine xWhy_i (by with_unfolding_all rfl) ?_ | with_reducible refine vWhy_i ?_ | with_reducible refine gIsi_i (by with_unfolding_all rfl) ?_ | with_reducible refine cndE_i (by first | with_reducible rfl | assumption | decide +kernel) ?_ | with_reducible refine cndN_i (by first | assumption | decide +kernel) ?_ | with_reducible refine cndE2_i (by first | with_reducible rfl | assumption | decide +kernel) ?_ | with_reducible refine cndN2_i (by first | assumption | decide +kernel) ?_)
  exact turn1 m1 m2 i1 i2 hn hk hP
theorem turn0 (hP : ∀ Γ, EvWipe Γ [2, 3, 4, 5, 6, 7, 8, 9, 10, 11, 12, 13, 14] = E11 → P.nx Γ [.tab PT qLam, .bag, .dead]) : F_law_3 PT cl [some (.fz .scr), some (.mt 1), some (.fz d), none, none, none, none, none, none, none, none, none, none, none, none] [.tab PT qLam, .bag] P := by
  unfold F_law_3
  repeat (first | with_reducible refine eC_i ?_ | with_reducible refine eOp_i ?_ | with_reducible refine eUn_i ?_ | with_reducible refine eAnd_i ?_ | with_reducible refine eOr_i ?_ | with_reducible refine eNot_i ?_ | with_reducible refine eIf_i ?_ | with_reducible refine aNil_i ?_ | with_reducible refine aCons_i ?_ | with_reducible refine eCall_i ?_ | with_reducible refine eCallX_i ?_ | with_reducible refine eCallC_i ?_ | with_reducible refine eMethX_i ?_ | with_reducible refine eMethC_i ?_ | with_reducible refine eProp_i ?_ | with_reducible refine eLst_i ?_ | with_reducible refine eTup_i ?_ | with_reducible refine eLstM_i ?_ | with_reducible refine eSl_i ?_ | with_reducible refine oNone_i ?_ | with_reducible refine oSome_i ?_ | with_reducible refine eBM_i ?_ | with_reducible refine tOf_i ?_ | with_reducible refine tBl_i ?_ | with_reducible refine tAndP_i ?_ | with_reducible refine tOrP_i ?_ | with_reducible refine tNotP_i ?_ | with_reducible refine sSeq_i ?_ | with_reducible refine sNext_i ?_ | with_reducible refine sExpr_i ?_ | with_reducible refine sRet_i ?_ | with_reducible refine sRetN_i ?_ | with_reducible refine sIf_i ?_ | with_reducible refine sAsg_i ?_ | with_reducible refine gN_i ?_ | with_reducible refine sForC_i ?_ | with_reducible refine eLc_i ?_ | with_reducible refine eLcM_i ?_ | with_reducible refine tYesP_i ?_ | with_reducible refine eCon_i ?_ | with_reducible refine ePropA_i ?_ | with_reducible refine eMethA_i ?_ | with_reducible refine eMkK_i ?_ | with_reducible refine eMkKX_i ?_ | with_reducible refine eVar_i (by with_unfolding_all rfl) ?_ | with_reducible refine pure1N_i ?_ | with_reducible refine pure2N_i ?_ | with_reducible refine pure1_i ?_ | with_reducible refine pure2_i ?_ | with_reducible refine pure3_i ?_ | with_reducible refine bagJ2_i (by with_unfolding_all rfl) ?_ | with_reducible refine bagJ1_i (by with_unfolding_all rfl) ?_ | with_reducible refine ixL_i (by with_unfolding_all rfl) ?_ | with_reducible refine ixT_i (by with_unfolding_all rfl) ?_ | with_reducible refine addI_i ?_ | with_reducible refine subI_i ?_ | with_reducible refine cmpI_i ?_ | with_reducible refine eqI_i ?_ | with_reducible refine eqS_i ?_ | with_reducible refine lenL_i ?_ | with_reducible refine lenT_i ?_ | with_reducible refine asDsC_i ?_ | with_reducible refine asDsN_i ?_ | with_reducible refine asDsM_i ?_ | with_reducible refine le_i (by with_unfolding_all rfl) ?_ | with_reducible refine eqand_i (by with_unfolding_all rfl) ?_ | with_reducible refine isObj_i ?_ | with_reducible refine isIns_i (by with_unfolding_all rfl) ?_ | with_reducible refine insA_i ?_ | with_reducible refine optK_i (by with_unfolding_all rfl) ?_ | with_reducible refine gT_i (by with_unfolding_all rfl) ?_ | with_reducible refine gsC_i ?_ | with_reducible refine gsN_i ?_ | with_reducible refine sPar_i ?_ | with_reducible refine sPar3_i ?_ | with_reducible refine fldI_i (by with_unfolding_all rfl) ?_ | with_reducible refine eFldA_i ?_ | with_reducible refine fldA_i (by with_unfolding_all decide) (by with_unfolding_all rfl) ?_ | with_reducible refine fldAM_i (by with_unfolding_all rfl) (by with_unfolding_all decide) (by with_unfolding_all rfl) ?_ | with_reducible refine asBl_i ?_ | with_reducible refine asInt_i ?_ | with_reducible refine truth_bl ?_ | with_reducible refine cndT_i ?_ | with_reducible refine cndF_i ?_ | with_reducible refine cndNT_i ?_ | with_reducible refine cndNF_i ?_ | with_reducible refine addS_i (by decide +kernel) ?_ | with_reducible refine addL_i (by with_unfolding_all rfl) ?_ | with_reducible refine powI_i (by with_unfolding_all rfl) ?_ | with_reducible refine bag1_i (by with_unfolding_all rfl) ?_ | with_reducible refine bag2_i (by with_unfolding_all rfl) ?_ | with_reducible refine fmtS_i (by decide +kernel) ?_ | with_reducible refine fmtI_i (by assumption) ?_ | with_reducible refine gStr_i (by assumption) ?_ | with_reducible refine asStr_i ?_ | with_reducible refine jsN_i ?_ | with_reducible refine jsC_i ?_ | with_reducible refine slAnd_i (by decide +kernel) ?_ | with_reducible refine gReprO_i ?_ | with_reducible refine gEqO_i (by with_unfolding_all (show _ ∈ _; exact List.mem_of_elem_eq_true (by rfl))) (by with_unfolding_all rfl) ?_ | with_reducible refine perm10_i ?_ | with_reducible refine eLamL_i (by with_unfolding_all rfl) (lamDs_le (by decide +kernel)) ?_ | with_reducible refine eWhys_i ?_ | with_reducible refine gWhys_i (by with_unfolding_all rfl) (by with_unfolding_all rfl) (by with_unfolding_all rfl) (by with_unfolding_all rfl) ?_ | with_reducible refine why1_i ?_ | with_reducible refine whysN_i ?_ | with_reducible refine whysC_i ?_ | with_reducible refine xWhy_i (by with_unfolding_all rfl) ?_ | with_reducible refine vWhy_i ?_ | with_reducible refine gIsi_i (by with_unfolding_all rfl) ?_ | with_reducible refine cndE_i (by first | with_reducible rfl | assumption | decide +kernel) ?_ | with_reducible refine cndN_i (by first | assumption | decide +kernel) ?_ | with_reducible refine cndE2_i (by first | with_reducible rfl | assumption | decide +kernel) ?_ | with_reducible refine cndN2_i (by first | assumption | decide +kernel) ?_)
  refine names_spec2 (by decide) (by decide) fun ls hl hn hd => ⟨rfl, ?_⟩
  repeat (first | with_reducible refine eC_i ?_ | with_reducible refine eOp_i ?_ | with_reducible refine eUn_i ?_ | with_reducible refine eAnd_i ?_ | with_reducible refine eOr_i ?_ | with_reducible refine eNot_i ?_ | with_reducible refine eIf_i ?_ | with_reducible refine aNil_i ?_ | with_reducible refine aCons_i ?_ | with_reducible refine eCall_i ?_ | with_reducible refine eCallX_i ?_ | with_reducible refine eCallC_i ?_ | with_reducible refine eMethX_i ?_ | with_reducible refine eMethC_i ?_ | with_reducible refine eProp_i ?_ | with_reducible refine eLst_i ?_ | with_reducible refine eTup_i ?_ | with_reducible refine eLstM_i ?_ | with_reducible refine eSl_i ?_ | with_reducible refine oNone_i ?_ | with_reducible refine oSome_i ?_ | with_reducible refine eBM_i ?_ | with_reducible refine tOf_i ?_ | with_reducible refine tBl_i ?_ | with_reducible refine tAndP_i ?_ | with_reducible refine tOrP_i ?_ | with_reducible refine tNotP_i ?_ | with_reducible refine sSeq_i ?_ | with_reducible refine sNext_i ?_ | with_reducible refine sExpr_i ?_ | with_reducible refine sRet_i ?_ | with_reducible refine sRetN_i ?_ | with_reducible refine sIf_i ?_ | with_reducible refine sAsg_i ?_ | with_reducible refine gN_i ?_ | with_reducible refine sForC_i ?_ | with_reducible refine eLc_i ?_ | with_reducible refine eLcM_i ?_ | with_reducible refine tYesP_i ?_ | with_reducible refine eCon_i ?_ | with_reducible refine ePropA_i ?_ | with_reducible refine eMethA_i ?_ | with_reducible refine eMkK_i ?_ | with_reducible refine eMkKX_i ?_ | with_reducible refine eVar_i (by with_unfolding_all rfl) ?_ | with_reducible refine pure1N_i ?_ | with_reducible refine pure2N_i ?_ | with_reducible refine pure1_i ?_ | with_reducible refine pure2_i ?_ | with_reducible refine pure3_i ?_ | with_reducible refine bagJ2_i (by with_unfolding_all rfl) ?_ | with_reducible refine bagJ1_i (by with_unfolding_all rfl) ?_ | with_reducible refine ixL_i (by with_unfolding_all rfl) ?_ | with_reducible refine ixT_i (by with_unfolding_all rfl) ?_ | with_reducible refine addI_i ?_ | with_reducible refine subI_i ?_ | with_reducible refine cmpI_i ?_ | with_reducible refine eqI_i ?_ | with_reducible refine eqS_i ?_ | with_reducible refine lenL_i ?_ | with_reducible refine lenT_i ?_ | with_reducible refine asDsC_i ?_ | with_reducible refine asDsN_i ?_ | with_reducible refine asDsM_i ?_ | with_reducible refine le_i (by with_unfolding_all rfl) ?_ | with_reducible refine eqand_i (by with_unfolding_all rfl) ?_ | with_reducible refine isObj_i ?_ | with_reducible refine isIns_i (by with_unfolding_all rfl) ?_ | with_reducible refine insA_i ?_ | with_reducible refine optK_i (by with_unfolding_all rfl) ?_ | with_reducible refine gT_i (by with_unfolding_all rfl) ?_ | with_reducible refine gsC_i ?_ | with_reducible refine gsN_i ?_ | with_reducible refine sPar_i ?_ | with_reducible refine sPar3_i ?_ | with_reducible refine fldI_i (by with_unfolding_all rfl) ?_ | with_reducible refine eFldA_i ?_ | with_reducible refine fldA_i (by with_unfolding_all decide) (by with_unfolding_all rfl) ?_ | with_reducible refine fldAM_i (by with_unfolding_all rfl) (by with_unfolding_all decide) (by with_unfolding_all rfl) ?_ | with_reducible refine asBl_i ?_ | with_reducible refine asInt_i ?_ | with_reducible refine truth_bl ?_ | with_reducible refine cndT_i ?_ | with_reducible refine cndF_i ?_ | with_reducible refine cndNT_i ?_ | with_reducible refine cndNF_i ?_ | with_reducible refine addS_i (by decide +kernel) ?_ | with_reducible refine addL_i (by with_unfolding_all rfl) ?_ | with_reducible refine powI_i (by with_unfolding_all rfl) ?_ | with_reducible refine bag1_i (by with_unfolding_all rfl) ?_ | with_reducible refine bag2_i (by with_unfolding_all rfl) ?_ | with_reducible refine fmtS_i (by decide +kernel) ?_ | with_reducible refine fmtI_i (by assumption) ?_ | with_reducible refine gStr_i (by assumption) ?_ | with_reducible refine asStr_i ?_ | with_reducible refine jsN_i ?_ | with_reducible refine jsC_i ?_ | with_reducible refine slAnd_i (by decide +kernel) ?_ | with_reducible refine gReprO_i ?_ | with_reducible refine gEqO_i (by with_unfolding_all (show _ ∈ _; exact List.mem_of_elem_eq_true (by rfl))) (by with_unfolding_all rfl) ?_ | with_reducible refine perm10_i ?_ | with_reducible refine eLamL_i (by with_unfolding_all rfl) (lamDs_le (by decide +kernel)) ?_ | with_reducible refine eWhys_i ?_ | with_reducible refine gWhys_i (by with_unfolding_all rfl) (by with_unfolding_all rfl) (by with_unfolding_all rfl) (by with_unfolding_all rfl) ?_ | with_reducible refine why1_i ?_ | with_reducible refine whysN_i ?_ | with_reducible refine whysC_i ?_ | with_reducible refine xWhy_i (by with_unfolding_all rfl) ?_ | with_reducible refine vWhy_i ?_ | with_reducible refine gIsi_i (by with_unfolding_all rfl) ?_ | with_reducible refine cndE_i (by first | with_reducible rfl | assumption | decide +kernel) ?_ | with_reducible refine cndN_i (by first | assumption | decide +kernel) ?_ | with_reducible refine cndE2_i (by first | with_reducible rfl | assumption | decide +kernel) ?_ | with_reducible refine cndN2_i (by first | assumption | decide +kernel) ?_)
  refine numbers_spec (by decide) (by decide) fun is il hi hid => ⟨rfl, ?_⟩
  obtain ⟨n1, n2, rfl⟩ := two_of hl
  obtain ⟨k1, k2, rfl⟩ := two_of il
  repeat (first | with_reducible refine eC_i ?_ | with_reducible refine eOp_i ?_ | with_reducible refine eUn_i ?_ | with_reducible refine eAnd_i ?_ | with_reducible refine eOr_i ?_ | with_reducible refine eNot_i ?_ | with_reducible refine eIf_i ?_ | with_reducible refine aNil_i ?_ | with_reducible refine aCons_i ?_ | with_reducible refine eCall_i ?_ | with_reducible refine eCallX_i ?_ | with_reducible refine eCallC_i ?_ | with_reducible refine eMethX_i ?_ | with_reducible refine eMethC_i ?_ | with_reducible refine eProp_i ?_ | with_reducible refine eLst_i ?_ | with_reducible refine eTup_i ?_ | with_reducible refine eLstM_i ?_ | with_reducible refine eSl_i ?_ | with_reducible refine oNone_i ?_ | with_reducible refine oSome_i ?_ | with_reducible refine eBM_i ?_ | with_reducible refine tOf_i ?_ | with_reducible refine tBl_i ?_ | with_reducible refine tAndP_i ?_ | with_reducible refine tOrP_i ?_ | with_reducible refine tNotP_i ?_ | with_reducible refine sSeq_i ?_ | with_reducible refine sNext_i ?_ | with_reducible refine sExpr_i ?_ | with_reducible refine sRet_i ?_ | with_reducible refine sRetN_i ?_ | with_reducible refine sIf_i ?_ | with_reducible refine sAsg_i ?_ | with_reducible refine gN_i ?_ | with_reducible refine sForC_i ?_ | with_reducible refine eLc_i ?_ | with_reducible refine eLcM_i ?_ | with_reducible refine tYesP_i ?_ | with_reducible refine eCon_i ?_ | with_reducible refine ePropA_i ?_ | with_reducible refine eMethA_i ?_ | with_reducible refine eMkK_i ?_ | with_reducible refine eMkKX_i ?_ | with_reducible refine eVar_i (by with_unfolding_all rfl) ?_ | with_reducible refine pure1N_i ?_ | with_reducible refine pure2N_i ?_ | with_reducible refine pure1_i ?_ | with_reducible refine pure2_i ?_ | with_reducible refine pure3_i ?_ | with_reducible refine bagJ2_i (by with_unfolding_all rfl) ?_ | with_reducible refine bagJ1_i (by with_unfolding_all rfl) ?_ | with_reducible refine ixL_i (by with_unfolding_all rfl) ?_ | with_reducible refine ixT_i (by with_unfolding_all rfl) ?_ | with_reducible refine addI_i ?_ | with_reducible refine subI_i ?_ | with_reducible refine cmpI_i ?_ | with_reducible refine eqI_i ?_ | with_reducible refine eqS_i ?_ | with_reducible refine lenL_i ?_ | with_reducible refine lenT_i ?_ | with_reducible refine asDsC_i ?_ | with_reducible refine asDsN_i ?_ | with_reducible refine asDsM_i ?_ | with_reducible refine le_i (by with_unfolding_all rfl) ?_ | with_reducible refine eqand_i (by with_unfolding_all rfl) ?_ | with_reducible refine isObj_i ?_ | with_reducible refine isIns_i (by with_unfolding_all rfl) ?_ | with_reducible refine insA_i ?_ | with_reducible refine optK_i (by with_unfolding_all rfl) ?_ | with_reducible refine gT_i (by with_unfolding_all rfl) ?_ | with_reducible refine gsC_i ?_ | with_reducible refine gsN_i ?_ | with_reducible refine sPar_i ?_ | with_reducible refine sPar3_i ?_ | with_reducible refine fldI_i (by with_unfolding_all rfl) ?_ | with_reducible refine eFldA_i ?_ | with_reducible refine fldA_i (by with_unfolding_all decide) (by with_unfolding_all rfl) ?_ | with_reducible refine fldAM_i (by with_unfolding_all rfl) (by with_unfolding_all decide) (by with_unfolding_all rfl) ?_ | with_reducible refine asBl_i ?_ | with_reducible refine asInt_i ?_ | with_reducible refine truth_bl ?_ | with_reducible refine cndT_i ?_ | with_reducible refine cndF_i ?_ | with_reducible refine cndNT_i ?_ | with_reducible refine cndNF_i ?_ | with_reducible refine addS_i (by decide +kernel) ?_ | with_reducible refine addL_i (by with_unfolding_all rfl) ?_ | with_reducible refine powI_i (by with_unfolding_all rfl) ?_ | with_reducible refine bag1_i (by with_unfolding_all rfl) ?_ | with_reducible refine bag2_i (by with_unfolding_all rfl) ?_ | with_reducible refine fmtS_i (by decide +kernel) ?_ | with_reducible refine fmtI_i (by assumption) ?_ | with_reducible refine gStr_i (by assumption) ?_ | with_reducible refine asStr_i ?_ | with_reducible refine jsN_i ?_ | with_reducible refine jsC_i ?_ | with_reducible refine slAnd_i (by decide +kernel) ?_ | with_reducible refine gReprO_i ?_ | with_reducible refine gEqO_i (by with_unfolding_all (show _ ∈ _; exact List.mem_of_elem_eq_true (by rfl))) (by with_unfolding_all rfl) ?_ | with_reducible refine perm10_i ?_ | with_reducible refine eLamL_i (by with_unfolding_all rfl) (lamDs_le (by decide +kernel)) ?_ | with_reducible refine eWhys_i ?_ | with_reducible refine gWhys_i (by with_unfolding_all rfl) (by with_unfolding_all rfl) (by with_unfolding_all rfl) (by with_unfolding_all rfl) ?_ | with_reducible refine why1_i ?_ | with_reducible refine whysN_i ?_ | with_reducible refine whysC_i ?_ | with_reducible refine xWhy_i (by with_unfolding_all rfl) ?_ | with_reducible refine vWhy_i ?_ | with_reducible refine gIsi_i (by with_unfolding_all rfl) ?_ | with_reducible refine cndE_i (by first | with_reducible rfl | assumption | decide +kernel) ?_ | with_reducible refine cndN_i (by first | assumption | decide +kernel) ?_ | with_reducible refine cndE2_i (by first | with_reducible rfl | assumption | decide +kernel) ?_ | with_reducible refine cndN2_i (by first | assumption | decide +kernel) ?_)
  have m1 : IsNm n1 := hn n1 (.head _)
  have m2 : IsNm n2 := hn n2 (.tail _ (.head _))
  have i1 := hi k1 (.head _)
  have i2 := hi k2 (.tail _ (.head _))
  refine mk_thing (nmd_nm m1) rfl ?_
  rw [isNam_nm m1, isnum_k i1]
  repeat (first | with_reducible refine eC_i ?_ | with_reducible refine eOp_i ?_ | with_reducible refine eUn_i ?_ | with_reducible refine eAnd_i ?_ | with_reducible refine eOr_i ?_ | with_reducible refine eNot_i ?_ | with_reducible refine eIf_i ?_ | with_reducible refine aNil_i ?_ | with_reducible refine aCons_i ?_ | with_reducible refine eCall_i ?_ | with_reducible refine eCallX_i ?_ | with_reducible refine eCallC_i ?_ | with_reducible refine eMethX_i ?_ | with_reducible refine eMethC_i ?_ | with_reducible refine eProp_i ?_ | with_reducible refine eLst_i ?_ | with_reducible refine eTup_i ?_ | with_reducible refine eLstM_i ?_ | with_reducible refine eSl_i ?_ | with_reducible refine oNone_i ?_ | with_reducible refine oSome_i ?_ | with_reducible refine eBM_i ?_ | with_reducible refine tOf_i ?_ | with_reducible refine tBl_i ?_ | with_reducible refine tAndP_i ?_ | with_reducible refine tOrP_i ?_ | with_reducible refine tNotP_i ?_ | with_reducible refine sSeq_i ?_ | with_reducible refine sNext_i ?_ | with_reducible refine sExpr_i ?_ | with_reducible refine sRet_i ?_ | with_reducible refine sRetN_i ?_ | with_reducible refine sIf_i ?_ | with_reducible refine sAsg_i ?_ | with_reducible refine gN_i ?_ | with_reducible refine sForC_i ?_ | with_reducible refine eLc_i ?_ | with_reducible refine eLcM_i ?_ | with_reducible refine tYesP_i ?_ | with_reducible refine eCon_i ?_ | with_reducible refine ePropA_i ?_ | with_reducible refine eMethA_i ?_ | with_reducible refine eMkK_i ?_ | with_reducible refine eMkKX_i ?_ | with_reducible refine eVar_i (by with_unfolding_all rfl) ?_ | with_reducible refine pure1N_i ?_ | with_reducible refine pure2N_i ?_ | with_reducible refine pure1_i ?_ | with_reducible refine pure2_i ?_ | with_reducible refine pure3_i ?_ | with_reducible refine bagJ2_i (by with_unfolding_all rfl) ?_ | with_reducible refine bagJ1_i (by with_unfolding_all rfl) ?_ | with_reducible refine ixL_i (by with_unfolding_all rfl) ?_ | with_reducible refine ixT_i (by with_unfolding_all rfl) ?_ | with_reducible refine addI_i ?_ | with_reducible refine subI_i ?_ | with_reducible refine cmpI_i ?_ | with_reducible refine eqI_i ?_ | with_reducible refine eqS_i ?_ | with_reducible refine lenL_i ?_ | with_reducible refine lenT_i ?_ | with_reducible refine asDsC_i ?_ | with_reducible refine asDsN_i ?_ | with_reducible refine asDsM_i ?_ | with_reducible refine le_i (by with_unfolding_all rfl) ?_ | with_reducible refine eqand_i (by with_unfolding_all rfl) ?_ | with_reducible refine isObj_i ?_ | with_reducible refine isIns_i (by with_unfolding_all rfl) ?_ | with_reducible refine insA_i ?_ | with_reducible refine optK_i (by with_unfolding_all rfl) ?_ | with_reducible refine gT_i (by with_unfolding_all rfl) ?_ | with_reducible refine gsC_i ?_ | with_reducible refine gsN_i ?_ | with_reducible refine sPar_i ?_ | with_reducible refine sPar3_i ?_ | with_reducible refine fldI_i (by with_unfolding_all rfl) ?_ | with_reducible refine eFldA_i ?_ | with_reducible refine fldA_i (by with_unfolding_all decide) (by with_unfolding_all rfl) ?_ | with_reducible refine fldAM_i (by with_unfolding_all rfl) (by with_unfolding_all decide) (by with_unfolding_all rfl) ?_ | with_reducible refine asBl_i ?_ | with_reducible refine asInt_i ?_ | with_reducible refine truth_bl ?_ | with_reducible refine cndT_i ?_ | with_reducible refine cndF_i ?_ | with_reducible refine cndNT_i ?_ | with_reducible refine cndNF_i ?_ | with_reducible refine addS_i (by decide +kernel) ?_ | with_reducible refine addL_i (by with_unfolding_all rfl) ?_ | with_reducible refine powI_i (by with_unfolding_all rfl) ?_ | with_reducible refine bag1_i (by with_unfolding_all rfl) ?_ | with_reducible refine bag2_i (by with_unfolding_all rfl) ?_ | with_reducible refine fmtS_i (by decide +kernel) ?_ | with_reducible refine fmtI_i (by assumption) ?_ | with_reducible refine gStr_i (by assumption) ?_ | with_reducible refine asStr_i ?_ | with_reducible refine jsN_i ?_ | with_reducible refine jsC_i ?_ | with_reducible refine slAnd_i (by decide +kernel) ?_ | with_reducible refine gReprO_i ?_ | with_reducible refine gEqO_i (by with_unfolding_all (show _ ∈ _; exact List.mem_of_elem_eq_true (by rfl))) (by with_unfolding_all rfl) ?_ | with_reducible refine perm10_i ?_ | with_reducible refine eLamL_i (by with_unfolding_all rfl) (lamDs_le (by decide +kernel)) ?_ | with_reducible refine eWhys_i ?_ | with_reducible refine gWhys_i (by with_unfolding_all rfl) (by with_unfolding_all rfl) (by with_unfolding_all rfl) (by with_unfolding_all rfl) ?_ | with_reducible refine why1_i ?_ | with_reducible refine whysN_i ?_ | with_reducible refine whysC_i ?_ | with_reducible refine xWhy_i (by with_unfolding_all rfl) ?_ | with_reducible refine vWhy_i ?_ | with_reducible refine gIsi_i (by with_unfolding_all rfl) ?_ | with_reducible refine cndE_i (by first | with_reducible rfl | assumption | decide +kernel) ?_ | with_reducible refine cndN_i (by first | assumption | decide +kernel) ?_ | with_reducible refine cndE2_i (by first | with_reducible rfl | assumption | decide +kernel) ?_ | with_reducible refine cndN2_i (by first | assumption | decide +kernel) ?_)
  refine mk_peg (nmd_nm m1) ?_
  rw [isNam_nm m1]
  repeat (first | with_reducible refine eC_i ?_ | with_reducible refine eOp_i ?_ | with_reducible refine eUn_i ?_ | with_reducible refine eAnd_i ?_ | with_reducible refine eOr_i ?_ | with_reducible refine eNot_i ?_ | with_reducible refine eIf_i ?_ | with_reducible refine aNil_i ?_ | with_reducible refine aCons_i ?_ | with_reducible refine eCall_i ?_ | with_reducible refine eCallX_i ?_ | with_reducible refine eCallC_i ?_ | with_reducible refine eMethX_i ?_ | with_reducible refine eMethC_i ?_ | with_reducible refine eProp_i ?_ | with_reducible refine eLst_i ?_ | with_reducible refine eTup_i ?_ | with_reducible refine eLstM_i ?_ | with_reducible refine eSl_i ?_ | with_reducible refine oNone_i ?_ | with_reducible refine oSome_i ?_ | with_reducible refine eBM_i ?_ | with_reducible refine tOf_i ?_ | with_reducible refine tBl_i ?_ | with_reducible refine tAndP_i ?_ | with_reducible refine tOrP_i ?_ | with_reducible refine tNotP_i ?_ | with_reducible refine sSeq_i ?_ | with_reducible refine sNext_i ?_ | with_reducible refine sExpr_i ?_ | with_reducible refine sRet_i ?_ | with_reducible refine sRetN_i ?_ | with_reducible refine sIf_i ?_ | with_reducible refine sAsg_i ?_ | with_reducible refine gN_i ?_ | with_reducible refine sForC_i ?_ | with_reducible refine eLc_i ?_ | with_reducible refine eLcM_i ?_ | with_reducible refine tYesP_i ?_ | with_reducible refine eCon_i ?_ | with_reducible refine ePropA_i ?_ | with_reducible refine eMethA_i ?_ | with_reducible refine eMkK_i ?_ | with_reducible refine eMkKX_i ?_ | with_reducible refine eVar_i (by with_unfolding_all rfl) ?_ | with_reducible refine pure1N_i ?_ | with_reducible refine pure2N_i ?_ | with_reducible refine pure1_i ?_ | with_reducible refine pure2_i ?_ | with_reducible refine pure3_i ?_ | with_reducible refine bagJ2_i (by with_unfolding_all rfl) ?_ | with_reducible refine bagJ1_i (by with_unfolding_all rfl) ?_ | with_reducible refine ixL_i (by with_unfolding_all rfl) ?_ | with_reducible refine ixT_i (by with_unfolding_all rfl) ?_ | with_reducible refine addI_i ?_ | with_reducible refine subI_i ?_ | with_reducible refine cmpI_i ?_ | with_reducible refine eqI_i ?_ | with_reducible refine eqS_i ?_ | with_reducible refine lenL_i ?_ | with_reducible refine lenT_i ?_ | with_reducible refine asDsC_i ?_ | with_reducible refine asDsN_i ?_ | with_reducible refine asDsM_i ?_ | with_reducible refine le_i (by with_unfolding_all rfl) ?_ | with_reducible refine eqand_i (by with_unfolding_all rfl) ?_ | with_reducible refine isObj_i ?_ | with_reducible refine isIns_i (by with_unfolding_all rfl) ?_ | with_reducible refine insA_i ?_ | with_reducible refine optK_i (by with_unfolding_all rfl) ?_ | with_reducible refine gT_i (by with_unfolding_all rfl) ?_ | with_reducible refine gsC_i ?_ | with_reducible refine gsN_i ?_ | with_reducible refine sPar_i ?_ | with_reducible refine sPar3_i ?_ | with_reducible refine fldI_i (by with_unfolding_all rfl) ?_ | with_reducible refine eFldA_i ?_ | with_reducible refine fldA_i (by with_unfolding_all decide) (by with_unfolding_all rfl) ?_ | with_reducible refine fldAM_i (by with_unfolding_all rfl) (by with_unfolding_all decide) (by with_unfolding_all rfl) ?_ | with_reducible refine asBl_i ?_ | with_reducible refine asInt_i ?_ | with_reducible refine truth_bl ?_ | with_reducible refine cndT_i ?_ | with_reducible refine cndF_i ?_ | with_reducible refine cndNT_i ?_ | with_reducible refine cndNF_i ?_ | with_reducible refine addS_i (by decide +kernel) ?_ | with_reducible refine addL_i (by with_unfolding_all rfl) ?_ | with_reducible refine powI_i (by with_unfolding_all rfl) ?_ | with_reducible refine bag1_i (by with_unfolding_all rfl) ?_ | with_reducible refine bag2_i (by with_unfolding_all rfl) ?_ | with_reducible refine fmtS_i (by decide +kernel) ?_ | with_reducible refine fmtI_i (by assumption) ?_ | with_reducible refine gStr_i (by assumption) ?_ | with_reducible refine asStr_i ?_ | with_reducible refine jsN_i ?_ | with_reducible refine jsC_i ?_ | with_reducible refine slAnd_i (by decide +kernel) ?_ | with_reducible refine gReprO_i ?_ | with_reducible refine gEqO_i (by with_unfolding_all (show _ ∈ _; exact List.mem_of_elem_eq_true (by rfl))) (by with_unfolding_all rfl) ?_ | with_reducible refine perm10_i ?_ | with_reducible refine eLamL_i (by with_unfolding_all rfl) (lamDs_le (by decide +kernel)) ?_ | with_reducible refine eWhys_i ?_ | with_reducible refine gWhys_i (by with_unfolding_all rfl) (by with_unfolding_all rfl) (by with_unfolding_all rfl) (by with_unfolding_all rfl) ?_ | with_reducible refine why1_i ?_ | with_reducible refine whysN_i ?_ | with_reducible refine whysC_i ?_ | with_reducible refine xWhy_i (by with_unfolding_all rfl) ?_ | with_reducible refine vWhy_i ?_ | with_reducible refine gIsi_i (by with_unfolding_all rfl) ?_ | with_reducible refine cndE_i (by first | with_reducible rfl | assumption | decide +kernel) ?_ | with_reducible refine cndN_i (by first | assumption | decide +kernel) ?_ | with_reducible refine cndE2_i (by first | with_reducible rfl | assumption | decide +kernel) ?_ | with_reducible refine cndN2_i (by first | assumption | decide +kernel) ?_)
  refine mk_seat (nmd_nm m1) ?_
  rw [isNam_nm m1]
  repeat (first | with_reducible refine eC_i ?_ | with_reducible refine eOp_i ?_ | with_reducible refine eUn_i ?_ | with_reducible refine eAnd_i ?_ | with_reducible refine eOr_i ?_ | with_reducible refine eNot_i ?_ | with_reducible refine eIf_i ?_ | with_reducible refine aNil_i ?_ | with_reducible refine aCons_i ?_ | with_reducible refine eCall_i ?_ | with_reducible refine eCallX_i ?_ | with_reducible refine eCallC_i ?_ | with_reducible refine eMethX_i ?_ | with_reducible refine eMethC_i ?_ | with_reducible refine eProp_i ?_ | with_reducible refine eLst_i ?_ | with_reducible refine eTup_i ?_ | with_reducible refine eLstM_i ?_ | with_reducible refine eSl_i ?_ | with_reducible refine oNone_i ?_ | with_reducible refine oSome_i ?_ | with_reducible refine eBM_i ?_ | with_reducible refine tOf_i ?_ | with_reducible refine tBl_i ?_ | with_reducible refine tAndP_i ?_ | with_reducible refine tOrP_i ?_ | with_reducible refine tNotP_i ?_ | with_reducible refine sSeq_i ?_ | with_reducible refine sNext_i ?_ | with_reducible refine sExpr_i ?_ | with_reducible refine sRet_i ?_ | with_reducible refine sRetN_i ?_ | with_reducible refine sIf_i ?_ | with_reducible refine sAsg_i ?_ | with_reducible refine gN_i ?_ | with_reducible refine sForC_i ?_ | with_reducible refine eLc_i ?_ | with_reducible refine eLcM_i ?_ | with_reducible refine tYesP_i ?_ | with_reducible refine eCon_i ?_ | with_reducible refine ePropA_i ?_ | with_reducible refine eMethA_i ?_ | with_reducible refine eMkK_i ?_ | with_reducible refine eMkKX_i ?_ | with_reducible refine eVar_i (by with_unfolding_all rfl) ?_ | with_reducible refine pure1N_i ?_ | with_reducible refine pure2N_i ?_ | with_reducible refine pure1_i ?_ | with_reducible refine pure2_i ?_ | with_reducible refine pure3_i ?_ | with_reducible refine bagJ2_i (by with_unfolding_all rfl) ?_ | with_reducible refine bagJ1_i (by with_unfolding_all rfl) ?_ | with_reducible refine ixL_i (by with_unfolding_all rfl) ?_ | with_reducible refine ixT_i (by with_unfolding_all rfl) ?_ | with_reducible refine addI_i ?_ | with_reducible refine subI_i ?_ | with_reducible refine cmpI_i ?_ | with_reducible refine eqI_i ?_ | with_reducible refine eqS_i ?_ | with_reducible refine lenL_i ?_ | with_reducible refine lenT_i ?_ | with_reducible refine asDsC_i ?_ | with_reducible refine asDsN_i ?_ | with_reducible refine asDsM_i ?_ | with_reducible refine le_i (by with_unfolding_all rfl) ?_ | with_reducible refine eqand_i (by with_unfolding_all rfl) ?_ | with_reducible refine isObj_i ?_ | with_reducible refine isIns_i (by with_unfolding_all rfl) ?_ | with_reducible refine insA_i ?_ | with_reducible refine optK_i (by with_unfolding_all rfl) ?_ | with_reducible refine gT_i (by with_unfolding_all rfl) ?_ | with_reducible refine gsC_i ?_ | with_reducible refine gsN_i ?_ | with_reducible refine sPar_i ?_ | with_reducible refine sPar3_i ?_ | with_reducible refine fldI_i (by with_unfolding_all rfl) ?_ | with_reducible refine eFldA_i ?_ | with_reducible refine fldA_i (by with_unfolding_all decide) (by with_unfolding_all rfl) ?_ | with_reducible refine fldAM_i (by with_unfolding_all rfl) (by with_unfolding_all decide) (by with_unfolding_all rfl) ?_ | with_reducible refine asBl_i ?_ | with_reducible refine asInt_i ?_ | with_reducible refine truth_bl ?_ | with_reducible refine cndT_i ?_ | with_reducible refine cndF_i ?_ | with_reducible refine cndNT_i ?_ | with_reducible refine cndNF_i ?_ | with_reducible refine addS_i (by decide +kernel) ?_ | with_reducible refine addL_i (by with_unfolding_all rfl) ?_ | with_reducible refine powI_i (by with_unfolding_all rfl) ?_ | with_reducible refine bag1_i (by with_unfolding_all rfl) ?_ | with_reducible refine bag2_i (by with_unfolding_all rfl) ?_ | with_reducible refine fmtS_i (by decide +kernel) ?_ | with_reducible refine fmtI_i (by assumption) ?_ | with_reducible refine gStr_i (by assumption) ?_ | with_reducible refine asStr_i ?_ | with_reducible refine jsN_i ?_ | with_reducible refine jsC_i ?_ | with_reducible refine slAnd_i (by decide +kernel) ?_ | with_reducible refine gReprO_i ?_ | with_reducible refine gEqO_i (by with_unfolding_all (show _ ∈ _; exact List.mem_of_elem_eq_true (by rfl))) (by with_unfolding_all rfl) ?_ | with_reducible refine perm10_i ?_ | with_reducible refine eLamL_i (by with_unfolding_all rfl) (lamDs_le (by decide +kernel)) ?_ | with_reducible refine eWhys_i ?_ | with_reducible refine gWhys_i (by with_unfolding_all rfl) (by with_unfolding_all rfl) (by with_unfolding_all rfl) (by with_unfolding_all rfl) ?_ | with_reducible refine why1_i ?_ | with_reducible refine whysN_i ?_ | with_reducible refine whysC_i ?_ | with_reducible refine xWhy_i (by with_unfolding_all rfl) ?_ | with_reducible refine vWhy_i ?_ | with_reducible refine gIsi_i (by with_unfolding_all rfl) ?_ | with_reducible refine cndE_i (by first | with_reducible rfl | assumption | decide +kernel) ?_ | with_reducible refine cndN_i (by first | assumption | decide +kernel) ?_ | with_reducible refine cndE2_i (by first | with_reducible rfl | assumption | decide +kernel) ?_ | with_reducible refine cndN2_i (by first | assumption | decide +kernel) ?_)
  refine same_ok rfl (by with_unfolding_all rfl) ?_
  repeat (first | with_reducible refine eC_i ?_ | with_reducible refine eOp_i ?_ | with_reducible refine eUn_i ?_ | with_reducible refine eAnd_i ?_ | with_reducible refine eOr_i ?_ | with_reducible refine eNot_i ?_ | with_reducible refine eIf_i ?_ | with_reducible refine aNil_i ?_ | with_reducible refine aCons_i ?_ | with_reducible refine eCall_i ?_ | with_reducible refine eCallX_i ?_ | with_reducible refine eCallC_i ?_ | with_reducible refine eMethX_i ?_ | with_reducible refine eMethC_i ?_ | with_reducible refine eProp_i ?_ | with_reducible refine eLst_i ?_ | with_reducible refine eTup_i ?_ | with_reducible refine eLstM_i ?_ | with_reducible refine eSl_i ?_ | with_reducible refine oNone_i ?_ | with_reducible refine oSome_i ?_ | with_reducible refine eBM_i ?_ | with_reducible refine tOf_i ?_ | with_reducible refine tBl_i ?_ | with_reducible refine tAndP_i ?_ | with_reducible refine tOrP_i ?_ | with_reducible refine tNotP_i ?_ | with_reducible refine sSeq_i ?_ | with_reducible refine sNext_i ?_ | with_reducible refine sExpr_i ?_ | with_reducible refine sRet_i ?_ | with_reducible refine sRetN_i ?_ | with_reducible refine sIf_i ?_ | with_reducible refine sAsg_i ?_ | with_reducible refine gN_i ?_ | with_reducible refine sForC_i ?_ | with_reducible refine eLc_i ?_ | with_reducible refine eLcM_i ?_ | with_reducible refine tYesP_i ?_ | with_reducible refine eCon_i ?_ | with_reducible refine ePropA_i ?_ | with_reducible refine eMethA_i ?_ | with_reducible refine eMkK_i ?_ | with_reducible refine eMkKX_i ?_ | with_reducible refine eVar_i (by with_unfolding_all rfl) ?_ | with_reducible refine pure1N_i ?_ | with_reducible refine pure2N_i ?_ | with_reducible refine pure1_i ?_ | with_reducible refine pure2_i ?_ | with_reducible refine pure3_i ?_ | with_reducible refine bagJ2_i (by with_unfolding_all rfl) ?_ | with_reducible refine bagJ1_i (by with_unfolding_all rfl) ?_ | with_reducible refine ixL_i (by with_unfolding_all rfl) ?_ | with_reducible refine ixT_i (by with_unfolding_all rfl) ?_ | with_reducible refine addI_i ?_ | with_reducible refine subI_i ?_ | with_reducible refine cmpI_i ?_ | with_reducible refine eqI_i ?_ | with_reducible refine eqS_i ?_ | with_reducible refine lenL_i ?_ | with_reducible refine lenT_i ?_ | with_reducible refine asDsC_i ?_ | with_reducible refine asDsN_i ?_ | with_reducible refine asDsM_i ?_ | with_reducible refine le_i (by with_unfolding_all rfl) ?_ | with_reducible refine eqand_i (by with_unfolding_all rfl) ?_ | with_reducible refine isObj_i ?_ | with_reducible refine isIns_i (by with_unfolding_all rfl) ?_ | with_reducible refine insA_i ?_ | with_reducible refine optK_i (by with_unfolding_all rfl) ?_ | with_reducible refine gT_i (by with_unfolding_all rfl) ?_ | with_reducible refine gsC_i ?_ | with_reducible refine gsN_i ?_ | with_reducible refine sPar_i ?_ | with_reducible refine sPar3_i ?_ | with_reducible refine fldI_i (by with_unfolding_all rfl) ?_ | with_reducible refine eFldA_i ?_ | with_reducible refine fldA_i (by with_unfolding_all decide) (by with_unfolding_all rfl) ?_ | with_reducible refine fldAM_i (by with_unfolding_all rfl) (by with_unfolding_all decide) (by with_unfolding_all rfl) ?_ | with_reducible refine asBl_i ?_ | with_reducible refine asInt_i ?_ | with_reducible refine truth_bl ?_ | with_reducible refine cndT_i ?_ | with_reducible refine cndF_i ?_ | with_reducible refine cndNT_i ?_ | with_reducible refine cndNF_i ?_ | with_reducible refine addS_i (by decide +kernel) ?_ | with_reducible refine addL_i (by with_unfolding_all rfl) ?_ | with_reducible refine powI_i (by with_unfolding_all rfl) ?_ | with_reducible refine bag1_i (by with_unfolding_all rfl) ?_ | with_reducible refine bag2_i (by with_unfolding_all rfl) ?_ | with_reducible refine fmtS_i (by decide +kernel) ?_ | with_reducible refine fmtI_i (by assumption) ?_ | with_reducible refine gStr_i (by assumption) ?_ | with_reducible refine asStr_i ?_ | with_reducible refine jsN_i ?_ | with_reducible refine jsC_i ?_ | with_reducible refine slAnd_i (by decide +kernel) ?_ | with_reducible refine gReprO_i ?_ | with_reducible refine gEqO_i (by with_unfolding_all (show _ ∈ _; exact List.mem_of_elem_eq_true (by rfl))) (by with_unfolding_all rfl) ?_ | with_reducible refine perm10_i ?_ | with_reducible refine eLamL_i (by with_unfolding_all rfl) (lamDs_le (by decide +kernel)) ?_ | with_reducible refine eWhys_i ?_ | with_reducible refine gWhys_i (by with_unfolding_all rfl) (by with_unfolding_all rfl) (by with_unfolding_all rfl) (by with_unfolding_all rfl) ?_ | with_reducible refine why1_i ?_ | with_reducible refine whysN_i ?_ | with_reducible refine whysC_i ?_ | with_reducible refine xWhy_i (by with_unfolding_all rfl) ?_ | with_reducible refine vWhy_i ?_ | with_reducible refine gIsi_i (by with_unfolding_all rfl) ?_ | with_reducible refine cndE_i (by first | with_reducible rfl | assumption | decide +kernel) ?_ | with_reducible refine cndN_i (by first | assumption | decide +kernel) ?_ | with_reducible refine cndE2_i (by first | with_reducible rfl | assumption | decide +kernel) ?_ | with_reducible refine cndN2_i (by first | assumption | decide +kernel) ?_)
  refine turn2 m1 m2 i1 i2 (fun e => ?_) (fun e => ?_) hP
  · subst e; simp at hd
  · subst e; simp at hid
end
theorem law_pure {PT : Addr} {R : RB} (hR : ∀ S, R (.fz (.bl true)) S) : W_law PT [.fz .scr] [.tab PT qLam] noX R := by
  unfold W_law
  refine ⟨rfl, fun cl => ?_⟩
  refine ⟨⟨by decide, by decide⟩, forC_cut (Γ0 := E11) (S0 := [.tab PT qLam, .bag]) rfl ⟨rfl, rfl⟩ (fun d _ nx hn => ?_) ?_⟩
  · exact turn0 fun Γ e => hn Γ _ e rfl
  · repeat (first | with_reducible refine eC_i ?_ | with_reducible refine eOp_i ?_ | with_reducible refine eUn_i ?_ | with_reducible refine eAnd_i ?_ | with_reducible refine eOr_i ?_ | with_reducible refine eNot_i ?_ | with_reducible refine eIf_i ?_ | with_reducible refine aNil_i ?_ | with_reducible refine aCons_i ?_ | with_reducible refine eCall_i ?_ | with_reducible refine eCallX_i ?_ | with_reducible refine eCallC_i ?_ | with_reducible refine eMethX_i ?_ | with_reducible refine eMethC_i ?_ | with_reducible refine eProp_i ?_ | with_reducible refine eLst_i ?_ | with_reducible refine eTup_i ?_ | with_reducible refine eLstM_i ?_ | with_reducible refine eSl_i ?_ | with_reducible refine oNone_i ?_ | with_reducible refine oSome_i ?_ | with_reducible refine eBM_i ?_ | with_reducible refine tOf_i ?_ | with_reducible refine tBl_i ?_ | with_reducible refine tAndP_i ?_ | with_reducible refine tOrP_i ?_ | with_reducible refine tNotP_i ?_ | with_reducible refine sSeq_i ?_ | with_reducible refine sNext_i ?_ | with_reducible refine sExpr_i ?_ | with_reducible refine sRet_i ?_ | with_reducible refine sRetN_i ?_ | with_reducible refine sIf_i ?_ | with_reducible refine sAsg_i ?_ | with_reducible refine gN_i ?_ | with_reducible refine sForC_i ?_ | with_reducible refine eLc_i ?_ | with_reducible refine eLcM_i ?_ | with_reducible refine tYesP_i ?_ | with_reducible refine eCon_i ?_ | with_reducible refine ePropA_i ?_ | with_reducible refine eMethA_i ?_ | with_reducible refine eMkK_i ?_ | with_reducible refine eMkKX_i ?_ | with_reducible refine eVar_i (by with_unfolding_all rfl) ?_ | with_reducible refine pure1N_i ?_ | with_reducible refine pure2N_i ?_ | with_reducible refine pure1_i ?_ | with_reducible refine pure2_i ?_ | with_reducible refine pure3_i ?_ | with_reducible refine bagJ2_i (by with_unfolding_all rfl) ?_ | with_reducible refine bagJ1_i (by with_unfolding_all rfl) ?_ | with_reducible refine ixL_i (by with_unfolding_all rfl) ?_ | with_reducible refine ixT_i (by with_unfolding_all rfl) ?_ | with_reducible refine addI_i ?_ | with_reducible refine subI_i ?_ | with_reducible refine cmpI_i ?_ | with_reducible refine eqI_i ?_ | with_reducible refine eqS_i ?_ | with_reducible refine lenL_i ?_ | with_reducible refine lenT_i ?_ | with_reducible refine asDsC_i ?_ | with_reducible refine asDsN_i ?_ | with_reducible refine asDsM_i ?_ | with_reducible refine le_i (by with_unfolding_all rfl) ?_ | with_reducible refine eqand_i (by with_unfolding_all rfl) ?_ | with_reducible refine isObj_i ?_ | with_reducible refine isIns_i (by with_unfolding_all rfl) ?_ | with_reducible refine insA_i ?_ | with_reducible refine optK_i (by with_unfolding_all rfl) ?_ | with_reducible refine gT_i (by with_unfolding_all rfl) ?_ | with_reducible refine gsC_i ?_ | with_reducible refine gsN_i ?_ | with_reducible refine sPar_i ?_ | with_reducible refine sPar3_i ?_ | with_reducible refine fldI_i (by with_unfolding_all rfl) ?_ | with_reducible refine eFldA_i ?_ | with_reducible refine fldA_i (by with_unfolding_all decide) (by with_unfolding_all rfl) ?_ | with_reducible refine fldAM_i (by with_unfolding_all rfl) (by with_unfolding_all decide) (by with_unfolding_all rfl) ?_ | with_reducible refine asBl_i ?_ | with_reducible refine asInt_i ?_ | with_reducible refine truth_bl ?_ | with_reducible refine cndT_i ?_ | with_reducible refine cndF_i ?_ | with_reducible refine cndNT_i ?_ | with_reducible refine cndNF_i ?_ | with_reducible refine addS_i (by decide +kernel) ?_ | with_reducible refine addL_i (by with_unfolding_all rfl) ?_ | with_reducible refine powI_i (by with_unfolding_all rfl) ?_ | with_reducible refine bag1_i (by with_unfolding_all rfl) ?_ | with_reducible refine bag2_i (by with_unfolding_all rfl) ?_ | with_reducible refine fmtS_i (by decide +kernel) ?_ | with_reducible refine fmtI_i (by assumption) ?_ | with_reducible refine gStr_i (by assumption) ?_ | with_reducible refine asStr_i ?_ | with_reducible refine jsN_i ?_ | with_reducible refine jsC_i ?_ | with_reducible refine slAnd_i (by decide +kernel) ?_ | with_reducible refine gReprO_i ?_ | with_reducible refine gEqO_i (by with_unfolding_all (show _ ∈ _; exact List.mem_of_elem_eq_true (by rfl))) (by with_unfolding_all rfl) ?_ | with_reducible refine perm10_i ?_ | with_reducible refine eLamL_i (by with_unfolding_all rfl) (lamDs_le (by decide +kernel)) ?_ | with_reducible refine eWhys_i ?_ | with_reducible refine gWhys_i (by with_unfolding_all rfl) (by with_unfolding_all rfl) (by with_unfolding_all rfl) (by with_unfolding_all rfl) ?_ | with_reducible refine why1_i ?_ | with_reducible refine whysN_i ?_ | with_reducible refine whysC_i ?_ | with_reducible refine xWhy_i (by with_unfolding_all rfl) ?_ | with_reducible refine vWhy_i ?_ | with_reducible refine gIsi_i (by with_unfolding_all rfl) ?_ | with_reducible refine cndE_i (by first | with_reducible rfl | assumption | decide +kernel) ?_ | with_reducible refine cndN_i (by first | assumption | decide +kernel) ?_ | with_reducible refine cndE2_i (by first | with_reducible rfl | assumption | decide +kernel) ?_ | with_reducible refine cndN2_i (by first | assumption | decide +kernel) ?_)
    exact hR _
end PL

namespace Lp
open PySem L2
/-! ### what the written part says of the classes -/
structure CG (K : PySem.W.Frag) (C : Addr) (x : Str) : Prop where
  ns : PySem.W.nsIn K mainGlobals x = some (some (.ref C))
  ty : PySem.W.typeIn K (.ref C) = some (.type "type")
  kp : PySem.W.keepIn K (.ref C) = true
  ga : PySem.W.findIn K (.ref C) "__getattribute__" = some (some (.builtin "BaseException.__getattribute__"))
  gg : PySem.W.findIn K (.ref C) "__getattr__" = some none
  kc : PySem.W.findIn K (.ref C) "__class__" = some (some (.builtin "object.__class__"))
  hd : PySem.W.hasDictIn K C = true
structure CF (K : PySem.W.Frag) (C : Addr) (f : Str) : Prop where
  sa : PySem.W.findIn K (.ref C) "__setattr__" = some (some (.builtin "object.__setattr__"))
  nf : PySem.W.findIn K (.ref C) f = some none
  nc : PySem.W.findIn K (.ref C) "code" = some none
structure SP (K : PySem.W.Frag) : Prop where
  gt : PySem.W.specialIn K (.builtin "object.__class__") "__get__" = some (some (.builtin "getset_descriptor.__get__"))
  tk : PySem.W.takesIn K (.builtin "object.__class__") = some true
def CMr (K : PySem.W.Frag) (C : Addr) (m : List Value) : Prop := ∃ cd, PySem.W.clsIn K C = some cd ∧ cd.mro = .ref C :: m
theorem CMr.sub {K : PySem.W.Frag} {C : Addr} {m : List Value} (h : CMr K C m) (t : Value) : PySem.W.subIn K (.ref C) t = some ((Value.ref C :: m).contains t) := by
  obtain ⟨cd, h1, h2⟩ := h
  show PySem.W.mroIn K C t = _
  unfold PySem.W.mroIn
  rw [h1, Option.bind_some, h2]
  rfl
theorem CMr.some {K : PySem.W.Frag} {C : Addr} {m : List Value} (h : CMr K C m) : (PySem.W.clsIn K C).isSome = true := by
  obtain ⟨cd, h1, h2⟩ := h
  rw [h1]
  rfl
theorem ref_beq {a b : Addr} : (Value.ref a == Value.ref b) = decide (a = b) := by
  by_cases h : a = b
  · rw [h, decide_eq_true rfl, beq_self_eq_true]
  · rw [decide_eq_false h, beq_eq_false_iff_ne.mpr fun e => h (by injection e)]
theorem ref_ty {a : Addr} {t : String} : (Value.ref a == Value.type t) = false := beq_eq_false_iff_ne.mpr fun e => by cases e
theorem ty_ref {a : Addr} {t : String} : (Value.type t == Value.ref a) = false := beq_eq_false_iff_ne.mpr fun e => by cases e
abbrev mVE : List Value := [.type "ValueError", .type "Exception", .type "BaseException", .type "object"]
abbrev mLE : List Value := [.type "LookupError", .type "Exception", .type "BaseException", .type "object"]
abbrev mIE : List Value := [.type "IndexError", .type "LookupError", .type "Exception", .type "BaseException", .type "object"]
theorem refs_of : ∀ bm : List Value, PySem.W.excTail mVE bm = true → PySem.HandSPX.refsVE bm = true
  | [], h => absurd h (by decide +kernel)
  | a :: r, h => by
    rcases PySem.W.excTail_cases _ h with ⟨c, r', e, h'⟩ | e
    · cases e
      exact refs_of r h'
    · rw [e]
      decide +kernel
theorem oexC_of {K : PySem.W.Frag} {C : Addr} (q : PySem.W.excInitIn K C mVE "ValueError.__new__" = true) (hd : PySem.W.hasDictIn K C = true) (sa : PySem.W.findIn K (.ref C) "__setattr__" = some (some (.builtin "object.__setattr__"))) (exC : PySem.W.subIn K (.ref C) (.type "BaseException") = some true)
    (tyC : PySem.W.typeIn K (.ref C) = some (.type "type")) (kC : PySem.W.keepIn K (.ref C) = true) : OexC K C := by
  refine ⟨?_, sa, exC, tyC, kC⟩
  unfold PySem.W.excInitIn at q
  unfold PySem.W.hasDictIn PySem.W.clsIn at hd
  split at q
  · rename_i dd cd sl ho
    rw [ho] at hd
    split at q
    · rename_i C' bm k0 k1 k2 k3 n k5 hm hs
      simp only [Bool.and_eq_true, beq_iff_eq, Bool.not_eq_true'] at q
      obtain ⟨⟨⟨rfl, rfl⟩, hdel⟩, ht⟩ := q
      obtain ⟨nm, bs, mro, ns, qn, hd', sn, sub, ab, col, del⟩ := cd
      dsimp only at hm hdel
      subst hm hdel
      have e1 : hd' = true := by simpa using hd
      subst e1
      obtain ⟨l⟩ := sl
      simp only at hs
      subst hs
      exact ⟨nm, qn, ns, bs, bm, sn, sub, ab, col, dd, k0, k1, k2, k3, k5, ho, refs_of _ ht⟩
    · cases q
  · cases q
theorem exm_own {K : PySem.W.Frag} {C D : Addr} {m md : List Value} (h : CMr K C m) (hd : CMr K D md) (t : PySem.W.typeIn K (.ref D) = some (.type "type")) (b : md.contains (.type "BaseException") = true) : PySem.W.exmOne K (.ref C) (.ref D) = some ((Value.ref C :: m).contains (.ref D)) := by
  unfold PySem.W.exmOne
  rw [if_pos (by rw [hd.sub, List.contains_cons, b, Bool.or_true]; rfl)]
  show (if ((PySem.W.clsIn K D).isSome && PySem.W.typeIn K (.ref D) == some (.type "type")) = true then PySem.W.subIn K (.ref C) (.ref D) else none) = _
  rw [if_pos (by rw [hd.some, t, beq_self_eq_true]; rfl), h.sub]
theorem exm_any1 {K : PySem.W.Frag} {C D1 D2 D3 : Addr} {b2 b3 : Bool} (h1 : PySem.W.exmOne K (.ref C) (.ref D1) = some true) (h2 : PySem.W.exmOne K (.ref C) (.ref D2) = some b2) (h3 : PySem.W.exmOne K (.ref C) (.ref D3) = some b3) : PySem.W.exmAny K (.ref C) [.ref D1, .ref D2, .ref D3] = some true := by
  simp only [PySem.W.exmAny, h1, h2, h3, Bool.true_or]

end Lp
/-! facts of the end, put together (own work) -/
namespace PL
open PySem L2
section
variable {K : PySem.W.Frag} {a d : Str} {A D : Addr} {t : String} {b : Bool}
theorem isoo (h1 : clsAt K a = A) (h2 : clsAt K d = D) (i : InsTy K A) (k : PySem.W.kitOne K (.ref A) (.ref D) = some b) : InsTy K (clsAt K a) ∧ PySem.W.kitOne K (.ref (clsAt K a)) (.ref (clsAt K d)) = some b := by subst h1; subst h2; exact ⟨i, k⟩
theorem isbo (h2 : clsAt K d = D) (k : PySem.W.kitOne K (.type t) (.ref D) = some b) : PySem.W.kitOne K (.type t) (.ref (clsAt K d)) = some b := by subst h2; exact k
theorem isob (h1 : clsAt K a = A) (i : InsTy K A) (k : PySem.W.kitOne K (.ref A) (.type t) = some b) : InsTy K (clsAt K a) ∧ PySem.W.kitOne K (.ref (clsAt K a)) (.type t) = some b := by subst h1; exact ⟨i, k⟩
theorem isa_mk {T : IsaT} (h1 : AllT (fun (p : Str × Str) b => InsTy K (clsAt K p.1) ∧ PySem.W.kitOne K (.ref (clsAt K p.1)) (.ref (clsAt K p.2)) = some b) T.oo) (h2 : AllT (fun (p : String × Str) b => PySem.W.kitOne K (.type p.1) (.ref (clsAt K p.2)) = some b) T.bo)
    (h3 : AllT (fun (p : Str × String) b => InsTy K (clsAt K p.1) ∧ PySem.W.kitOne K (.ref (clsAt K p.1)) (.type p.2) = some b) T.ob) : IsaTOk K T := ⟨fun a d b e => h1.look (a, d) b e, fun a d b e => h2.look (a, d) b e, fun a d b e => h3.look (a, d) b e⟩
theorem nfoo (h1 : clsAt K a = A) (h2 : clsAt K d = D) (k : PySem.W.notFirst K A (.ref D) = true) : PySem.W.notFirst K (clsAt K a) (.ref (clsAt K d)) = true := by subst h1; subst h2; exact k
theorem nfob (h1 : clsAt K a = A) (k : PySem.W.notFirst K A (.type t) = true) : PySem.W.notFirst K (clsAt K a) (.type t) = true := by subst h1; exact k
inductive AllL {α : Type} (p : α → Prop) : List α → Prop
  | nil : AllL p []
  | cons {c : α} {t : List α} : p c → AllL p t → AllL p (c :: t)
theorem AllL.mem {α : Type} {p : α → Prop} : ∀ {t : List α}, AllL p t → ∀ c ∈ t, p c
  | _, .nil, _, h => by cases h
  | _, .cons x r, c, h => by
    rcases List.mem_cons.mp h with e | e
    · rw [e]; exact x
    · exact AllL.mem r c e
theorem eqt_mk {oo : List (Str × Str)} {ob : List (Str × String)} (h1 : AllL (fun p : Str × Str => PySem.W.notFirst K (clsAt K p.1) (.ref (clsAt K p.2)) = true) oo) (h2 : AllL (fun p : Str × String => PySem.W.notFirst K (clsAt K p.1) (.type p.2) = true) ob) : EqTOk K oo ob := ⟨h1.mem, h2.mem⟩
theorem exm_any_1 {C D1 D2 D3 : Addr} {b2 b3 : Bool} (h1 : PySem.W.exmOne K (.ref C) (.ref D1) = some true) (h2 : PySem.W.exmOne K (.ref C) (.ref D2) = some b2) (h3 : PySem.W.exmOne K (.ref C) (.ref D3) = some b3) : PySem.W.exmAny K (.ref C) [.ref D1, .ref D2, .ref D3] = some true := by
  simp only [PySem.W.exmAny, h1, h2, h3, Bool.true_or]
theorem exm_any_2 {C D1 D2 D3 : Addr} {b1 b3 : Bool} (h1 : PySem.W.exmOne K (.ref C) (.ref D1) = some b1) (h2 : PySem.W.exmOne K (.ref C) (.ref D2) = some true) (h3 : PySem.W.exmOne K (.ref C) (.ref D3) = some b3) : PySem.W.exmAny K (.ref C) [.ref D1, .ref D2, .ref D3] = some true := by
  simp only [PySem.W.exmAny, h1, h2, h3, Bool.true_or, Bool.or_true]
theorem exm_any_3 {C D1 D2 D3 : Addr} {b1 b2 : Bool} (h1 : PySem.W.exmOne K (.ref C) (.ref D1) = some b1) (h2 : PySem.W.exmOne K (.ref C) (.ref D2) = some b2) (h3 : PySem.W.exmOne K (.ref C) (.ref D3) = some true) : PySem.W.exmAny K (.ref C) [.ref D1, .ref D2, .ref D3] = some true := by
  simp only [PySem.W.exmAny, h1, h2, h3, Bool.true_or, Bool.or_true]
end
end PL

namespace Lp
open PySem L2
def spLaw (K : PySem.W.Frag) (PT : Addr) : Sp := fun vs H Q _ => ∃ (a : Addr) (ns : List Int), vs = [.ref a] ∧ SqL K H a (ns.map V.int) ∧ ns.length ≤ 63 ∧ H PT = some (.tbl #[]) ∧ ∀ H', Q (.bl true) H'
end Lp
namespace PL
open PySem L2 Lp
theorem law_meets {P : Program} {w : World} {K : PySem.W.Frag} {mg : Str → Option Value} {base : Heap} {f PT : Addr} {fd : FuncData} (F : FnOk P w K mg base CX0 10 f fd ["_law_script"] (spP K (W_law PT))) : FnOk P w K mg base CX0 10 f fd ["_law_script"] (spLaw K PT) :=
  F.imp fun vs H Q E ⟨a, ns, e, h1, h2, hP, h3⟩ =>
    let ts := tab_start (q := qLam) hP h1
    ⟨_, _, _, [.fz .scr], fun b _ => b = .fz (.bl true), rfl, ts.1, by rw [e]; exact .cons (b := .fz .scr) (Den.scr ts.2 h2) .nil, law_pure fun _ => rfl, fun b S' w' v hb _ _ hd => by
        subst hb
        cases (show Den K w'.F (.bl true) v from hd)
        exact h3 _⟩
end PL
namespace Lp
open PySem L2 PL
theorem all_mk {l : PySem.W.OpenLaw} {w : World} {K : PySem.W.Frag} {h : Heap} {mg : Str → Option Value} {fa : Addr} (X : K.In h) (G : h.Ns mainGlobals mg) (hfa : mg "law" = some (.ref fa)) (hown : LamX.OwnTab K fa h)
    {C_Peg : Addr}
    {C_Seat : Addr}
    {C_Thing : Addr}
    {C_InvalidName : Addr}
    {C_InvalidNumber : Addr}
    {C_LumpError : Addr}
    {C_Missing : Addr}
    {C_NothingLeft : Addr}
    {q_Thing_number : Addr}
    {q_Thing_numberR : List Value}
    {q_Seat_label : Addr}
    {q_Seat_labelR : List Value}
    {f1 : Addr}
    {od1 an1 : Option Addr} {sl1 : Array (Option Value)} {oc1 kV1 dc1 pm1 ct1 : Value}
    {cd1 : Value}
    {f2 : Addr}
    {od2 an2 : Option Addr} {sl2 : Array (Option Value)} {oc2 kV2 dc2 pm2 ct2 : Value}
    {cd2 : Value}
    {f3 : Addr}
    {od3 an3 : Option Addr} {sl3 : Array (Option Value)} {oc3 kV3 dc3 pm3 ct3 : Value}
    {cd3 : Value}
    {f4 : Addr}
    {od4 an4 : Option Addr} {sl4 : Array (Option Value)} {oc4 kV4 dc4 pm4 ct4 : Value}
    {cd4 : Value}
    {f5 : Addr}
    {od5 an5 : Option Addr} {sl5 : Array (Option Value)} {oc5 kV5 dc5 pm5 ct5 : Value}
    {cd5 : Value}
    {f6 : Addr}
    {od6 an6 : Option Addr} {sl6 : Array (Option Value)} {oc6 kV6 dc6 pm6 ct6 : Value}
    {cd6 : Value}
    {f7 : Addr}
    {od7 an7 : Option Addr} {sl7 : Array (Option Value)} {oc7 kV7 dc7 pm7 ct7 : Value}
    {cd7 : Value}
    {f8 : Addr}
    {od8 an8 : Option Addr} {sl8 : Array (Option Value)} {oc8 kV8 dc8 pm8 ct8 : Value}
    {cd8 : Value}
    {f9 : Addr}
    {od9 an9 : Option Addr} {sl9 : Array (Option Value)} {oc9 kV9 dc9 pm9 ct9 : Value}
    {cd9 : Value}
    {f10 : Addr}
    {od10 an10 : Option Addr} {sl10 : Array (Option Value)} {oc10 kV10 dc10 pm10 ct10 : Value}
    {cd10 : Value}
    {f11 : Addr}
    {od11 an11 : Option Addr} {sl11 : Array (Option Value)} {oc11 kV11 dc11 pm11 ct11 : Value}
    {cd11 : Value}
    {f12 : Addr}
    {od12 an12 : Option Addr} {sl12 : Array (Option Value)} {oc12 kV12 dc12 pm12 ct12 : Value}
    {cd12 : Value}
    {f13 : Addr}
    {od13 an13 : Option Addr} {sl13 : Array (Option Value)} {oc13 kV13 dc13 pm13 ct13 : Value}
    {cd13 : Value}
    {T13 : Addr} {dd13 : Option Addr} {nn13 : Nat} {ss13 : Array (Option Value)} {u13_0 u13_1 : Tok}
    {f14 : Addr}
    {od14 an14 : Option Addr} {sl14 : Array (Option Value)} {oc14 kV14 dc14 pm14 ct14 : Value}
    {cd14 : Value}
    {f15 : Addr}
    {od15 an15 : Option Addr} {sl15 : Array (Option Value)} {oc15 kV15 dc15 pm15 ct15 : Value}
    {cd15 cc15 : Addr}
    {ccl15 xcl15 : Value} {cdd15 xcd15 : Option Addr} {cvs15 : Array Value} {ccs15 xsl15 : Array (Option Value)} {file15 : Str} {tf15 : Tok}
    {f16 : Addr}
    {od16 an16 : Option Addr} {sl16 : Array (Option Value)} {oc16 kV16 dc16 pm16 ct16 : Value}
    {cd16 cc16 : Addr}
    {ccl16 xcl16 : Value} {cdd16 xcd16 : Option Addr} {cvs16 : Array Value} {ccs16 xsl16 : Array (Option Value)} {file16 : Str} {tf16 : Tok}
    {f17 : Addr}
    {od17 an17 : Option Addr} {sl17 : Array (Option Value)} {oc17 kV17 dc17 pm17 ct17 : Value}
    {cd17 : Value}
    {f18 : Addr}
    {od18 an18 : Option Addr} {sl18 : Array (Option Value)} {oc18 kV18 dc18 pm18 ct18 : Value}
    {cd18 : Value}
    {f19 : Addr}
    {od19 an19 : Option Addr} {sl19 : Array (Option Value)} {oc19 kV19 dc19 pm19 ct19 : Value}
    {cd19 : Value}
    {f20 : Addr}
    {od20 an20 : Option Addr} {sl20 : Array (Option Value)} {oc20 kV20 dc20 pm20 ct20 : Value}
    {cd20 : Value}
    {f21 : Addr}
    {od21 an21 : Option Addr} {sl21 : Array (Option Value)} {oc21 kV21 dc21 pm21 ct21 : Value}
    {cd21 : Value}
    {f22 : Addr}
    {od22 an22 : Option Addr} {sl22 : Array (Option Value)} {oc22 kV22 dc22 pm22 ct22 : Value}
    {cd22 : Value}
    {f23 : Addr}
    {od23 an23 : Option Addr} {sl23 : Array (Option Value)} {oc23 kV23 dc23 pm23 ct23 : Value}
    {cd23 : Value}
    {f24 : Addr}
    {od24 an24 : Option Addr} {sl24 : Array (Option Value)} {oc24 kV24 dc24 pm24 ct24 : Value}
    {cd24 : Value}
    {f25 : Addr}
    {od25 an25 : Option Addr} {sl25 : Array (Option Value)} {oc25 kV25 dc25 pm25 ct25 : Value}
    {cd25 : Value}
    {f26 : Addr}
    {od26 an26 : Option Addr} {sl26 : Array (Option Value)} {oc26 kV26 dc26 pm26 ct26 : Value}
    {tv_Seat_KIND : Tok}
    {tv_Thing_KIND : Tok}
    {tk_Peg_KIND : Tok}
    {tk_Seat_KIND : Tok}
    {tk_Thing_KIND : Tok}
    {t_MOST_LETTERS : Tok}
    {cL PT : Addr}
    {eC : Value} {dC : Option Addr} {vC : Array Value} {sC : Array (Option Value)}
    (n_Peg : PySem.W.nsIn K mainGlobals "Peg" = some (some (.ref C_Peg)))
    (n_Seat : PySem.W.nsIn K mainGlobals "Seat" = some (some (.ref C_Seat)))
    (n_Thing : PySem.W.nsIn K mainGlobals "Thing" = some (some (.ref C_Thing)))
    (g_InvalidName : CG K C_InvalidName "InvalidName")
    (g_InvalidNumber : CG K C_InvalidNumber "InvalidNumber")
    (g_LumpError : CG K C_LumpError "LumpError")
    (g_Missing : CG K C_Missing "Missing")
    (g_NothingLeft : CG K C_NothingLeft "NothingLeft")
    (m_InvalidName : CMr K C_InvalidName (.ref C_LumpError :: mVE))
    (m_InvalidNumber : CMr K C_InvalidNumber (.ref C_LumpError :: mVE))
    (m_LumpError : CMr K C_LumpError (mVE))
    (m_Missing : CMr K C_Missing (mLE))
    (m_NothingLeft : CMr K C_NothingLeft (mIE))
    (h_InvalidName : CF K C_InvalidName "given")
    (x_InvalidName : PySem.W.excInitIn K C_InvalidName mVE "ValueError.__new__" = true)
    (h_InvalidNumber : CF K C_InvalidNumber "given")
    (x_InvalidNumber : PySem.W.excInitIn K C_InvalidNumber mVE "ValueError.__new__" = true)
    (pa_Peg_label : PySem.W.findIn K (.ref C_Peg) "label" = some (some (.ref q_Seat_label)))
    (pa_Thing_label : PySem.W.findIn K (.ref C_Thing) "label" = some (some (.ref q_Seat_label)))
    (pa_Thing_number : PySem.W.findIn K (.ref C_Thing) "number" = some (some (.ref q_Thing_number)))
    (a1 : PySem.W.nsIn K mainGlobals "_law_field" = some (some (.ref f1)))
    (l1 : K.lookup f1 = some ⟨oc1, od1, .func (PySem.W.fnOf "_law_field" "_law_field" (defArgs s__law_field) (defBody s__law_field) (defScope s__law_field) .none kV1 dc1 pm1 an1 cd1 ct1), sl1⟩)
    (c1 : PySem.W.codeIn K cd1 "_law_field" = true)
    (k1 : PySem.W.keepIn K (.ref f1) = true)
    (a2 : PySem.W.nsIn K mainGlobals "_law_why" = some (some (.ref f2)))
    (l2 : K.lookup f2 = some ⟨oc2, od2, .func (PySem.W.fnOf "_law_why" "_law_why" (defArgs s__law_why) (defBody s__law_why) (defScope s__law_why) .none kV2 dc2 pm2 an2 cd2 ct2), sl2⟩)
    (c2 : PySem.W.codeIn K cd2 "_law_why" = true)
    (k2 : PySem.W.keepIn K (.ref f2) = true)
    (a3 : PySem.W.nsIn K mainGlobals "_law_whys" = some (some (.ref f3)))
    (l3 : K.lookup f3 = some ⟨oc3, od3, .func (PySem.W.fnOf "_law_whys" "_law_whys" (defArgs s__law_whys) (defBody s__law_whys) (defScope s__law_whys) .none kV3 dc3 pm3 an3 cd3 ct3), sl3⟩)
    (c3 : PySem.W.codeIn K cd3 "_law_whys" = true)
    (k3 : PySem.W.keepIn K (.ref f3) = true)
    (a4 : PySem.W.nsIn K mainGlobals "_law_bag" = some (some (.ref f4)))
    (l4 : K.lookup f4 = some ⟨oc4, od4, .func (PySem.W.fnOf "_law_bag" "_law_bag" (defArgs s__law_bag) (defBody s__law_bag) (defScope s__law_bag) .none kV4 dc4 pm4 an4 cd4 ct4), sl4⟩)
    (c4 : PySem.W.codeIn K cd4 "_law_bag" = true)
    (k4 : PySem.W.keepIn K (.ref f4) = true)
    (a5 : PySem.W.nsIn K mainGlobals "_law_pull" = some (some (.ref f5)))
    (l5 : K.lookup f5 = some ⟨oc5, od5, .func (PySem.W.fnOf "_law_pull" "_law_pull" (defArgs s__law_pull) (defBody s__law_pull) (defScope s__law_pull) .none kV5 dc5 pm5 an5 cd5 ct5), sl5⟩)
    (c5 : PySem.W.codeIn K cd5 "_law_pull" = true)
    (k5 : PySem.W.keepIn K (.ref f5) = true)
    (a6 : PySem.W.nsIn K mainGlobals "_law_pick" = some (some (.ref f6)))
    (l6 : K.lookup f6 = some ⟨oc6, od6, .func (PySem.W.fnOf "_law_pick" "_law_pick" (defArgs s__law_pick) (defBody s__law_pick) (defScope s__law_pick) .none kV6 dc6 pm6 an6 cd6 ct6), sl6⟩)
    (c6 : PySem.W.codeIn K cd6 "_law_pick" = true)
    (k6 : PySem.W.keepIn K (.ref f6) = true)
    (a7 : PySem.W.nsIn K mainGlobals "_law_mixed" = some (some (.ref f7)))
    (l7 : K.lookup f7 = some ⟨oc7, od7, .func (PySem.W.fnOf "_law_mixed" "_law_mixed" (defArgs s__law_mixed) (defBody s__law_mixed) (defScope s__law_mixed) .none kV7 dc7 pm7 an7 cd7 ct7), sl7⟩)
    (c7 : PySem.W.codeIn K cd7 "_law_mixed" = true)
    (k7 : PySem.W.keepIn K (.ref f7) = true)
    (a8 : PySem.W.nsIn K mainGlobals "_law_numbers" = some (some (.ref f8)))
    (l8 : K.lookup f8 = some ⟨oc8, od8, .func (PySem.W.fnOf "_law_numbers" "_law_numbers" (defArgs s__law_numbers) (defBody s__law_numbers) (defScope s__law_numbers) .none kV8 dc8 pm8 an8 cd8 ct8), sl8⟩)
    (c8 : PySem.W.codeIn K cd8 "_law_numbers" = true)
    (k8 : PySem.W.keepIn K (.ref f8) = true)
    (a9 : PySem.W.nsIn K mainGlobals "_law_names" = some (some (.ref f9)))
    (l9 : K.lookup f9 = some ⟨oc9, od9, .func (PySem.W.fnOf "_law_names" "_law_names" (defArgs s__law_names) (defBody s__law_names) (defScope s__law_names) .none kV9 dc9 pm9 an9 cd9 ct9), sl9⟩)
    (c9 : PySem.W.codeIn K cd9 "_law_names" = true)
    (k9 : PySem.W.keepIn K (.ref f9) = true)
    (a10 : PySem.W.nsIn K mainGlobals "is_name" = some (some (.ref f10)))
    (l10 : K.lookup f10 = some ⟨oc10, od10, .func (PySem.W.fnOf "is_name" "is_name" (defArgs s_is_name) (defBody s_is_name) (defScope s_is_name) .none kV10 dc10 pm10 an10 cd10 ct10), sl10⟩)
    (c10 : PySem.W.codeIn K cd10 "is_name" = true)
    (k10 : PySem.W.keepIn K (.ref f10) = true)
    (a11 : PySem.W.findIn K (.ref C_InvalidName) "__init__" = some (some (.ref f11)))
    (i11 : PySem.W.isFn K (.ref f11) = true)
    (l11 : K.lookup f11 = some ⟨oc11, od11, .func (PySem.W.fnOf "__init__" "InvalidName.__init__" (defArgs s_InvalidName_init) (defBody s_InvalidName_init) (defScope s_InvalidName_init) .none kV11 dc11 pm11 an11 cd11 ct11), sl11⟩)
    (c11 : PySem.W.codeIn K cd11 "InvalidName.__init__" = true)
    (k11 : PySem.W.keepIn K (.ref f11) = true)
    (a12 : PySem.W.findIn K (.ref C_Seat) "__init__" = some (some (.ref f12)))
    (i12 : PySem.W.isFn K (.ref f12) = true)
    (l12 : K.lookup f12 = some ⟨oc12, od12, .func (PySem.W.fnOf "__init__" "Seat.__init__" (defArgs s_Seat_init) (defBody s_Seat_init) (defScope s_Seat_init) .none kV12 dc12 pm12 an12 cd12 ct12), sl12⟩)
    (c12 : PySem.W.codeIn K cd12 "Seat.__init__" = true)
    (k12 : PySem.W.keepIn K (.ref f12) = true)
    (a13 : PySem.W.nsIn K mainGlobals "is_number" = some (some (.ref f13)))
    (l13 : K.lookup f13 = some ⟨oc13, od13, .func (PySem.W.fnOf "is_number" "is_number" (defArgs s_is_number) (defBody s_is_number) (defScope s_is_number) (.ref T13) kV13 dc13 pm13 an13 cd13 ct13), sl13⟩)
    (c13 : PySem.W.codeIn K cd13 "is_number" = true)
    (k13 : PySem.W.keepIn K (.ref f13) = true)
    (d13 : K.lookup T13 = some ⟨.type "tuple", dd13, .seq #[(.int 0 u13_0), (.int 999999999999999999 u13_1)] nn13, ss13⟩)
    (a14 : PySem.W.findIn K (.ref C_InvalidNumber) "__init__" = some (some (.ref f14)))
    (i14 : PySem.W.isFn K (.ref f14) = true)
    (l14 : K.lookup f14 = some ⟨oc14, od14, .func (PySem.W.fnOf "__init__" "InvalidNumber.__init__" (defArgs s_InvalidNumber_init) (defBody s_InvalidNumber_init) (defScope s_InvalidNumber_init) .none kV14 dc14 pm14 an14 cd14 ct14), sl14⟩)
    (c14 : PySem.W.codeIn K cd14 "InvalidNumber.__init__" = true)
    (k14 : PySem.W.keepIn K (.ref f14) = true)
    (a15 : PySem.W.findIn K (.ref C_Thing) "__init__" = some (some (.ref f15)))
    (i15 : PySem.W.isFn K (.ref f15) = true)
    (l15 : K.lookup f15 = some ⟨oc15, od15, .func (PySem.W.fnX "__init__" "Thing.__init__" (defArgs s_Thing_init) (defBody s_Thing_init) (defScope s_Thing_init) [("__class__", cc15)] .none kV15 dc15 pm15 an15 (.ref cd15) ct15), sl15⟩)
    (c15 : PySem.W.codeIn K (.ref cd15) "Thing.__init__" = true)
    (k15 : PySem.W.keepIn K (.ref f15) = true)
    (r151 : K.lookup cd15 = some ⟨ccl15, cdd15, .fields cvs15, ccs15⟩)
    (r152 : cvs15[2]? = some (.str file15 tf15))
    (r153 : ((l.prog.main.file : Str) == file15) = true)
    (r154 : K.lookup cc15 = some ⟨xcl15, xcd15, .cell (some (.ref C_Thing)), xsl15⟩)
    (a16 : PySem.W.findIn K (.ref C_Peg) "__init__" = some (some (.ref f16)))
    (i16 : PySem.W.isFn K (.ref f16) = true)
    (l16 : K.lookup f16 = some ⟨oc16, od16, .func (PySem.W.fnX "__init__" "Peg.__init__" (defArgs s_Peg_init) (defBody s_Peg_init) (defScope s_Peg_init) [("__class__", cc16)] .none kV16 dc16 pm16 an16 (.ref cd16) ct16), sl16⟩)
    (c16 : PySem.W.codeIn K (.ref cd16) "Peg.__init__" = true)
    (k16 : PySem.W.keepIn K (.ref f16) = true)
    (r161 : K.lookup cd16 = some ⟨ccl16, cdd16, .fields cvs16, ccs16⟩)
    (r162 : cvs16[2]? = some (.str file16 tf16))
    (r163 : ((l.prog.main.file : Str) == file16) = true)
    (r164 : K.lookup cc16 = some ⟨xcl16, xcd16, .cell (some (.ref C_Peg)), xsl16⟩)
    (a17 : PySem.W.nsIn K mainGlobals "_law_same" = some (some (.ref f17)))
    (l17 : K.lookup f17 = some ⟨oc17, od17, .func (PySem.W.fnOf "_law_same" "_law_same" (defArgs s__law_same) (defBody s__law_same) (defScope s__law_same) .none kV17 dc17 pm17 an17 cd17 ct17), sl17⟩)
    (c17 : PySem.W.codeIn K cd17 "_law_same" = true)
    (k17 : PySem.W.keepIn K (.ref f17) = true)
    (a18 : PySem.W.findIn K (.ref C_Seat) "text" = some (some (.ref f18)))
    (i18 : PySem.W.isFn K (.ref f18) = true)
    (l18 : K.lookup f18 = some ⟨oc18, od18, .func (PySem.W.fnOf "text" "Seat.text" (defArgs s_Seat_text) (defBody s_Seat_text) (defScope s_Seat_text) .none kV18 dc18 pm18 an18 cd18 ct18), sl18⟩)
    (c18 : PySem.W.codeIn K cd18 "Seat.text" = true)
    (k18 : PySem.W.keepIn K (.ref f18) = true)
    (a19 : PySem.W.findIn K (.ref C_Thing) "text" = some (some (.ref f19)))
    (i19 : PySem.W.isFn K (.ref f19) = true)
    (l19 : K.lookup f19 = some ⟨oc19, od19, .func (PySem.W.fnOf "text" "Thing.text" (defArgs s_Thing_text) (defBody s_Thing_text) (defScope s_Thing_text) .none kV19 dc19 pm19 an19 cd19 ct19), sl19⟩)
    (c19 : PySem.W.codeIn K cd19 "Thing.text" = true)
    (k19 : PySem.W.keepIn K (.ref f19) = true)
    (a20 : PySem.W.findIn K (.ref C_Seat) "__repr__" = some (some (.ref f20)))
    (i20 : PySem.W.isFn K (.ref f20) = true)
    (l20 : K.lookup f20 = some ⟨oc20, od20, .func (PySem.W.fnOf "__repr__" "Seat.__repr__" (defArgs s_Seat_repr) (defBody s_Seat_repr) (defScope s_Seat_repr) .none kV20 dc20 pm20 an20 cd20 ct20), sl20⟩)
    (c20 : PySem.W.codeIn K cd20 "Seat.__repr__" = true)
    (k20 : PySem.W.keepIn K (.ref f20) = true)
    (q_Thing_number2 : PySem.W.specialIn K (.ref q_Thing_number) "__get__" = some (some (.builtin "property.__get__")))
    (q_Thing_number3 : PySem.W.takesIn K (.ref q_Thing_number) = some true)
    (q_Thing_number4 : PySem.W.recIn K q_Thing_number "property" = some (.ref f21 :: q_Thing_numberR))
    (l21 : K.lookup f21 = some ⟨oc21, od21, .func (PySem.W.fnOf "number" "Thing.number" (defArgs s_Thing_number) (defBody s_Thing_number) (defScope s_Thing_number) .none kV21 dc21 pm21 an21 cd21 ct21), sl21⟩)
    (c21 : PySem.W.codeIn K cd21 "Thing.number" = true)
    (k21 : PySem.W.keepIn K (.ref f21) = true)
    (q_Seat_label2 : PySem.W.specialIn K (.ref q_Seat_label) "__get__" = some (some (.builtin "property.__get__")))
    (q_Seat_label3 : PySem.W.takesIn K (.ref q_Seat_label) = some true)
    (q_Seat_label4 : PySem.W.recIn K q_Seat_label "property" = some (.ref f22 :: q_Seat_labelR))
    (l22 : K.lookup f22 = some ⟨oc22, od22, .func (PySem.W.fnOf "label" "Seat.label" (defArgs s_Seat_label) (defBody s_Seat_label) (defScope s_Seat_label) .none kV22 dc22 pm22 an22 cd22 ct22), sl22⟩)
    (c22 : PySem.W.codeIn K cd22 "Seat.label" = true)
    (k22 : PySem.W.keepIn K (.ref f22) = true)
    (a23 : PySem.W.findIn K (.ref C_Thing) "__eq__" = some (some (.ref f23)))
    (i23 : PySem.W.isFn K (.ref f23) = true)
    (l23 : K.lookup f23 = some ⟨oc23, od23, .func (PySem.W.fnOf "__eq__" "Thing.__eq__" (defArgs s_Thing_eq) (defBody s_Thing_eq) (defScope s_Thing_eq) .none kV23 dc23 pm23 an23 cd23 ct23), sl23⟩)
    (c23 : PySem.W.codeIn K cd23 "Thing.__eq__" = true)
    (k23 : PySem.W.keepIn K (.ref f23) = true)
    (a24 : PySem.W.findIn K (.ref C_Seat) "__eq__" = some (some (.ref f24)))
    (i24 : PySem.W.isFn K (.ref f24) = true)
    (l24 : K.lookup f24 = some ⟨oc24, od24, .func (PySem.W.fnOf "__eq__" "Seat.__eq__" (defArgs s_Seat_eq) (defBody s_Seat_eq) (defScope s_Seat_eq) .none kV24 dc24 pm24 an24 cd24 ct24), sl24⟩)
    (c24 : PySem.W.codeIn K cd24 "Seat.__eq__" = true)
    (k24 : PySem.W.keepIn K (.ref f24) = true)
    (a25 : PySem.W.nsIn K mainGlobals "_law_odd" = some (some (.ref f25)))
    (l25 : K.lookup f25 = some ⟨oc25, od25, .func (PySem.W.fnOf "_law_odd" "_law_odd" (defArgs s__law_odd) (defBody s__law_odd) (defScope s__law_odd) .none kV25 dc25 pm25 an25 cd25 ct25), sl25⟩)
    (c25 : PySem.W.codeIn K cd25 "_law_odd" = true)
    (k25 : PySem.W.keepIn K (.ref f25) = true)
    (a26 : PySem.W.nsIn K mainGlobals "law" = some (some (.ref f26)))
    (l26 : K.lookup f26 = some ⟨oc26, od26, .func (PySem.W.fnOf "law" "law" (defArgs s_law) (defBody s_law) (defScope s_law) .none kV26 dc26 pm26 an26 (.ref cL) ct26), sl26⟩)
    (c26 : PySem.W.codeIn K (.ref cL) "law" = true)
    (k26 : PySem.W.keepIn K (.ref f26) = true)
    (s_top : (l.prog.main.scope.names.lookup ("super" : Str)).isSome = false)
    (s_sup : PySem.W.nsIn K mainGlobals "super" = some none)
    (s_opq : PySem.W.nsIn K cStatics "thirdparty.any" = some none)
    (ki_Peg : PySem.W.isClsIn K C_Peg = true)
    (ki_Thing : PySem.W.isClsIn K C_Thing = true)
    (kM_Peg : PySem.W.makesIn K C_Peg = true)
    (kC_Peg : PySem.W.keepIn K (.ref C_Peg) = true)
    (c1_Peg : PySem.W.plainGet K C_Peg Str.empty = true)
    (c2_Peg : PySem.W.hasDictIn K C_Peg = true)
    (c3_Peg : PySem.W.plainOver K C_Peg = true)
    (c4_Peg : PySem.W.findIn K (.ref C_Peg) "__setattr__" = some (some (.builtin "object.__setattr__")))
    (kM_Seat : PySem.W.makesIn K C_Seat = true)
    (kC_Seat : PySem.W.keepIn K (.ref C_Seat) = true)
    (c1_Seat : PySem.W.plainGet K C_Seat Str.empty = true)
    (c2_Seat : PySem.W.hasDictIn K C_Seat = true)
    (c3_Seat : PySem.W.plainOver K C_Seat = true)
    (c4_Seat : PySem.W.findIn K (.ref C_Seat) "__setattr__" = some (some (.builtin "object.__setattr__")))
    (kM_Thing : PySem.W.makesIn K C_Thing = true)
    (kC_Thing : PySem.W.keepIn K (.ref C_Thing) = true)
    (c1_Thing : PySem.W.plainGet K C_Thing Str.empty = true)
    (c2_Thing : PySem.W.hasDictIn K C_Thing = true)
    (c3_Thing : PySem.W.plainOver K C_Thing = true)
    (c4_Thing : PySem.W.findIn K (.ref C_Thing) "__setattr__" = some (some (.builtin "object.__setattr__")))
    (v_Peg_IS_LOOKED_AT : PySem.W.findCls K (.ref C_Peg) (.type "type") "IS_LOOKED_AT" = some (.val (.bool false)))
    (v_Seat_KIND : PySem.W.findCls K (.ref C_Seat) (.type "type") "KIND" = some (.val (.str "seat" tv_Seat_KIND)))
    (v_Thing_KIND : PySem.W.findCls K (.ref C_Thing) (.type "type") "KIND" = some (.val (.str "thing" tv_Thing_KIND)))
    (rd_Peg : PySem.W.readsIn K C_Peg (.type "type") = true)
    (ra_Peg : PySem.W.specialIn K (.ref C_Peg) "__getattribute__" = some (some (.builtin "type.__getattribute__")))
    (rd_Seat : PySem.W.readsIn K C_Seat (.type "type") = true)
    (ra_Seat : PySem.W.specialIn K (.ref C_Seat) "__getattribute__" = some (some (.builtin "type.__getattribute__")))
    (rd_Thing : PySem.W.readsIn K C_Thing (.type "type") = true)
    (ra_Thing : PySem.W.specialIn K (.ref C_Thing) "__getattribute__" = some (some (.builtin "type.__getattribute__")))
    (kc_Peg_IS_LOOKED_AT : PySem.W.findIn K (.ref C_Peg) "IS_LOOKED_AT" = some (some (.bool false)))
    (kg_Peg_IS_LOOKED_AT : PySem.W.specialIn K (.bool false) "__get__" = some none)
    (kc_Peg_KIND : PySem.W.findIn K (.ref C_Peg) "KIND" = some (some (.str "peg" tk_Peg_KIND)))
    (kg_Peg_KIND : PySem.W.specialIn K (.str "peg" tk_Peg_KIND) "__get__" = some none)
    (kc_Seat_IS_LOOKED_AT : PySem.W.findIn K (.ref C_Seat) "IS_LOOKED_AT" = some (some (.bool false)))
    (kg_Seat_IS_LOOKED_AT : PySem.W.specialIn K (.bool false) "__get__" = some none)
    (kc_Seat_KIND : PySem.W.findIn K (.ref C_Seat) "KIND" = some (some (.str "seat" tk_Seat_KIND)))
    (kg_Seat_KIND : PySem.W.specialIn K (.str "seat" tk_Seat_KIND) "__get__" = some none)
    (kc_Thing_IS_LOOKED_AT : PySem.W.findIn K (.ref C_Thing) "IS_LOOKED_AT" = some (some (.bool true)))
    (kg_Thing_IS_LOOKED_AT : PySem.W.specialIn K (.bool true) "__get__" = some none)
    (kc_Thing_KIND : PySem.W.findIn K (.ref C_Thing) "KIND" = some (some (.str "thing" tk_Thing_KIND)))
    (kg_Thing_KIND : PySem.W.specialIn K (.str "thing" tk_Thing_KIND) "__get__" = some none)
    (us_Peg_init_Peg : PySem.W.mroIn K C_Peg (.ref C_Peg) = some true)
    (ua_Peg_init_Peg : PySem.W.ks_superIn K C_Peg C_Peg "__init__" = some (some (.ref f12)))
    (ut_Peg_init_Peg : PySem.W.typeIn K (.ref f12) = some (.type "function"))
    (uf_Peg_init_Peg : PySem.W.fnIn K f12 = true)
    (us_Thing_init_Thing : PySem.W.mroIn K C_Thing (.ref C_Thing) = some true)
    (ua_Thing_init_Thing : PySem.W.ks_superIn K C_Thing C_Thing "__init__" = some (some (.ref f12)))
    (ut_Thing_init_Thing : PySem.W.typeIn K (.ref f12) = some (.type "function"))
    (uf_Thing_init_Thing : PySem.W.fnIn K f12 = true)
    (it_hn : PySem.W.specialIn K (.builtin "object.__class__") "__get__" = some (some (.builtin "getset_descriptor.__get__")))
    (it_ht : PySem.W.takesIn K (.builtin "object.__class__") = some true)
    (ih_Seat : PySem.W.findIn K (.ref C_Seat) "__class__" = some (some (.builtin "object.__class__")))
    (im_Seat : PySem.W.mroIn K C_Seat (.type "object") = some true)
    (ih_Thing : PySem.W.findIn K (.ref C_Thing) "__class__" = some (some (.builtin "object.__class__")))
    (im_Thing : PySem.W.mroIn K C_Thing (.type "object") = some true)
    (ih_Peg : PySem.W.findIn K (.ref C_Peg) "__class__" = some (some (.builtin "object.__class__")))
    (im_Peg : PySem.W.mroIn K C_Peg (.type "object") = some true)
    (oo_Seat_Peg : PySem.W.kitOne K (.ref C_Seat) (.ref C_Peg) = some false)
    (oo_Seat_Seat : PySem.W.kitOne K (.ref C_Seat) (.ref C_Seat) = some true)
    (oo_Seat_Thing : PySem.W.kitOne K (.ref C_Seat) (.ref C_Thing) = some false)
    (oo_Thing_Peg : PySem.W.kitOne K (.ref C_Thing) (.ref C_Peg) = some false)
    (oo_Thing_Seat : PySem.W.kitOne K (.ref C_Thing) (.ref C_Seat) = some true)
    (oo_Thing_Thing : PySem.W.kitOne K (.ref C_Thing) (.ref C_Thing) = some true)
    (oo_Peg_Peg : PySem.W.kitOne K (.ref C_Peg) (.ref C_Peg) = some true)
    (oo_Peg_Seat : PySem.W.kitOne K (.ref C_Peg) (.ref C_Seat) = some true)
    (oo_Peg_Thing : PySem.W.kitOne K (.ref C_Peg) (.ref C_Thing) = some false)
    (bo_NoneType_Peg : PySem.W.kitOne K (.type "NoneType") (.ref C_Peg) = some false)
    (bo_NoneType_Seat : PySem.W.kitOne K (.type "NoneType") (.ref C_Seat) = some false)
    (bo_NoneType_Thing : PySem.W.kitOne K (.type "NoneType") (.ref C_Thing) = some false)
    (bo_bool_Peg : PySem.W.kitOne K (.type "bool") (.ref C_Peg) = some false)
    (bo_bool_Seat : PySem.W.kitOne K (.type "bool") (.ref C_Seat) = some false)
    (bo_bool_Thing : PySem.W.kitOne K (.type "bool") (.ref C_Thing) = some false)
    (bo_int_Peg : PySem.W.kitOne K (.type "int") (.ref C_Peg) = some false)
    (bo_int_Seat : PySem.W.kitOne K (.type "int") (.ref C_Seat) = some false)
    (bo_int_Thing : PySem.W.kitOne K (.type "int") (.ref C_Thing) = some false)
    (bo_str_Peg : PySem.W.kitOne K (.type "str") (.ref C_Peg) = some false)
    (bo_str_Seat : PySem.W.kitOne K (.type "str") (.ref C_Seat) = some false)
    (bo_str_Thing : PySem.W.kitOne K (.type "str") (.ref C_Thing) = some false)
    (bo_list_Peg : PySem.W.kitOne K (.type "list") (.ref C_Peg) = some false)
    (bo_list_Seat : PySem.W.kitOne K (.type "list") (.ref C_Seat) = some false)
    (bo_list_Thing : PySem.W.kitOne K (.type "list") (.ref C_Thing) = some false)
    (bo_tuple_Peg : PySem.W.kitOne K (.type "tuple") (.ref C_Peg) = some false)
    (bo_tuple_Seat : PySem.W.kitOne K (.type "tuple") (.ref C_Seat) = some false)
    (bo_tuple_Thing : PySem.W.kitOne K (.type "tuple") (.ref C_Thing) = some false)
    (bo_dict_Peg : PySem.W.kitOne K (.type "dict") (.ref C_Peg) = some false)
    (bo_dict_Seat : PySem.W.kitOne K (.type "dict") (.ref C_Seat) = some false)
    (bo_dict_Thing : PySem.W.kitOne K (.type "dict") (.ref C_Thing) = some false)
    (ob_Seat_list : PySem.W.kitOne K (.ref C_Seat) (.type "list") = some false)
    (ob_Seat_str : PySem.W.kitOne K (.ref C_Seat) (.type "str") = some false)
    (ob_Seat_tuple : PySem.W.kitOne K (.ref C_Seat) (.type "tuple") = some false)
    (ob_Thing_list : PySem.W.kitOne K (.ref C_Thing) (.type "list") = some false)
    (ob_Thing_str : PySem.W.kitOne K (.ref C_Thing) (.type "str") = some false)
    (ob_Thing_tuple : PySem.W.kitOne K (.ref C_Thing) (.type "tuple") = some false)
    (ob_Peg_list : PySem.W.kitOne K (.ref C_Peg) (.type "list") = some false)
    (ob_Peg_str : PySem.W.kitOne K (.ref C_Peg) (.type "str") = some false)
    (ob_Peg_tuple : PySem.W.kitOne K (.ref C_Peg) (.type "tuple") = some false)
    (at_Peg__name : PySem.W.findIn K (.ref C_Peg) "_name" = some none)
    (at_Seat__name : PySem.W.findIn K (.ref C_Seat) "_name" = some none)
    (at_Thing__name : PySem.W.findIn K (.ref C_Thing) "_name" = some none)
    (at_Thing__number : PySem.W.findIn K (.ref C_Thing) "_number" = some none)
    (fi_Peg_text : PySem.W.findIn K (.ref C_Peg) "text" = some (some (.ref f18)))
    (fi_Peg_eq : PySem.W.findIn K (.ref C_Peg) "__eq__" = some (some (.ref f24)))
    (fi_Peg_repr : PySem.W.findIn K (.ref C_Peg) "__repr__" = some (some (.ref f20)))
    (fi_Thing_repr : PySem.W.findIn K (.ref C_Thing) "__repr__" = some (some (.ref f20)))
    (eo_Peg_Seat : PySem.W.notFirst K C_Peg (.ref C_Seat) = true)
    (eo_Peg_Thing : PySem.W.notFirst K C_Peg (.ref C_Thing) = true)
    (eo_Peg_Peg : PySem.W.notFirst K C_Peg (.ref C_Peg) = true)
    (eo_Thing_Seat : PySem.W.notFirst K C_Thing (.ref C_Seat) = true)
    (eo_Thing_Thing : PySem.W.notFirst K C_Thing (.ref C_Thing) = true)
    (eo_Thing_Peg : PySem.W.notFirst K C_Thing (.ref C_Peg) = true)
    (eb_Peg_str : PySem.W.notFirst K C_Peg (.type "str") = true)
    (eb_Peg_list : PySem.W.notFirst K C_Peg (.type "list") = true)
    (eb_Peg_int : PySem.W.notFirst K C_Peg (.type "int") = true)
    (eb_Peg_bool : PySem.W.notFirst K C_Peg (.type "bool") = true)
    (eb_Peg_NoneType : PySem.W.notFirst K C_Peg (.type "NoneType") = true)
    (eb_Thing_str : PySem.W.notFirst K C_Thing (.type "str") = true)
    (eb_Thing_list : PySem.W.notFirst K C_Thing (.type "list") = true)
    (eb_Thing_int : PySem.W.notFirst K C_Thing (.type "int") = true)
    (eb_Thing_bool : PySem.W.notFirst K C_Thing (.type "bool") = true)
    (eb_Thing_NoneType : PySem.W.notFirst K C_Thing (.type "NoneType") = true)
    (ne_Thing : PySem.W.findIn K (.ref C_Thing) "__ne__" = some (some (.builtin "object.__ne__")))
    (ob_Thing : PySem.W.subIn K (.ref C_Thing) (.type "object") = some true)
    (z_all : PySem.W.nsIn K mainGlobals "all" = some none)
    (z_bool : PySem.W.nsIn K mainGlobals "bool" = some none)
    (z_int : PySem.W.nsIn K mainGlobals "int" = some none)
    (z_isinstance : PySem.W.nsIn K mainGlobals "isinstance" = some none)
    (z_len : PySem.W.nsIn K mainGlobals "len" = some none)
    (z_list : PySem.W.nsIn K mainGlobals "list" = some none)
    (z_range : PySem.W.nsIn K mainGlobals "range" = some none)
    (z_repr : PySem.W.nsIn K mainGlobals "repr" = some none)
    (z_str : PySem.W.nsIn K mainGlobals "str" = some none)
    (z_tuple : PySem.W.nsIn K mainGlobals "tuple" = some none)
    (z_zip : PySem.W.nsIn K mainGlobals "zip" = some none)
    (g_MOST_LETTERS : PySem.W.nsIn K mainGlobals "MOST_LETTERS" = some (some (.int 8 t_MOST_LETTERS)))
    (tC1 : K.lookup cL = some ⟨eC, dC, .fields vC, sC⟩)
    (tC2 : vC[11]? = some (.ref PT))
    (tC3 : K.lookup PT = none)
    (tC4 : PySem.W.codeHdIn K cL PT = true) :
    LamX.LawAtS l w K CX0 10 63 "_law_script" mg fa h := by
  have e := hfa.symm.trans (PySem.W.mg_of X G a26)
  cases e
  have F1 := fun_mk (st := s__law_field) l1 c1 k1
  have b1 := F1.binds (ps := ["_law_e"]) fun _ _ _ _ _ _ us hl => match us, hl with | [_], _ => rfl
  have F2 := fun_mk (st := s__law_why) l2 c2 k2
  have b2 := F2.binds (ps := ["_law_ask"]) fun _ _ _ _ _ _ us hl => match us, hl with | [_], _ => rfl
  have F3 := fun_mk (st := s__law_whys) l3 c3 k3
  have b3 := F3.binds (ps := ["_law_asks"]) fun _ _ _ _ _ _ us hl => match us, hl with | [_], _ => rfl
  have F4 := fun_mk (st := s__law_bag) l4 c4 k4
  have b4 := F4.binds (ps := ["_law_script"]) fun _ _ _ _ _ _ us hl => match us, hl with | [_], _ => rfl
  have F5 := fun_mk (st := s__law_pull) l5 c5 k5
  have b5 := F5.binds (ps := ["_law_bag_here", "_law_many"]) fun _ _ _ _ _ _ us hl => match us, hl with | [_, _], _ => rfl
  have F6 := fun_mk (st := s__law_pick) l6 c6 k6
  have b6 := F6.binds (ps := ["_law_bag_here", "_law_rows"]) fun _ _ _ _ _ _ us hl => match us, hl with | [_, _], _ => rfl
  have F7 := fun_mk (st := s__law_mixed) l7 c7 k7
  have b7 := F7.binds (ps := ["_law_bag_here", "_law_rows"]) fun _ _ _ _ _ _ us hl => match us, hl with | [_, _], _ => rfl
  have F8 := fun_mk (st := s__law_numbers) l8 c8 k8
  have b8 := F8.binds (ps := ["_law_bag_here", "_law_many"]) fun _ _ _ _ _ _ us hl => match us, hl with | [_, _], _ => rfl
  have F9 := fun_mk (st := s__law_names) l9 c9 k9
  have b9 := F9.binds (ps := ["_law_bag_here", "_law_many"]) fun _ _ _ _ _ _ us hl => match us, hl with | [_, _], _ => rfl
  have F10 := fun_mk (st := s_is_name) l10 c10 k10
  have b10 := F10.binds (ps := ["value"]) fun _ _ _ _ _ _ us hl => match us, hl with | [_], _ => rfl
  have F11 := fun_mk (st := s_InvalidName_init) l11 c11 k11
  have b11 := F11.binds (ps := ["self", "given"]) fun _ _ _ _ _ _ us hl => match us, hl with | [_, _], _ => rfl
  have F12 := fun_mk (st := s_Seat_init) l12 c12 k12
  have b12 := F12.binds (ps := ["self", "name"]) fun _ _ _ _ _ _ us hl => match us, hl with | [_, _], _ => rfl
  have F13 : FunD K "is_number" "is_number" (defArgs s_is_number) (defBody s_is_number) (defScope s_is_number) [(.int 0), (.int 999999999999999999)] [] f13 (PySem.W.fnOf "is_number" "is_number" (defArgs s_is_number) (defBody s_is_number) (defScope s_is_number) (.ref T13) kV13 dc13 pm13 an13 cd13 ct13) := ⟨⟨oc13, od13, .ref T13, kV13, dc13, pm13, an13, cd13, ct13, sl13, rfl, l13, c13, .inr ⟨by simp, T13, _, [(.int 0 u13_0), (.int 999999999999999999 u13_1)], nn13, rfl, d13, rfl, (.cons ⟨_, rfl⟩ (.cons ⟨_, rfl⟩ .nil))⟩, .inl rfl⟩, k13⟩
  obtain ⟨e13_1, v13_1, b13_1⟩ := F13.binds1 (ps := ["value", "least", "most"]) 1 0 (by simp) rfl fun _ _ _ _ _ _ _ us its h1 h2 => match us, its, h1, h2 with | [_], [_, _], _, _ => ⟨_, rfl, rfl⟩
  have F14 := fun_mk (st := s_InvalidNumber_init) l14 c14 k14
  have b14 := F14.binds (ps := ["self", "given"]) fun _ _ _ _ _ _ us hl => match us, hl with | [_, _], _ => rfl
  have b15 : Binds K (PySem.W.fnX "__init__" "Thing.__init__" (defArgs s_Thing_init) (defBody s_Thing_init) (defScope s_Thing_init) [("__class__", cc15)] .none kV15 dc15 pm15 an15 (.ref cd15) ct15) ["self", "name", "number"] [] := fun s us _ hl => by
    rw [List.append_nil] at hl ⊢
    exact match us, hl with | [_, _, _], _ => .of_eq rfl
  have b16 : Binds K (PySem.W.fnX "__init__" "Peg.__init__" (defArgs s_Peg_init) (defBody s_Peg_init) (defScope s_Peg_init) [("__class__", cc16)] .none kV16 dc16 pm16 an16 (.ref cd16) ct16) ["self", "name"] [] := fun s us _ hl => by
    rw [List.append_nil] at hl ⊢
    exact match us, hl with | [_, _], _ => .of_eq rfl
  have F17 := fun_mk (st := s__law_same) l17 c17 k17
  have b17 := F17.binds (ps := ["_law_found", "_law_due"]) fun _ _ _ _ _ _ us hl => match us, hl with | [_, _], _ => rfl
  have F18 := fun_mk (st := s_Seat_text) l18 c18 k18
  have b18 := F18.binds (ps := ["self"]) fun _ _ _ _ _ _ us hl => match us, hl with | [_], _ => rfl
  have F19 := fun_mk (st := s_Thing_text) l19 c19 k19
  have b19 := F19.binds (ps := ["self"]) fun _ _ _ _ _ _ us hl => match us, hl with | [_], _ => rfl
  have F20 := fun_mk (st := s_Seat_repr) l20 c20 k20
  have b20 := F20.binds (ps := ["self"]) fun _ _ _ _ _ _ us hl => match us, hl with | [_], _ => rfl
  have F21 := fun_mk (st := s_Thing_number) l21 c21 k21
  have b21 := F21.binds (ps := ["self"]) fun _ _ _ _ _ _ us hl => match us, hl with | [_], _ => rfl
  have F22 := fun_mk (st := s_Seat_label) l22 c22 k22
  have b22 := F22.binds (ps := ["self"]) fun _ _ _ _ _ _ us hl => match us, hl with | [_], _ => rfl
  have F23 := fun_mk (st := s_Thing_eq) l23 c23 k23
  have b23 := F23.binds (ps := ["self", "other"]) fun _ _ _ _ _ _ us hl => match us, hl with | [_, _], _ => rfl
  have F24 := fun_mk (st := s_Seat_eq) l24 c24 k24
  have b24 := F24.binds (ps := ["self", "other"]) fun _ _ _ _ _ _ us hl => match us, hl with | [_, _], _ => rfl
  have F25 := fun_mk (st := s__law_odd) l25 c25 k25
  have b25 := F25.binds (ps := ["_law_bag_here"]) fun _ _ _ _ _ _ us hl => match us, hl with | [_], _ => rfl
  have cl_Peg : Cls K C_Peg := ⟨c1_Peg, c2_Peg, c3_Peg, c4_Peg⟩
  have cl_Seat : Cls K C_Seat := ⟨c1_Seat, c2_Seat, c3_Seat, c4_Seat⟩
  have cl_Thing : Cls K C_Thing := ⟨c1_Thing, c2_Thing, c3_Thing, c4_Thing⟩
  have it_Seat : PL.InsTy K C_Seat := ⟨cl_Seat, ih_Seat, it_hn, it_ht, im_Seat⟩
  have it_Thing : PL.InsTy K C_Thing := ⟨cl_Thing, ih_Thing, it_hn, it_ht, im_Thing⟩
  have it_Peg : PL.InsTy K C_Peg := ⟨cl_Peg, ih_Peg, it_hn, it_ht, im_Peg⟩
  have ex_InvalidName : PySem.W.subIn K (.ref C_InvalidName) (.type "BaseException") = some true := (m_InvalidName.sub _).trans (by rfl)
  have ex_InvalidNumber : PySem.W.subIn K (.ref C_InvalidNumber) (.type "BaseException") = some true := (m_InvalidNumber.sub _).trans (by rfl)
  have T : PL.Fx l.prog K mg {
      f__law_field := f1,
      d__law_field := PySem.W.fnOf "_law_field" "_law_field" (defArgs s__law_field) (defBody s__law_field) (defScope s__law_field) .none kV1 dc1 pm1 an1 cd1 ct1,
      f__law_why := f2,
      d__law_why := PySem.W.fnOf "_law_why" "_law_why" (defArgs s__law_why) (defBody s__law_why) (defScope s__law_why) .none kV2 dc2 pm2 an2 cd2 ct2,
      f__law_whys := f3,
      d__law_whys := PySem.W.fnOf "_law_whys" "_law_whys" (defArgs s__law_whys) (defBody s__law_whys) (defScope s__law_whys) .none kV3 dc3 pm3 an3 cd3 ct3,
      f__law_bag := f4,
      d__law_bag := PySem.W.fnOf "_law_bag" "_law_bag" (defArgs s__law_bag) (defBody s__law_bag) (defScope s__law_bag) .none kV4 dc4 pm4 an4 cd4 ct4,
      f__law_pull := f5,
      d__law_pull := PySem.W.fnOf "_law_pull" "_law_pull" (defArgs s__law_pull) (defBody s__law_pull) (defScope s__law_pull) .none kV5 dc5 pm5 an5 cd5 ct5,
      f__law_pick := f6,
      d__law_pick := PySem.W.fnOf "_law_pick" "_law_pick" (defArgs s__law_pick) (defBody s__law_pick) (defScope s__law_pick) .none kV6 dc6 pm6 an6 cd6 ct6,
      f__law_mixed := f7,
      d__law_mixed := PySem.W.fnOf "_law_mixed" "_law_mixed" (defArgs s__law_mixed) (defBody s__law_mixed) (defScope s__law_mixed) .none kV7 dc7 pm7 an7 cd7 ct7,
      f__law_numbers := f8,
      d__law_numbers := PySem.W.fnOf "_law_numbers" "_law_numbers" (defArgs s__law_numbers) (defBody s__law_numbers) (defScope s__law_numbers) .none kV8 dc8 pm8 an8 cd8 ct8,
      f__law_names := f9,
      d__law_names := PySem.W.fnOf "_law_names" "_law_names" (defArgs s__law_names) (defBody s__law_names) (defScope s__law_names) .none kV9 dc9 pm9 an9 cd9 ct9,
      f_is_name := f10,
      d_is_name := PySem.W.fnOf "is_name" "is_name" (defArgs s_is_name) (defBody s_is_name) (defScope s_is_name) .none kV10 dc10 pm10 an10 cd10 ct10,
      f_InvalidName_init := f11,
      d_InvalidName_init := PySem.W.fnOf "__init__" "InvalidName.__init__" (defArgs s_InvalidName_init) (defBody s_InvalidName_init) (defScope s_InvalidName_init) .none kV11 dc11 pm11 an11 cd11 ct11,
      f_Seat_init := f12,
      d_Seat_init := PySem.W.fnOf "__init__" "Seat.__init__" (defArgs s_Seat_init) (defBody s_Seat_init) (defScope s_Seat_init) .none kV12 dc12 pm12 an12 cd12 ct12,
      f_is_number := f13,
      d_is_number := PySem.W.fnOf "is_number" "is_number" (defArgs s_is_number) (defBody s_is_number) (defScope s_is_number) (.ref T13) kV13 dc13 pm13 an13 cd13 ct13,
      ds_is_number_1 := e13_1,
      f_InvalidNumber_init := f14,
      d_InvalidNumber_init := PySem.W.fnOf "__init__" "InvalidNumber.__init__" (defArgs s_InvalidNumber_init) (defBody s_InvalidNumber_init) (defScope s_InvalidNumber_init) .none kV14 dc14 pm14 an14 cd14 ct14,
      f_Thing_init := f15,
      d_Thing_init := PySem.W.fnX "__init__" "Thing.__init__" (defArgs s_Thing_init) (defBody s_Thing_init) (defScope s_Thing_init) [("__class__", cc15)] .none kV15 dc15 pm15 an15 (.ref cd15) ct15,
      cc_Thing_init := cc15,
      cd_Thing_init := cd15,
      f_Peg_init := f16,
      d_Peg_init := PySem.W.fnX "__init__" "Peg.__init__" (defArgs s_Peg_init) (defBody s_Peg_init) (defScope s_Peg_init) [("__class__", cc16)] .none kV16 dc16 pm16 an16 (.ref cd16) ct16,
      cc_Peg_init := cc16,
      cd_Peg_init := cd16,
      f__law_same := f17,
      d__law_same := PySem.W.fnOf "_law_same" "_law_same" (defArgs s__law_same) (defBody s__law_same) (defScope s__law_same) .none kV17 dc17 pm17 an17 cd17 ct17,
      f_Seat_text := f18,
      d_Seat_text := PySem.W.fnOf "text" "Seat.text" (defArgs s_Seat_text) (defBody s_Seat_text) (defScope s_Seat_text) .none kV18 dc18 pm18 an18 cd18 ct18,
      f_Thing_text := f19,
      d_Thing_text := PySem.W.fnOf "text" "Thing.text" (defArgs s_Thing_text) (defBody s_Thing_text) (defScope s_Thing_text) .none kV19 dc19 pm19 an19 cd19 ct19,
      f_Seat_repr := f20,
      d_Seat_repr := PySem.W.fnOf "__repr__" "Seat.__repr__" (defArgs s_Seat_repr) (defBody s_Seat_repr) (defScope s_Seat_repr) .none kV20 dc20 pm20 an20 cd20 ct20,
      f_Thing_number := f21,
      d_Thing_number := PySem.W.fnOf "number" "Thing.number" (defArgs s_Thing_number) (defBody s_Thing_number) (defScope s_Thing_number) .none kV21 dc21 pm21 an21 cd21 ct21,
      q_Thing_number := q_Thing_number,
      f_Seat_label := f22,
      d_Seat_label := PySem.W.fnOf "label" "Seat.label" (defArgs s_Seat_label) (defBody s_Seat_label) (defScope s_Seat_label) .none kV22 dc22 pm22 an22 cd22 ct22,
      q_Seat_label := q_Seat_label,
      f_Thing_eq := f23,
      d_Thing_eq := PySem.W.fnOf "__eq__" "Thing.__eq__" (defArgs s_Thing_eq) (defBody s_Thing_eq) (defScope s_Thing_eq) .none kV23 dc23 pm23 an23 cd23 ct23,
      f_Seat_eq := f24,
      d_Seat_eq := PySem.W.fnOf "__eq__" "Seat.__eq__" (defArgs s_Seat_eq) (defBody s_Seat_eq) (defScope s_Seat_eq) .none kV24 dc24 pm24 an24 cd24 ct24,
      f__law_odd := f25,
      d__law_odd := PySem.W.fnOf "_law_odd" "_law_odd" (defArgs s__law_odd) (defBody s__law_odd) (defScope s__law_odd) .none kV25 dc25 pm25 an25 cd25 ct25,
      f_law := fa,
      C_Peg := C_Peg,
      C_Seat := C_Seat,
      C_Thing := C_Thing,
      tv_Seat_KIND := tv_Seat_KIND,
      tv_Thing_KIND := tv_Thing_KIND,
      tk_Peg_KIND := tk_Peg_KIND,
      tk_Seat_KIND := tk_Seat_KIND,
      tk_Thing_KIND := tk_Thing_KIND,
      C_InvalidName := C_InvalidName,
      C_InvalidNumber := C_InvalidNumber,
      C_LumpError := C_LumpError,
      C_Missing := C_Missing,
      C_NothingLeft := C_NothingLeft,
      g_Peg_init_name := fun us ws => us ++ PL.permA [0] ws,
      g_Thing_init_number_name := fun us ws => us ++ PL.permA [1, 0] ws,
      t_MOST_LETTERS := t_MOST_LETTERS } := {
      F__law_field := F1,
      b__law_field := b1,
      m__law_field := PySem.W.mg_of X G a1,
      F__law_why := F2,
      b__law_why := b2,
      m__law_why := PySem.W.mg_of X G a2,
      F__law_whys := F3,
      b__law_whys := b3,
      m__law_whys := PySem.W.mg_of X G a3,
      F__law_bag := F4,
      b__law_bag := b4,
      m__law_bag := PySem.W.mg_of X G a4,
      F__law_pull := F5,
      b__law_pull := b5,
      m__law_pull := PySem.W.mg_of X G a5,
      F__law_pick := F6,
      b__law_pick := b6,
      m__law_pick := PySem.W.mg_of X G a6,
      F__law_mixed := F7,
      b__law_mixed := b7,
      m__law_mixed := PySem.W.mg_of X G a7,
      F__law_numbers := F8,
      b__law_numbers := b8,
      m__law_numbers := PySem.W.mg_of X G a8,
      F__law_names := F9,
      b__law_names := b9,
      m__law_names := PySem.W.mg_of X G a9,
      F_is_name := F10,
      b_is_name := b10,
      m_is_name := PySem.W.mg_of X G a10,
      F_InvalidName_init := F11,
      b_InvalidName_init := b11,
      F_Seat_init := F12,
      b_Seat_init := b12,
      F_is_number := F13,
      b_is_number_1 := b13_1,
      v_is_number_1 := v13_1,
      m_is_number := PySem.W.mg_of X G a13,
      F_InvalidNumber_init := F14,
      b_InvalidNumber_init := b14,
      F_Thing_init := ⟨⟨_, _, _, _, _, _, _, _, rfl, l15⟩, c15, ⟨_, _, _, _, _, _, r151, r152, r153⟩, ⟨_, _, _, r154⟩, ki_Thing, s_top, s_sup, s_opq⟩,
      b_Thing_init := b15,
      F_Peg_init := ⟨⟨_, _, _, _, _, _, _, _, rfl, l16⟩, c16, ⟨_, _, _, _, _, _, r161, r162, r163⟩, ⟨_, _, _, r164⟩, ki_Peg, s_top, s_sup, s_opq⟩,
      b_Peg_init := b16,
      F__law_same := F17,
      b__law_same := b17,
      m__law_same := PySem.W.mg_of X G a17,
      F_Seat_text := F18,
      b_Seat_text := b18,
      F_Thing_text := F19,
      b_Thing_text := b19,
      F_Seat_repr := F20,
      b_Seat_repr := b20,
      F_Thing_number := F21,
      b_Thing_number := b21,
      F_Seat_label := F22,
      b_Seat_label := b22,
      F_Thing_eq := F23,
      b_Thing_eq := b23,
      F_Seat_eq := F24,
      b_Seat_eq := b24,
      F__law_odd := F25,
      b__law_odd := b25,
      m__law_odd := PySem.W.mg_of X G a25,
      k_Peg := ⟨kM_Peg, a16, i16, kC_Peg⟩,
      n_Peg := PL.clsAt_of n_Peg,
      m_Peg := PySem.W.mg_of X G n_Peg,
      c_Peg := cl_Peg,
      k_Seat := ⟨kM_Seat, a12, i12, kC_Seat⟩,
      n_Seat := PL.clsAt_of n_Seat,
      m_Seat := PySem.W.mg_of X G n_Seat,
      c_Seat := cl_Seat,
      k_Thing := ⟨kM_Thing, a15, i15, kC_Thing⟩,
      n_Thing := PL.clsAt_of n_Thing,
      m_Thing := PySem.W.mg_of X G n_Thing,
      c_Thing := cl_Thing,
      p_Peg_label := ⟨pa_Peg_label, q_Seat_label2, q_Seat_label3, _, q_Seat_label4⟩,
      p_Thing_label := ⟨pa_Thing_label, q_Seat_label2, q_Seat_label3, _, q_Seat_label4⟩,
      p_Thing_number := ⟨pa_Thing_number, q_Thing_number2, q_Thing_number3, _, q_Thing_number4⟩,
      v_Peg_IS_LOOKED_AT := ⟨v_Peg_IS_LOOKED_AT, rfl⟩,
      v_Seat_KIND := ⟨v_Seat_KIND, ⟨_, rfl⟩⟩,
      v_Thing_KIND := ⟨v_Thing_KIND, ⟨_, rfl⟩⟩,
      r_Peg := ⟨rd_Peg, ra_Peg⟩,
      r_Seat := ⟨rd_Seat, ra_Seat⟩,
      r_Thing := ⟨rd_Thing, ra_Thing⟩,
      k_Peg_IS_LOOKED_AT := ⟨kc_Peg_IS_LOOKED_AT, rfl, kg_Peg_IS_LOOKED_AT, by decide +kernel⟩,
      k_Peg_KIND := ⟨kc_Peg_KIND, ⟨_, rfl⟩, kg_Peg_KIND, by decide +kernel⟩,
      k_Seat_IS_LOOKED_AT := ⟨kc_Seat_IS_LOOKED_AT, rfl, kg_Seat_IS_LOOKED_AT, by decide +kernel⟩,
      k_Seat_KIND := ⟨kc_Seat_KIND, ⟨_, rfl⟩, kg_Seat_KIND, by decide +kernel⟩,
      k_Thing_IS_LOOKED_AT := ⟨kc_Thing_IS_LOOKED_AT, rfl, kg_Thing_IS_LOOKED_AT, by decide +kernel⟩,
      k_Thing_KIND := ⟨kc_Thing_KIND, ⟨_, rfl⟩, kg_Thing_KIND, by decide +kernel⟩,
      u_Peg_init_Peg := ⟨us_Peg_init_Peg, ua_Peg_init_Peg, ut_Peg_init_Peg, uf_Peg_init_Peg⟩,
      u_Thing_init_Thing := ⟨us_Thing_init_Thing, ua_Thing_init_Thing, ut_Thing_init_Thing, uf_Thing_init_Thing⟩,
      isa := PL.isa_mk (.cons (PL.isoo (PL.clsAt_of n_Seat) (PL.clsAt_of n_Peg) it_Seat oo_Seat_Peg) (.cons (PL.isoo (PL.clsAt_of n_Seat) (PL.clsAt_of n_Seat) it_Seat oo_Seat_Seat) (.cons (PL.isoo (PL.clsAt_of n_Seat) (PL.clsAt_of n_Thing) it_Seat oo_Seat_Thing) (.cons (PL.isoo (PL.clsAt_of n_Thing) (PL.clsAt_of n_Peg) it_Thing oo_Thing_Peg) (.cons (PL.isoo (PL.clsAt_of n_Thing) (PL.clsAt_of n_Seat) it_Thing oo_Thing_Seat) (.cons (PL.isoo (PL.clsAt_of n_Thing) (PL.clsAt_of n_Thing) it_Thing oo_Thing_Thing) (.cons (PL.isoo (PL.clsAt_of n_Peg) (PL.clsAt_of n_Peg) it_Peg oo_Peg_Peg) (.cons (PL.isoo (PL.clsAt_of n_Peg) (PL.clsAt_of n_Seat) it_Peg oo_Peg_Seat) (.cons (PL.isoo (PL.clsAt_of n_Peg) (PL.clsAt_of n_Thing) it_Peg oo_Peg_Thing) .nil))))))))) (.cons (PL.isbo (PL.clsAt_of n_Peg) bo_NoneType_Peg) (.cons (PL.isbo (PL.clsAt_of n_Seat) bo_NoneType_Seat) (.cons (PL.isbo (PL.clsAt_of n_Thing) bo_NoneType_Thing) (.cons (PL.isbo (PL.clsAt_of n_Peg) bo_bool_Peg) (.cons (PL.isbo (PL.clsAt_of n_Seat) bo_bool_Seat) (.cons (PL.isbo (PL.clsAt_of n_Thing) bo_bool_Thing) (.cons (PL.isbo (PL.clsAt_of n_Peg) bo_int_Peg) (.cons (PL.isbo (PL.clsAt_of n_Seat) bo_int_Seat) (.cons (PL.isbo (PL.clsAt_of n_Thing) bo_int_Thing) (.cons (PL.isbo (PL.clsAt_of n_Peg) bo_str_Peg) (.cons (PL.isbo (PL.clsAt_of n_Seat) bo_str_Seat) (.cons (PL.isbo (PL.clsAt_of n_Thing) bo_str_Thing) (.cons (PL.isbo (PL.clsAt_of n_Peg) bo_list_Peg) (.cons (PL.isbo (PL.clsAt_of n_Seat) bo_list_Seat) (.cons (PL.isbo (PL.clsAt_of n_Thing) bo_list_Thing) (.cons (PL.isbo (PL.clsAt_of n_Peg) bo_tuple_Peg) (.cons (PL.isbo (PL.clsAt_of n_Seat) bo_tuple_Seat) (.cons (PL.isbo (PL.clsAt_of n_Thing) bo_tuple_Thing) (.cons (PL.isbo (PL.clsAt_of n_Peg) bo_dict_Peg) (.cons (PL.isbo (PL.clsAt_of n_Seat) bo_dict_Seat) (.cons (PL.isbo (PL.clsAt_of n_Thing) bo_dict_Thing) .nil))))))))))))))))))))) (.cons (PL.isob (PL.clsAt_of n_Seat) it_Seat ob_Seat_list) (.cons (PL.isob (PL.clsAt_of n_Seat) it_Seat ob_Seat_str) (.cons (PL.isob (PL.clsAt_of n_Seat) it_Seat ob_Seat_tuple) (.cons (PL.isob (PL.clsAt_of n_Thing) it_Thing ob_Thing_list) (.cons (PL.isob (PL.clsAt_of n_Thing) it_Thing ob_Thing_str) (.cons (PL.isob (PL.clsAt_of n_Thing) it_Thing ob_Thing_tuple) (.cons (PL.isob (PL.clsAt_of n_Peg) it_Peg ob_Peg_list) (.cons (PL.isob (PL.clsAt_of n_Peg) it_Peg ob_Peg_str) (.cons (PL.isob (PL.clsAt_of n_Peg) it_Peg ob_Peg_tuple) .nil))))))))),
      a_Peg__name := at_Peg__name,
      a_Seat__name := at_Seat__name,
      a_Thing__name := at_Thing__name,
      a_Thing__number := at_Thing__number,
      M_Peg_text := ⟨fi_Peg_text, i18, k18⟩,
      M_Seat_text := ⟨a18, i18, k18⟩,
      M_Thing_text := ⟨a19, i19, k19⟩,
      h_Peg_eq := fi_Peg_eq,
      hf_Peg_eq := i24,
      h_Peg_repr := fi_Peg_repr,
      hf_Peg_repr := i20,
      h_Thing_eq := a23,
      hf_Thing_eq := i23,
      h_Thing_repr := fi_Thing_repr,
      hf_Thing_repr := i20,
      eqT := PL.eqt_mk (.cons (PL.nfoo (PL.clsAt_of n_Peg) (PL.clsAt_of n_Seat) eo_Peg_Seat) (.cons (PL.nfoo (PL.clsAt_of n_Peg) (PL.clsAt_of n_Thing) eo_Peg_Thing) (.cons (PL.nfoo (PL.clsAt_of n_Peg) (PL.clsAt_of n_Peg) eo_Peg_Peg) (.cons (PL.nfoo (PL.clsAt_of n_Thing) (PL.clsAt_of n_Seat) eo_Thing_Seat) (.cons (PL.nfoo (PL.clsAt_of n_Thing) (PL.clsAt_of n_Thing) eo_Thing_Thing) (.cons (PL.nfoo (PL.clsAt_of n_Thing) (PL.clsAt_of n_Peg) eo_Thing_Peg) .nil)))))) (.cons (PL.nfob (PL.clsAt_of n_Peg) eb_Peg_str) (.cons (PL.nfob (PL.clsAt_of n_Peg) eb_Peg_list) (.cons (PL.nfob (PL.clsAt_of n_Peg) eb_Peg_int) (.cons (PL.nfob (PL.clsAt_of n_Peg) eb_Peg_bool) (.cons (PL.nfob (PL.clsAt_of n_Peg) eb_Peg_NoneType) (.cons (PL.nfob (PL.clsAt_of n_Thing) eb_Thing_str) (.cons (PL.nfob (PL.clsAt_of n_Thing) eb_Thing_list) (.cons (PL.nfob (PL.clsAt_of n_Thing) eb_Thing_int) (.cons (PL.nfob (PL.clsAt_of n_Thing) eb_Thing_bool) (.cons (PL.nfob (PL.clsAt_of n_Thing) eb_Thing_NoneType) .nil)))))))))),
      ne_Thing := ne_Thing,
      ob_Thing := ob_Thing,
      n_InvalidName := PL.clsAt_of g_InvalidName.ns,
      m_InvalidName := PySem.W.mg_of X G g_InvalidName.ns,
      n_InvalidNumber := PL.clsAt_of g_InvalidNumber.ns,
      m_InvalidNumber := PySem.W.mg_of X G g_InvalidNumber.ns,
      n_LumpError := PL.clsAt_of g_LumpError.ns,
      m_LumpError := PySem.W.mg_of X G g_LumpError.ns,
      n_Missing := PL.clsAt_of g_Missing.ns,
      m_Missing := PySem.W.mg_of X G g_Missing.ns,
      n_NothingLeft := PL.clsAt_of g_NothingLeft.ns,
      m_NothingLeft := PySem.W.mg_of X G g_NothingLeft.ns,
      xr_InvalidName := ⟨⟨⟨_, _, _, _, Ex.oexG_of F.excBase_ValueError x_InvalidName g_InvalidName.hd g_InvalidName.kp⟩, ex_InvalidName, g_InvalidName.ty⟩, Ex.oexS_of F.store_ValueError.passes (by decide) x_InvalidName g_InvalidName.hd h_InvalidName.sa, a11, beq_iff_eq.mp i11, h_InvalidName.nf, h_InvalidName.nc, ⟨⟨g_InvalidName.ga, g_InvalidName.gg, ex_InvalidName, g_InvalidName.hd⟩, h_InvalidName.nc, h_InvalidName.nf⟩⟩,
      xe_InvalidName := PL.exm_any_1 ((exm_own m_InvalidName m_LumpError g_LumpError.ty (by rfl)).trans (by simp only [List.contains_cons, beq_self_eq_true, Bool.true_or, Bool.or_true])) (exm_own m_InvalidName m_Missing g_Missing.ty (by rfl)) (exm_own m_InvalidName m_NothingLeft g_NothingLeft.ty (by rfl)),
      xr_InvalidNumber := ⟨⟨⟨_, _, _, _, Ex.oexG_of F.excBase_ValueError x_InvalidNumber g_InvalidNumber.hd g_InvalidNumber.kp⟩, ex_InvalidNumber, g_InvalidNumber.ty⟩, Ex.oexS_of F.store_ValueError.passes (by decide) x_InvalidNumber g_InvalidNumber.hd h_InvalidNumber.sa, a14, beq_iff_eq.mp i14, h_InvalidNumber.nf, h_InvalidNumber.nc, ⟨⟨g_InvalidNumber.ga, g_InvalidNumber.gg, ex_InvalidNumber, g_InvalidNumber.hd⟩, h_InvalidNumber.nc, h_InvalidNumber.nf⟩⟩,
      xe_InvalidNumber := PL.exm_any_1 ((exm_own m_InvalidNumber m_LumpError g_LumpError.ty (by rfl)).trans (by simp only [List.contains_cons, beq_self_eq_true, Bool.true_or, Bool.or_true])) (exm_own m_InvalidNumber m_Missing g_Missing.ty (by rfl)) (exm_own m_InvalidNumber m_NothingLeft g_NothingLeft.ty (by rfl)),
      kb_Peg_init_name := ⟨fun s us ws _ h1 h2 => match us, ws, h1, h2 with | [_], [_], _, _ => .of_eq rfl, fun r1 r2 => r1.append (PL.vals_perm [0] r2)⟩,
      kb_Thing_init_number_name := ⟨fun s us ws _ h1 h2 => match us, ws, h1, h2 with | [_], [_, _], _, _ => .of_eq rfl, fun r1 r2 => r1.append (PL.vals_perm [1, 0] r2)⟩,
      z_all := PySem.W.mg_none_of X G z_all,
      z_bool := PySem.W.mg_none_of X G z_bool,
      z_int := PySem.W.mg_none_of X G z_int,
      z_isinstance := PySem.W.mg_none_of X G z_isinstance,
      z_len := PySem.W.mg_none_of X G z_len,
      z_list := PySem.W.mg_none_of X G z_list,
      z_range := PySem.W.mg_none_of X G z_range,
      z_repr := PySem.W.mg_none_of X G z_repr,
      z_str := PySem.W.mg_none_of X G z_str,
      z_tuple := PySem.W.mg_none_of X G z_tuple,
      z_zip := PySem.W.mg_none_of X G z_zip,
      g_MOST_LETTERS := PySem.W.mg_of X G g_MOST_LETTERS }
  refine ⟨PySem.W.fnOf "law" "law" (defArgs s_law) (defBody s_law) (defScope s_law) .none kV26 dc26 pm26 an26 (.ref cL) ct26, [(cL, PT)], spLaw K PT, fun p hp => ?_, fun p hp => ?_, fun p hp => ?_, fun s v => .of_eq rfl, fun H a ns hl _ hH hS => ⟨a, ns, rfl, hS, hl, hH _ List.mem_cons_self, fun _ => rfl⟩, fun base _ _ hTB => ?_⟩
  · rw [List.mem_singleton.mp hp]
    exact hown _ _ _ _ _ _ _ _ l26 rfl rfl tC1 tC2
  · rw [List.mem_singleton.mp hp]
    exact tC3
  · rw [List.mem_singleton.mp hp]
    exact PySem.W.codeHd_of_K X tC4
  exact PL.law_meets (PL.ok_law T (hTB (cL, PT) List.mem_cons_self) l26 c26)

end Lp

open PySem PySem.W PyProof.Rows
set_option maxRecDepth 100000 in
set_option maxHeartbeats 0 in
theorem PySem.Challenge.cw_lumplooks_k11_seats_told_holds : PySem.Challenge.rw_lumplooks_k11_seats_told.Holds := by
  w_on; o_law; k_head; (case hw => w_witness2)
  k_fill
  refine LamX.walk_ofOwn (l := PySem.Challenge.rw_lumplooks_k11_seats_told) (n := 63) (k := 10) (x := "_law_script") (CX := fun _ => L2.CX0) rfl (by decide) rfl ⟨rfl, by decide, by decide⟩ (by decide +kernel) (fun w h Y => PySem.W.km_in_of Y) ?F (fun _ _ _ _ _ h => h)
  case F =>
    intro w mg fa h Y KX G hmg hown
    refine' Lp.all_mk KX G hmg hown ?n_Peg ?n_Seat ?n_Thing ?g_InvalidName ?g_InvalidNumber ?g_LumpError ?g_Missing ?g_NothingLeft ?m_InvalidName ?m_InvalidNumber ?m_LumpError ?m_Missing ?m_NothingLeft ?h_InvalidName ?x_InvalidName ?h_InvalidNumber ?x_InvalidNumber ?pa_Peg_label ?pa_Thing_label ?pa_Thing_number ?a1 ?l1 ?c1 ?k1 ?a2 ?l2 ?c2 ?k2 ?a3 ?l3 ?c3 ?k3 ?a4 ?l4 ?c4 ?k4 ?a5 ?l5 ?c5 ?k5 ?a6 ?l6 ?c6 ?k6 ?a7 ?l7 ?c7 ?k7 ?a8 ?l8 ?c8 ?k8 ?a9 ?l9 ?c9 ?k9 ?a10 ?l10 ?c10 ?k10 ?a11 ?i11 ?l11 ?c11 ?k11 ?a12 ?i12 ?l12 ?c12 ?k12 ?a13 ?l13 ?c13 ?k13 ?d13 ?a14 ?i14 ?l14 ?c14 ?k14 ?a15 ?i15 ?l15 ?c15 ?k15 ?r151 ?r152 ?r153 ?r154 ?a16 ?i16 ?l16 ?c16 ?k16 ?r161 ?r162 ?r163 ?r164 ?a17 ?l17 ?c17 ?k17 ?a18 ?i18 ?l18 ?c18 ?k18 ?a19 ?i19 ?l19 ?c19 ?k19 ?a20 ?i20 ?l20 ?c20 ?k20 ?q_Thing_number2 ?q_Thing_number3 ?q_Thing_number4 ?l21 ?c21 ?k21 ?q_Seat_label2 ?q_Seat_label3 ?q_Seat_label4 ?l22 ?c22 ?k22 ?a23 ?i23 ?l23 ?c23 ?k23 ?a24 ?i24 ?l24 ?c24 ?k24 ?a25 ?l25 ?c25 ?k25 ?a26 ?l26 ?c26 ?k26 ?s_top ?s_sup ?s_opq ?ki_Peg ?ki_Thing ?kM_Peg ?kC_Peg ?c1_Peg ?c2_Peg ?c3_Peg ?c4_Peg ?kM_Seat ?kC_Seat ?c1_Seat ?c2_Seat ?c3_Seat ?c4_Seat ?kM_Thing ?kC_Thing ?c1_Thing ?c2_Thing ?c3_Thing ?c4_Thing ?v_Peg_IS_LOOKED_AT ?v_Seat_KIND ?v_Thing_KIND ?rd_Peg ?ra_Peg ?rd_Seat ?ra_Seat ?rd_Thing ?ra_Thing ?kc_Peg_IS_LOOKED_AT ?kg_Peg_IS_LOOKED_AT ?kc_Peg_KIND ?kg_Peg_KIND ?kc_Seat_IS_LOOKED_AT ?kg_Seat_IS_LOOKED_AT ?kc_Seat_KIND ?kg_Seat_KIND ?kc_Thing_IS_LOOKED_AT ?kg_Thing_IS_LOOKED_AT ?kc_Thing_KIND ?kg_Thing_KIND ?us_Peg_init_Peg ?ua_Peg_init_Peg ?ut_Peg_init_Peg ?uf_Peg_init_Peg ?us_Thing_init_Thing ?ua_Thing_init_Thing ?ut_Thing_init_Thing ?uf_Thing_init_Thing ?it_hn ?it_ht ?ih_Seat ?im_Seat ?ih_Thing ?im_Thing ?ih_Peg ?im_Peg ?oo_Seat_Peg ?oo_Seat_Seat ?oo_Seat_Thing ?oo_Thing_Peg ?oo_Thing_Seat ?oo_Thing_Thing ?oo_Peg_Peg ?oo_Peg_Seat ?oo_Peg_Thing ?bo_NoneType_Peg ?bo_NoneType_Seat ?bo_NoneType_Thing ?bo_bool_Peg ?bo_bool_Seat ?bo_bool_Thing ?bo_int_Peg ?bo_int_Seat ?bo_int_Thing ?bo_str_Peg ?bo_str_Seat ?bo_str_Thing ?bo_list_Peg ?bo_list_Seat ?bo_list_Thing ?bo_tuple_Peg ?bo_tuple_Seat ?bo_tuple_Thing ?bo_dict_Peg ?bo_dict_Seat ?bo_dict_Thing ?ob_Seat_list ?ob_Seat_str ?ob_Seat_tuple ?ob_Thing_list ?ob_Thing_str ?ob_Thing_tuple ?ob_Peg_list ?ob_Peg_str ?ob_Peg_tuple ?at_Peg__name ?at_Seat__name ?at_Thing__name ?at_Thing__number ?fi_Peg_text ?fi_Peg_eq ?fi_Peg_repr ?fi_Thing_repr ?eo_Peg_Seat ?eo_Peg_Thing ?eo_Peg_Peg ?eo_Thing_Seat ?eo_Thing_Thing ?eo_Thing_Peg ?eb_Peg_str ?eb_Peg_list ?eb_Peg_int ?eb_Peg_bool ?eb_Peg_NoneType ?eb_Thing_str ?eb_Thing_list ?eb_Thing_int ?eb_Thing_bool ?eb_Thing_NoneType ?ne_Thing ?ob_Thing ?z_all ?z_bool ?z_int ?z_isinstance ?z_len ?z_list ?z_range ?z_repr ?z_str ?z_tuple ?z_zip ?g_MOST_LETTERS ?tC1 ?tC2 ?tC3 ?tC4
    (case n_Peg => k_is)
    (case n_Seat => k_is)
    (case n_Thing => k_is)
    (case g_InvalidName => constructor <;> k_is)
    (case g_InvalidNumber => constructor <;> k_is)
    (case g_LumpError => constructor <;> k_is)
    (case g_Missing => constructor <;> k_is)
    (case g_NothingLeft => constructor <;> k_is)
    (case m_InvalidName => apply Exists.intro; apply And.intro; (k_is); (rfl))
    (case m_InvalidNumber => apply Exists.intro; apply And.intro; (k_is); (rfl))
    (case m_LumpError => apply Exists.intro; apply And.intro; (k_is); (rfl))
    (case m_Missing => apply Exists.intro; apply And.intro; (k_is); (rfl))
    (case m_NothingLeft => apply Exists.intro; apply And.intro; (k_is); (rfl))
    (case h_InvalidName => constructor <;> k_is)
    (case x_InvalidName => kx_is)
    (case h_InvalidNumber => constructor <;> k_is)
    (case x_InvalidNumber => kx_is)
    (case pa_Peg_label => k_is)
    (case pa_Thing_label => k_is)
    (case pa_Thing_number => k_is)
    (case a1 => k_is)
    (case l1 => k_is)
    (case c1 => k_is)
    (case k1 => k_is)
    (case a2 => k_is)
    (case l2 => k_is)
    (case c2 => k_is)
    (case k2 => k_is)
    (case a3 => k_is)
    (case l3 => k_is)
    (case c3 => k_is)
    (case k3 => k_is)
    (case a4 => k_is)
    (case l4 => k_is)
    (case c4 => k_is)
    (case k4 => k_is)
    (case a5 => k_is)
    (case l5 => k_is)
    (case c5 => k_is)
    (case k5 => k_is)
    (case a6 => k_is)
    (case l6 => k_is)
    (case c6 => k_is)
    (case k6 => k_is)
    (case a7 => k_is)
    (case l7 => k_is)
    (case c7 => k_is)
    (case k7 => k_is)
    (case a8 => k_is)
    (case l8 => k_is)
    (case c8 => k_is)
    (case k8 => k_is)
    (case a9 => k_is)
    (case l9 => k_is)
    (case c9 => k_is)
    (case k9 => k_is)
    (case a10 => k_is)
    (case l10 => k_is)
    (case c10 => k_is)
    (case k10 => k_is)
    (case a11 => k_is)
    (case i11 => k_is)
    (case l11 => k_is)
    (case c11 => k_is)
    (case k11 => k_is)
    (case a12 => k_is)
    (case i12 => k_is)
    (case l12 => k_is)
    (case c12 => k_is)
    (case k12 => k_is)
    (case a13 => k_is)
    (case l13 => k_is)
    (case c13 => k_is)
    (case k13 => k_is)
    (case d13 => k_is)
    (case a14 => k_is)
    (case i14 => k_is)
    (case l14 => k_is)
    (case c14 => k_is)
    (case k14 => k_is)
    (case a15 => k_is)
    (case i15 => k_is)
    (case l15 => k_is)
    (case c15 => k_is)
    (case k15 => k_is)
    (case r151 => k_is)
    (case r152 => rfl)
    (case r153 => first | rfl | decide +kernel)
    (case r154 => k_is)
    (case a16 => k_is)
    (case i16 => k_is)
    (case l16 => k_is)
    (case c16 => k_is)
    (case k16 => k_is)
    (case r161 => k_is)
    (case r162 => rfl)
    (case r163 => first | rfl | decide +kernel)
    (case r164 => k_is)
    (case a17 => k_is)
    (case l17 => k_is)
    (case c17 => k_is)
    (case k17 => k_is)
    (case a18 => k_is)
    (case i18 => k_is)
    (case l18 => k_is)
    (case c18 => k_is)
    (case k18 => k_is)
    (case a19 => k_is)
    (case i19 => k_is)
    (case l19 => k_is)
    (case c19 => k_is)
    (case k19 => k_is)
    (case a20 => k_is)
    (case i20 => k_is)
    (case l20 => k_is)
    (case c20 => k_is)
    (case k20 => k_is)
    (case q_Thing_number2 => k_is)
    (case q_Thing_number3 => k_is)
    (case q_Thing_number4 => k_is)
    (case l21 => k_is)
    (case c21 => k_is)
    (case k21 => k_is)
    (case q_Seat_label2 => k_is)
    (case q_Seat_label3 => k_is)
    (case q_Seat_label4 => k_is)
    (case l22 => k_is)
    (case c22 => k_is)
    (case k22 => k_is)
    (case a23 => k_is)
    (case i23 => k_is)
    (case l23 => k_is)
    (case c23 => k_is)
    (case k23 => k_is)
    (case a24 => k_is)
    (case i24 => k_is)
    (case l24 => k_is)
    (case c24 => k_is)
    (case k24 => k_is)
    (case a25 => k_is)
    (case l25 => k_is)
    (case c25 => k_is)
    (case k25 => k_is)
    (case a26 => k_is)
    (case l26 => k_is)
    (case c26 => k_is)
    (case k26 => k_is)
    (case s_top => first | rfl | decide +kernel)
    (case s_sup => k_is)
    (case s_opq => k_is)
    (case ki_Peg => k_is)
    (case ki_Thing => k_is)
    (case kM_Peg => k_is)
    (case kC_Peg => k_is)
    (case c1_Peg => k_is)
    (case c2_Peg => k_is)
    (case c3_Peg => k_is)
    (case c4_Peg => k_is)
    (case kM_Seat => k_is)
    (case kC_Seat => k_is)
    (case c1_Seat => k_is)
    (case c2_Seat => k_is)
    (case c3_Seat => k_is)
    (case c4_Seat => k_is)
    (case kM_Thing => k_is)
    (case kC_Thing => k_is)
    (case c1_Thing => k_is)
    (case c2_Thing => k_is)
    (case c3_Thing => k_is)
    (case c4_Thing => k_is)
    (case v_Peg_IS_LOOKED_AT => k_is)
    (case v_Seat_KIND => k_is)
    (case v_Thing_KIND => k_is)
    (case rd_Peg => k_is)
    (case ra_Peg => k_is)
    (case rd_Seat => k_is)
    (case ra_Seat => k_is)
    (case rd_Thing => k_is)
    (case ra_Thing => k_is)
    (case kc_Peg_IS_LOOKED_AT => k_is)
    (case kg_Peg_IS_LOOKED_AT => k_is)
    (case kc_Peg_KIND => k_is)
    (case kg_Peg_KIND => k_is)
    (case kc_Seat_IS_LOOKED_AT => k_is)
    (case kg_Seat_IS_LOOKED_AT => k_is)
    (case kc_Seat_KIND => k_is)
    (case kg_Seat_KIND => k_is)
    (case kc_Thing_IS_LOOKED_AT => k_is)
    (case kg_Thing_IS_LOOKED_AT => k_is)
    (case kc_Thing_KIND => k_is)
    (case kg_Thing_KIND => k_is)
    (case us_Peg_init_Peg => k_is)
    (case ua_Peg_init_Peg => kernel_rfl)
    (case ut_Peg_init_Peg => k_is)
    (case uf_Peg_init_Peg => k_is)
    (case us_Thing_init_Thing => k_is)
    (case ua_Thing_init_Thing => kernel_rfl)
    (case ut_Thing_init_Thing => k_is)
    (case uf_Thing_init_Thing => k_is)
    (case it_hn => k_is)
    (case it_ht => k_is)
    (case ih_Seat => k_is)
    (case im_Seat => k_is)
    (case ih_Thing => k_is)
    (case im_Thing => k_is)
    (case ih_Peg => k_is)
    (case im_Peg => k_is)
    (case oo_Seat_Peg => kernel_rfl)
    (case oo_Seat_Seat => kernel_rfl)
    (case oo_Seat_Thing => kernel_rfl)
    (case oo_Thing_Peg => kernel_rfl)
    (case oo_Thing_Seat => kernel_rfl)
    (case oo_Thing_Thing => kernel_rfl)
    (case oo_Peg_Peg => kernel_rfl)
    (case oo_Peg_Seat => kernel_rfl)
    (case oo_Peg_Thing => kernel_rfl)
    (case bo_NoneType_Peg => kernel_rfl)
    (case bo_NoneType_Seat => kernel_rfl)
    (case bo_NoneType_Thing => kernel_rfl)
    (case bo_bool_Peg => kernel_rfl)
    (case bo_bool_Seat => kernel_rfl)
    (case bo_bool_Thing => kernel_rfl)
    (case bo_int_Peg => kernel_rfl)
    (case bo_int_Seat => kernel_rfl)
    (case bo_int_Thing => kernel_rfl)
    (case bo_str_Peg => kernel_rfl)
    (case bo_str_Seat => kernel_rfl)
    (case bo_str_Thing => kernel_rfl)
    (case bo_list_Peg => kernel_rfl)
    (case bo_list_Seat => kernel_rfl)
    (case bo_list_Thing => kernel_rfl)
    (case bo_tuple_Peg => kernel_rfl)
    (case bo_tuple_Seat => kernel_rfl)
    (case bo_tuple_Thing => kernel_rfl)
    (case bo_dict_Peg => kernel_rfl)
    (case bo_dict_Seat => kernel_rfl)
    (case bo_dict_Thing => kernel_rfl)
    (case ob_Seat_list => kernel_rfl)
    (case ob_Seat_str => kernel_rfl)
    (case ob_Seat_tuple => kernel_rfl)
    (case ob_Thing_list => kernel_rfl)
    (case ob_Thing_str => kernel_rfl)
    (case ob_Thing_tuple => kernel_rfl)
    (case ob_Peg_list => kernel_rfl)
    (case ob_Peg_str => kernel_rfl)
    (case ob_Peg_tuple => kernel_rfl)
    (case at_Peg__name => k_is)
    (case at_Seat__name => k_is)
    (case at_Thing__name => k_is)
    (case at_Thing__number => k_is)
    (case fi_Peg_text => k_is)
    (case fi_Peg_eq => k_is)
    (case fi_Peg_repr => k_is)
    (case fi_Thing_repr => k_is)
    (case eo_Peg_Seat => k_is)
    (case eo_Peg_Thing => k_is)
    (case eo_Peg_Peg => k_is)
    (case eo_Thing_Seat => k_is)
    (case eo_Thing_Thing => k_is)
    (case eo_Thing_Peg => k_is)
    (case eb_Peg_str => k_is)
    (case eb_Peg_list => k_is)
    (case eb_Peg_int => k_is)
    (case eb_Peg_bool => k_is)
    (case eb_Peg_NoneType => k_is)
    (case eb_Thing_str => k_is)
    (case eb_Thing_list => k_is)
    (case eb_Thing_int => k_is)
    (case eb_Thing_bool => k_is)
    (case eb_Thing_NoneType => k_is)
    (case ne_Thing => k_is)
    (case ob_Thing => k_is)
    (case z_all => k_is)
    (case z_bool => k_is)
    (case z_int => k_is)
    (case z_isinstance => k_is)
    (case z_len => k_is)
    (case z_list => k_is)
    (case z_range => k_is)
    (case z_repr => k_is)
    (case z_str => k_is)
    (case z_tuple => k_is)
    (case z_zip => k_is)
    (case g_MOST_LETTERS => k_is)
    (case tC1 => k_is)
    (case tC2 => rfl)
    (case tC3 => kernel_rfl)
    (case tC4 => kernel_rfl)
