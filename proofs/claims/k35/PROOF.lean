import PyProof.Rows.All
import Wide.All
import OpenK.AllK
import Wide.FinOn
import HandS.ForMost
import HandS.Wide
import HandS.IsInst
import HandS.Codes
import HandS.Zip
import HandS.StrMore
import HandS.Defaults
import HandS.Style
import HandS.Walk
import KE.GoesMore
import HandS.Star
import HandS.SlotsOwn
import HandS.Property
import HandS.OwnEq
import HandS.SortRule
import HandS.Flow
import HandS.Small
import HandS.More
import HandS.ClsMeth
import HandS.SetKeys
import HandS.SetFor
import HandS.Strs
import HandS.ExcField
import HandS.ExcInit
import HandS.ExcIs
import HandS.ExcOwn
import KE.KExcInit
import KE.KExcIs
import KE.KExcLine
import HandS.TryMany
import HandS.HotCalls
import HandS.Lambda
import HandS.CallSlots
import HandS.EndTab
import HandS.ExcValue
import HandS.WordsExc
import HandS.EndBits
import HandS.EndOwn
import HandS.Nested
import HandS.FStr
import HandS.StrSplit
import HandS.Text
import HandS.DictComp
import HandS.RevRange
import HandS.Rev
import HandS.Remove
import HandS.RaiseFrom
import HandS.MakeKw
import HandS.MakeKwOnly
import KE.KxText
import KE.KSuper
import PySem.Challenge.RW_lumplooks_k35_lumps_told
set_option Elab.async false
set_option linter.all false
set_option maxRecDepth 100000
set_option maxHeartbeats 4000000
/-! ### exceptions of own classes as values (toward k01, k03, k05, k06, k10, k11): C(e, ..) with an own __init__, over any built-in base -/
namespace Ex
open PySem PySem.Spec PyProof.Rows L2
/-- what the written part says of the class; B: its built-in base -/
structure OexG (K : PySem.W.Frag) (C : Addr) (B newId initId : String) (bmB : List Value) : Prop where
  base : ExcBaseFacts B newId initId bmB
  cls : ∃ nm q N bs bm sn sub ab col dd k0 k1 k2 k3 k5, K.lookup C = some (excClassObj nm q C N bs bm true sn sub ab col dd k0 k1 k2 k3 k5 newId) ∧ ∀ Y : String, bm.contains (.type Y) = bmB.contains (.type Y)
  kC : PySem.W.keepIn K (.ref C) = true
section
variable {X : Cx} {CX : CXT} {k : Nat} {C fI : Addr} {B newId initId : String} {bmB : List Value} {sp : Sp} {E : XK} {x : Str} {p pos : Pos} {e : Expr} {es : List Expr} {t : TA}
def tOex (C : Addr) (sp : Sp) (E : XK) (t : TA) : TE := fun σ H Q => t σ H fun vs H1 => vs.length ≤ 1000 ∧ ∀ a, H1 a = none → sp (.ref a :: vs) (upd H1 a (exo a C none)) (fun v H2 => v = .non ∧ Q (.ref a) H2) E
theorem pe_oex (T : OexG X.K C B newId initId bmB) (iC : PySem.W.findIn X.K (.ref C) "__init__" = some (some (.ref fI))) (tI : PySem.W.typeIn X.K (.ref fI) = some (.type "function")) (F : FnR X.prog X.w X.K X.mg X.base CX k fI sp) (hr : Room (k + 1) X.A)
    (hx : Passes CX X E) (hg : Gl X x) (hm : X.mg x = some (.ref C)) (ha : PA X (e :: es) t) (hdb : (x == ("__debug__" : Str)) = false := by decide) (he : starEach (e :: es) X.env = (false, eval e X.env) :: starEach es X.env := by rfl)
    (hpl : (backTo pos (starEach es X.env)).any (·.1) = false := by rfl) : PE X (.Call (.Name x p) (e :: es) [] pos) (tOex C sp E t) := by
  refine ⟨fun pins s σ H Q I h => ?_⟩
  obtain ⟨nm, q, N, bs, bm, sn, sub, ab, col, dd, k0, k1, k2, k3, k5, hC, hT⟩ := T.cls
  refine wpAny_Call_Name_kw (ld_glob I hg hm ?_ hdb)
  refine PySem.W.callWith_K (h₀ := X.base) I.ok.mod.kin T.kC (thn (ha.run pos pins s σ H _ I h) fun us s1 ⟨vs, H1, I1, r1, hz, q1⟩ => ⟨I1.kIn, ?_⟩) he hpl
  show wpAny _ _ (call (.ref C) us) _ _ _
  obtain ⟨hp, g, dr, tk, os⟩ := s1
  have up : hp.objs.size ≤ hp.objs.size + 1 := Nat.le_succ _
  have hq := q1 (hp.objs.size + 1) (I1.hok.fresh up)
  have old : ∀ b o, hp.get? b = some o → ((hp.push (PySem.W.kdv_tup us)).push (PySem.HandSPX.excO C hp.objs.size)).get? b = some o := fun b o e => Heap.get?_push_of_some _ (Heap.get?_push_of_some _ e)
  have at_ : ((hp.push (PySem.W.kdv_tup us)).push (PySem.HandSPX.excO C hp.objs.size)).get? (hp.objs.size + 1) = some (PySem.HandSPX.excO C hp.objs.size) := by heap_get
  have I2 : Inv X pins σ (upd H1 (hp.objs.size + 1) (exo (hp.objs.size + 1) C none)) ⟨(hp.push (PySem.W.kdv_tup us)).push (PySem.HandSPX.excO C hp.objs.size), g, dr, tk, os⟩ :=
    I1.laid (t' := tk) (a := hp.objs.size + 1) (o := exo (hp.objs.size + 1) C none) (h' := (hp.push (PySem.W.kdv_tup us)).push (PySem.HandSPX.excO C hp.objs.size)) old up (exo_ok at_)
  have lus : us.length ≤ sizeLine := by
    rw [← Paired.length r1, sizeLine_eq]
    omega
  refine wpAny_call (PySem.HandSPX.call_own T.base hT (I1.kIn _ _ hC) (PySem.W.looks_findIn I1.kIn iC) (fun self => PySem.W.bind_fn I1.kIn self tI) lus
    (codeAny_mono (F _ X.stack _ _ (Value.ref (hp.objs.size + 1) :: us) (V.ref (hp.objs.size + 1) :: vs) _ E (hr.make C us []) (I2.env0.make C us []) (.cons rfl r1) hq) fun r s' z => ?_))
  cases r with
  | error er => exact hx pins σ _ _ er s' I2 z
  | ok fl =>
    cases fl with
    | ret u =>
      obtain ⟨v, H2, I3, rv, ev, q2⟩ := I2.after z
      subst ev
      exact ⟨rv, .ref (hp.objs.size + 1), H2, I3, rfl, q2⟩
    | next => exact False.elim z
    | brk => exact False.elim z
    | cont => exact False.elim z
end
section
variable {X : Cx} {e : Expr} {te : TE} {f : Str} {pos : Pos}
/-- e.f of such an exception -/
def tExf (K : PySem.W.Frag) (f : Str) (te : TE) : TE := fun σ H Q => te σ H fun x H1 => ∃ (a C d : Addr) (fs : List (Str × V)) (v : V), x = .ref a ∧ H1 a = some (exo a C (some d)) ∧ H1 d = some (exd d fs) ∧ XfC K C ∧ PySem.W.findIn K (.ref C) f = some none ∧ fs.lookup f = some v ∧ Q v H1
theorem exo_inst {pins : List (Addr × Obj)} {σ : L2.St} {H : Hp} {s : Shared} {a C d : Addr} {fs : List (Str × V)} (I : Inv X pins σ H s) (ha : H a = some (exo a C (some d))) (hd : H d = some (exd d fs)) :
    ∃ (oe od : Obj) (mA : Str → Option Value), PySem.W.InstAt s.heap a oe C (some od) ∧ (∀ n, PySem.W.lookIn n od = some (mA n)) ∧ ∀ n, RelO (fs.lookup n) (mA n) := by
  obtain ⟨⟨t1, h1⟩, _⟩ := (show ObjOk X.prog X.w H s.heap a (exo a C (some d)) from I.hok a _ ha)
  obtain ⟨⟨mA, hns, hr⟩, _⟩ := (show ObjOk X.prog X.w H s.heap d (exd d fs) from I.hok d _ hd)
  obtain ⟨od, ho, hl⟩ := lookIn_ns hns
  exact ⟨_, od, mA, ⟨h1, rfl, rfl, ho⟩, hl, hr⟩
theorem pe_exf (he : PE X e te) (hb : attributeBase e f X.env (eval e X.env) = eval e X.env := by rfl) : PE X (.Attribute e f pos) (tExf X.K f te) := by
  refine ⟨fun pins s σ H Q I h => ?_⟩
  refine attr_of hb (thn (he.run pins s σ H _ I h) fun u s1 ⟨x, H1, I1, rx, a, C, d, fs, v, ex, ha, hd, T, hno, l, q⟩ => ?_)
  subst ex
  obtain rfl : u = Value.ref a := rx
  obtain ⟨oe, od, mA, J, hl, hr⟩ := exo_inst I1 ha hd
  obtain ⟨w1, hu, ru⟩ := RelO.some_of (v := v) (o := mA f) (by rw [← l]; exact hr f)
  exact HandSPX.exc_get I1.kIn J T.ga T.gg T.exC (PySem.W.findObj_own T.hdC hno rfl (by rw [hl, hu])) (handed_of ru) ⟨v, H1, I1.tok _, ru, q⟩
/-- isinstance(e, c) of such an exception -/
def rIsX (K : PySem.W.Frag) : List V → Hp → VK → Prop := fun xs H Q => ∃ (a D d : Addr) (fs : List (Str × V)) (c : V) (u : Value) (b : Bool), xs = [.ref a, c] ∧ H a = some (exo a D (some d)) ∧ H d = some (exd d fs) ∧ ExcC K D ∧ (PySem.W.clsIn K D).isSome = true ∧ ClsV c u ∧ PySem.W.kitOne K (.ref D) u = some b ∧ Q (.bl b) H
theorem call_isX : CallR X (.builtin "isinstance") (rIsX X.K) := by
  intro pins s σ H xs us Q I r h
  obtain ⟨a, D, d, fs, c, u, b, rfl, ha, hd, T, hc, k, e, q⟩ := h
  obtain ⟨u1, u2, rfl, r1, r2⟩ := vals2 r
  obtain rfl : u1 = Value.ref a := r1
  have e2 := k.eq r2
  subst e2
  obtain ⟨oe, od, mA, J, _⟩ := exo_inst I ha hd
  exact PySem.W.kia_one (PySem.W.kitx_exc hc T.hg T.hk T.hs T.ha T.hn T.ht T.hm) I.kIn J e (by simp) fun tk => ⟨.bl b, H, I.tok tk, rfl, q⟩
end
end Ex
/-! ### C(k = e) of an own exception class -/
namespace Ex
open PySem HandSPX
section
variable {prog : Program} {w : World} {A : Around} {E : Value → Shared → Prop} {R : Result → Shared → Prop} {h : Heap} {g : Array GenState} {d : Drawn} {t : Nat} {os : OsState}
variable {nm q : Str} {C N : Addr} {bs bm bmB : List Value} {hdct : Bool} {sn : List Str} {sub : List Value} {ab : Bool} {col : Option Bool} {dd : Option Addr} {k0 k1 k2 k3 k5 : Option Value} {B newId initId : String} {kn : Str} {kv : Value}
theorem new_kw (F : ExcBaseFacts B newId initId bmB) (hT : ∀ Y : String, bm.contains (.type Y) = bmB.contains (.type Y)) (hC : h.get? C = some (excClassObj nm q C N bs bm hdct sn sub ab col dd k0 k1 k2 k3 k5 newId))
    (z : R (.ok (.ret (.ref (h.objs.size + 1)))) ⟨(h.push (PySem.W.kdv_tup [])).push (excO C h.objs.size), g, d, t, os⟩) :
    codeAny (model prog w) A (.builtin newId ⟨[.ref C], [(kn, kv)]⟩) R ⟨h, g, d, t, os⟩ := by
  have e0 := F.ends
  have e1 : (Value.ref C :: bm).contains (.type B) = true := by rw [List.contains_cons, hT, F.hasB, Bool.or_true]
  have e2 : (Value.ref C :: bm).contains (.type "AttributeError") = false := by rw [List.contains_cons, hT, F.noAttr]; rfl
  have e3 : (Value.ref C :: bm).contains (.type "NameError") = false := by rw [List.contains_cons, hT, F.noName]; rfl
  refine codeAny_builtinAt F.entry ?_
  unfold Builtin.«BaseException.__new__»
  refine PySem.wpAt_bind ?_
  show wpAt _ _ _ (stack >>= _) _ _ _
  refine PySem.wpAt_bind (wpAt_stack fun p below => wpAt_of_wpAny ?_)
  wp_walk
  refine wpAt_of_wpAny ?_
  rw [F.owner]
  repeat (first | with_reducible refine wpAny_madeHere_exc F.canon hC ?_ | with_reducible refine wpAny_loadPart_at hC ?_ | (with_reducible refine wpAny_isSubtype_exc hC ?_; first | rw [e1] | rw [e2] | rw [e3]) | wp_step)
  show R _ _
  rw [Heap.size_push]
  exact z
end
section
variable {M : Model} {A : Around} {E : Value → Shared → Prop} {h : Heap} {g : Array GenState} {d : Drawn} {t : Nat} {os : OsState}
variable {nm q : Str} {C N : Addr} {bs bm bmB : List Value} {hdct : Bool} {sn : List Str} {sub : List Value} {ab : Bool} {col : Option Bool} {dd : Option Addr} {k0 k1 k2 k3 k5 : Option Value} {B newId initId : String} {kn : Str} {kv : Value}
theorem check_kw (F : ExcBaseFacts B newId initId bmB) (hT : ∀ Y : String, bm.contains (.type Y) = bmB.contains (.type Y)) {Q : Unit → Shared → Prop}
    (hC : h.get? C = some (excClassObj nm q C N bs bm hdct sn sub ab col dd k0 k1 k2 k3 k5 newId)) (z : Q () ⟨h, g, d, t, os⟩) : wpAny M A (checkBuiltinCall newId ⟨[.ref C], [(kn, kv)]⟩) Q E ⟨h, g, d, t, os⟩ := by
  have e1 : (Value.ref C :: bm).contains (.type B) = true := by rw [List.contains_cons, hT, F.hasB, Bool.or_true]
  have e2 := F.noStar
  simp only [checkBuiltinCall, F.newKind, F.newSplit, F.newRow]
  repeat (first | refine wpAny_loadPart_at hC ?_ | (refine wpAny_isSubtype_exc hC ?_; rw [e1]) | refine wpAny_staticBase_exc hC ?_ | refine wpAny_madeBy_exc hC ?_ | simp only [bne_self_eq_false, Bool.false_eq_true, if_false] | wp_step)
  exact z
end
section
variable {prog : Program} {w : World} {A : Around} {E : Value → Shared → Prop} {R : Result → Shared → Prop} {h : Heap} {g : Array GenState} {d : Drawn} {t : Nat} {os : OsState}
variable {nm q : Str} {C N fI : Addr} {bs bm bmB : List Value} {hdct : Bool} {sn : List Str} {sub : List Value} {ab : Bool} {col : Option Bool} {dd : Option Addr} {k0 k1 k2 k3 k5 : Option Value} {B newId initId : String} {kn : Str} {kv : Value}
theorem check_tc {M : Model} {Q : Unit → Shared → Prop} (hC : h.get? C = some (excClassObj nm q C N bs bm hdct sn sub ab col dd k0 k1 k2 k3 k5 newId)) (z : Q () ⟨h, g, d, t, os⟩) : wpAny M A (checkBuiltinCall "type.__call__" ⟨[.ref C], [(kn, kv)]⟩) Q E ⟨h, g, d, t, os⟩ := by
  have f3 := PySem.tc_sub
  have hT : (⟨h, g, d, t, os⟩ : Shared).TypeIs (.ref C) "type" := ⟨_, hC, rfl⟩
  simp only [checkBuiltinCall, PySem.tc_kind, PySem.tc_split]
  repeat (any_goals (first | assumption | with_reducible refine wpAny_loadPart_at hC ?_ | with_reducible refine wpAny_onRaise ?_ | with_reducible refine wpAny_map ?_ | wp_step))
theorem type_kw (F : ExcBaseFacts B newId initId bmB) (hT : ∀ Y : String, bm.contains (.type Y) = bmB.contains (.type Y)) {Q : Fin → Shared → Prop} (hC : h.get? C = some (excClassObj nm q C N bs bm hdct sn sub ab col dd k0 k1 k2 k3 k5 newId))
    (hi : PySem.W.Looks (model prog w) h (typeLookup (.ref C) "__init__") (some (.ref fI))) (hb : ∀ self, PySem.W.Looks (model prog w) h (bindSpecial (.ref fI) self) (.ref fI, [self]))
    (z : codeAny (model prog w) A (.call (.ref fI) ⟨[.ref (h.objs.size + 1)], [(kn, kv)]⟩)
      (fun r s' => match r with | .ok (.ret v) => v = .none ∧ Q (.done (.ret (.ref (h.objs.size + 1)))) s' | .ok _ => False | .error e => E e s')
      ⟨(h.push (PySem.W.kdv_tup [])).push (excO C h.objs.size), g, d, t, os⟩) :
    wpAny (model prog w) A (Builtin.«type.__call__» ⟨[.ref C], [(kn, kv)]⟩) Q E ⟨h, g, d, t, os⟩ := by
  repeat (first | with_reducible refine wpAny_loadPart_at hC ?_ | with_reducible refine wpAny_madeBy_exc hC ?_ | wp_step)
  refine codeAny_call_builtin_code (Code.quiet_builtin _ F.quiet) (check_kw F hT hC ?_)
  refine new_kw F hT hC ?_
  show wpAny _ _ _ _ _ _
  have k : ∀ b o, h.get? b = some o → ((h.push (PySem.W.kdv_tup [])).push (excO C h.objs.size)).get? b = some o := fun b o e => Heap.get?_push_of_some _ (Heap.get?_push_of_some _ e)
  have c1 := k _ _ hC
  have at_ : ((h.push (PySem.W.kdv_tup [])).push (excO C h.objs.size)).get? (h.objs.size + 1) = some (excO C h.objs.size) := by heap_get
  have e1 : (Value.ref C :: bm).contains (.ref C) = true := by simp
  have i1 := hi.keeps k
  have b1 := (hb (.ref (h.objs.size + 1))).keeps k
  unfold isInstance
  repeat (first | with_reducible refine wpAny_loadPart_at at_ ?_ | (with_reducible refine wpAny_isSubtype_exc c1 ?_; rw [e1]) | wp_step)
  show wpAny _ _ (typeLookup (.ref C) _) _ _ _
  refine i1.at ?_
  refine wpAny_holding (wpAny_bind (b1.at ?_))
  refine wpAny_bind (wpAny_call (codeAny_mono z fun r s' y => ?_))
  rcases r with e | (v | _ | _ | _) <;> first | exact y | exact y.elim | skip
  obtain ⟨rfl, y⟩ := y
  first
    | exact wpAny_pure (wpAny_pure y)
    | (wp_walk; exact y)
theorem call_kw (F : ExcBaseFacts B newId initId bmB) (hT : ∀ Y : String, bm.contains (.type Y) = bmB.contains (.type Y)) (hC : h.get? C = some (excClassObj nm q C N bs bm hdct sn sub ab col dd k0 k1 k2 k3 k5 newId))
    (hi : PySem.W.Looks (model prog w) h (typeLookup (.ref C) "__init__") (some (.ref fI))) (hb : ∀ self, PySem.W.Looks (model prog w) h (bindSpecial (.ref fI) self) (.ref fI, [self]))
    (z : codeAny (model prog w) (A.under (.builtin "type.__call__" ⟨[.ref C], [(kn, kv)]⟩)) (.call (.ref fI) ⟨[.ref (h.objs.size + 1)], [(kn, kv)]⟩) (PySem.W.InitBack (h.objs.size + 1) R)
      ⟨(h.push (PySem.W.kdv_tup [])).push (excO C h.objs.size), g, d, t, os⟩) :
    codeAny (model prog w) A (.call (.ref C) ⟨[], [(kn, kv)]⟩) R ⟨h, g, d, t, os⟩ := by
  have f1 := PySem.tc_lookup
  have f2 := PySem.tc_bind (.ref C)
  have hTy : (⟨h, g, d, t, os⟩ : Shared).TypeIs (.ref C) "type" := ⟨_, hC, rfl⟩
  refine codeAny_of_tree ?_
  show wpAny _ _ (callAny (.ref C) _) _ _ _
  repeat (any_goals (first | assumption | with_reducible refine wpAny_loadPart_at hC ?_ | wp_step))
  refine ⟨rfl, ?_⟩
  refine codeAny_call_builtin_at (Code.quiet_builtin _ (by decide +kernel)) PySem.entry_typeCall (check_tc hC (type_kw F hT hC hi hb ?_))
  refine codeAny_mono z fun r s' y => ?_
  rcases r with e | (v | _ | _ | _) <;> exact y
end
end Ex
namespace Ex
open PySem PySem.Spec PyProof.Rows L2
section
variable {X : Cx} {CX : CXT} {k : Nat} {C fI : Addr} {B newId initId : String} {bmB : List Value} {fd : FuncData} {ps : List Str} {sp : Sp} {E : XK} {x kn : Str} {p pos : Pos} {kws : List Keyword} {tk : TA} {g : List Value → List Value → List Value} {gV : List V → List V → List V}
def tOexK (C : Addr) (sp : Sp) (gV : List V → List V → List V) (E : XK) (tk : TA) : TE := fun σ H Q => tk σ H fun zs H1 => zs.length = 1 ∧ ∀ a, H1 a = none → sp (gV [.ref a] zs) (upd H1 a (exo a C none)) (fun v H2 => v = .non ∧ Q (.ref a) H2) E
theorem pe_oexK (T : OexG X.K C B newId initId bmB) (iC : PySem.W.findIn X.K (.ref C) "__init__" = some (some (.ref fI))) (tI : PySem.W.typeIn X.K (.ref fI) = some (.type "function")) (F : FnOk X.prog X.w X.K X.mg X.base CX k fI fd ps sp) (hr : Room (k + 1) X.A)
    (hb : KBn X.K fd ps 1 [kn] g gV) (hx : Passes CX X E) (hg : Gl X x) (hm : X.mg x = some (.ref C)) (hkw : PK X kws tk) (hall : (backToKw pos (keywordEach kws X.env)).all (·.1.isSome) = true := by rfl) (hks : (backToKw pos (keywordEach kws X.env)).filterMap (·.1) = [kn] := by rfl)
    (hdb : (x == ("__debug__" : Str)) = false := by decide) (hpl : ((backTo pos (starEach [] X.env)).any (·.1) || (backToKw pos (keywordEach kws X.env)).any (·.1.isNone)) = false := by rfl) :
    PE X (.Call (.Name x p) [] kws pos) (tOexK C sp gV E tk) := by
  refine ⟨fun pins s σ H Q I h => ?_⟩
  obtain ⟨nm, q, N, bs, bm, sn, sub, ab, col, dd, k0, k1, k2, k3, k5, hC, hT⟩ := T.cls
  refine wpAny_Call_Name_kw (ld_glob I hg hm ?_ hdb)
  refine PySem.W.callWith_KW0 (h₀ := X.base) I.ok.mod.kin T.kC hall (thn (hkw.run pos pins s σ H _ I h) fun ws s1 ⟨zs, H1, I1, r1, hz, q1⟩ => ⟨I1.kIn, ?_⟩) hpl
  rw [hks]
  have l1 : ws.length = 1 := by rw [← r1.length]; exact hz
  obtain ⟨kv, rfl⟩ : ∃ kv, ws = [kv] := match ws, l1 with | [kv], _ => ⟨kv, rfl⟩
  show wpAny _ _ (call (.ref C) [] [(kn, kv)]) _ _ _
  obtain ⟨hp, gg, dr, tk', os⟩ := s1
  have up : hp.objs.size ≤ hp.objs.size + 1 := Nat.le_succ _
  have hq := q1 (hp.objs.size + 1) (I1.hok.fresh up)
  have old : ∀ b o, hp.get? b = some o → ((hp.push (PySem.W.kdv_tup [])).push (PySem.HandSPX.excO C hp.objs.size)).get? b = some o := fun b o e => Heap.get?_push_of_some _ (Heap.get?_push_of_some _ e)
  have at_ : ((hp.push (PySem.W.kdv_tup [])).push (PySem.HandSPX.excO C hp.objs.size)).get? (hp.objs.size + 1) = some (PySem.HandSPX.excO C hp.objs.size) := by heap_get
  have I2 : Inv X pins σ (upd H1 (hp.objs.size + 1) (exo (hp.objs.size + 1) C none)) ⟨(hp.push (PySem.W.kdv_tup [])).push (PySem.HandSPX.excO C hp.objs.size), gg, dr, tk', os⟩ :=
    I1.laid (t' := tk') (a := hp.objs.size + 1) (o := exo (hp.objs.size + 1) C none) (h' := (hp.push (PySem.W.kdv_tup [])).push (PySem.HandSPX.excO C hp.objs.size)) old up (exo_ok at_)
  have r2 : Vals (gV [V.ref (hp.objs.size + 1)] zs) (g [Value.ref (hp.objs.size + 1)] [kv]) := hb.rel (.cons rfl .nil) r1
  refine wpAny_call (call_kw T.base hT (I1.kIn _ _ hC) (PySem.W.looks_findIn I1.kIn iC) (fun self => PySem.W.bind_fn I1.kIn self tI)
    (codeAny_mono (F.run _ X.stack _ _ ⟨[Value.ref (hp.objs.size + 1)], [(kn, kv)]⟩ _ _ _ E (hr.make C [] [(kn, kv)]) (I2.env0.make C [] [(kn, kv)]) (hb.to _ [Value.ref (hp.objs.size + 1)] [kv] I2.kIn rfl rfl) r2 hq) fun r s' z => ?_))
  cases r with
  | error er => exact hx pins σ _ _ er s' I2 z
  | ok fl =>
    cases fl with
    | ret u =>
      obtain ⟨v, H2, I3, rv, ev, q2⟩ := I2.after z
      subst ev
      exact ⟨rv, .ref (hp.objs.size + 1), H2, I3, rfl, q2⟩
    | next => exact False.elim z
    | brk => exact False.elim z
    | cont => exact False.elim z
end
end Ex
/-! ### attributes stored into an exception of an own class over any built-in base -/
namespace Ex
open PySem PySem.W PySem.Calls PyProof.Rows PySem.HandSPX Builtin Builtin.ObjectAttr
/-- what the order of the classes must be for stores -/
structure MroG (mro : List Value) : Prop where
  pass : ∀ self, refuseLoop self "__setattr__" mro = pure ()
  ob : mro.contains (.type "object") = true
  ne : mro.isEmpty = false
theorem mroG_of {bmB bm : List Value} {C : Addr} (p : ∀ self : Value, refuseLoop self "__setattr__" bmB = pure ()) (o : bmB.contains (.type "object") = true) (h : excTail bmB bm = true) : MroG (.ref C :: bm) :=
  ⟨fun self => by rw [refuseLoop_ref]; exact excTail_pass self (p self) bm h, by rw [List.contains_cons, excTail_contains "object" bm h, o, Bool.or_true], rfl⟩
section
variable {prog : Program} {w : World} {R : Result → Shared → Prop} {A : Around} {hp : Heap} {g : Array GenState} {d : Drawn} {t : Nat} {os : OsState} {K : W.Frag} {e C : Addr} {fv : Array Value} {cd : ClassData} {n : Str} {tk : Tok} {u : Value}
theorem put_first (kin : K.In hp) (he : hp.get? e = some { cls := .ref C, data := .fields fv }) (hc : W.clsIn K C = some cd) (hm : MroG cd.mro) (hd : cd.hasDict = true) (nn : W.findIn K (.ref C) n = some none)
    (k : ∀ h2 t2 y, (∀ b o, b ≠ e → hp.get? b = some o → h2.get? b = some o) → hp.objs.size ≤ y → y ≠ e → h2.get? e = some { cls := .ref C, dict := some y, data := .fields fv } → h2.Ns1 y (fun z => if z = n then some u else none) → R (.ok (.ret .none)) ⟨h2, g, d, t2, os⟩) :
    codeAny (model prog w) A (.call (.builtin "object.__setattr__") ⟨[.ref e, .str n tk, u], []⟩) R ⟨hp, g, d, t, os⟩ := by
  have J : W.InstAt hp e { cls := .ref C, data := .fields fv } C none := ⟨he, rfl, rfl, trivial⟩
  have S := F.store_object
  have es : e ≠ hp.objs.size := Nat.ne_of_lt (Heap.lt_size he)
  have sub : W.Looks (model prog w) hp (isInstance (.ref e) (.type "object")) true := J.type.andThen (W.looks_mroIn kin (by unfold W.mroIn; rw [hc, Option.bind_some, if_neg (by rw [hm.ne]; decide), hm.ob]))
  refine codeAny_call_builtin S.slot.plain S.entry (@W.check_slot (model prog w) _ _ ⟨hp, g, d, t, os⟩ "object.__setattr__" "object" "__setattr__" (.ref e) [.str n tk, u] [] _ S.kind S.split sub (S.args (.ref e) (.str n tk) u) ?_)
  have l1 : W.Looks (model prog w) hp (mroOf (.ref C)) cd.mro := (W.looks_clsIn kin hc).andThen .now
  have l2 : W.Looks (model prog w) hp (storeTaker? none) none := .now
  have l3 : W.Looks (model prog w) hp (classData C) cd := W.looks_clsIn kin hc
  rw [W.osa_eq, refuse_eq]
  refine wpAny_bind (wpAny_bind (J.type.at (wpAny_bind (l1.at ?_))))
  rw [hm.pass]
  refine wpAny_pure (wpAny_bind (J.type.at (wpAny_bind ((W.looks_findIn kin nn).at (wpAny_bind (l2.at ?_))))))
  show wpAny _ _ (storeInOwnDict (.ref e) (.ref C) (.str n tk) n u false) _ _ _
  obtain ⟨c1, c2, c3, c4, c5, c6, c7, c8, c9, c10, c11⟩ := cd
  dsimp only at hd
  subst hd
  unfold storeInOwnDict ownDictForStores
  repeat (first | with_reducible refine store_in_new ?_ ?_ | with_reducible refine wpAny_loadPart_at he ?_ | with_reducible refine l3.at ?_ | wp_step)
  · exact ⟨_, #[], _, (Heap.get?_update_ne _ _ _ _ es.symm).trans (Heap.get?_push_at rfl rfl), rfl, fun x hx => absurd hx (by simp), fun _ => rfl⟩
  · intro h2 t2 hn hs
    have he1 : (hp.push { cls := .type "dict", data := .dict #[] }).get? e = some { cls := .ref C, data := .fields fv } := Heap.get?_push_of_some _ he
    refine k h2 t2 hp.objs.size (fun b o nb hb => ?_) (Nat.le_refl _) es.symm ?_ hn
    · exact (hs.2 b (Nat.ne_of_lt (Heap.lt_size hb))).trans ((Heap.get?_update_ne _ _ _ _ nb).trans (Heap.get?_push_of_some _ hb))
    · exact (hs.2 e es).trans (Heap.get?_update_self _ he1 rfl)
theorem put_more {y : Addr} {m0 : Str → Option Value} {nl : List Str} (kin : K.In hp) (he : hp.get? e = some { cls := .ref C, dict := some y, data := .fields fv }) (hy : hp.Ns1 y m0) (hw : Within m0 nl) (hz : nl.length ≤ 1000)
    (hc : W.clsIn K C = some cd) (hm : MroG cd.mro) (hd : cd.hasDict = true) (nn : W.findIn K (.ref C) n = some none)
    (k : ∀ h2 t2, (∀ b o, b ≠ y → hp.get? b = some o → h2.get? b = some o) → h2.Ns1 y (fun z => if z = n then some u else m0 z) → R (.ok (.ret .none)) ⟨h2, g, d, t2, os⟩) :
    codeAny (model prog w) A (.call (.builtin "object.__setattr__") ⟨[.ref e, .str n tk, u], []⟩) R ⟨hp, g, d, t, os⟩ := by
  obtain ⟨oD, _, _, hoD, _, _⟩ := hy.count hw
  have J : W.InstAt hp e { cls := .ref C, dict := some y, data := .fields fv } C (some oD) := ⟨he, rfl, rfl, hoD⟩
  have S := F.store_object
  have sub : W.Looks (model prog w) hp (isInstance (.ref e) (.type "object")) true := J.type.andThen (W.looks_mroIn kin (by unfold W.mroIn; rw [hc, Option.bind_some, if_neg (by rw [hm.ne]; decide), hm.ob]))
  refine codeAny_call_builtin S.slot.plain S.entry (@W.check_slot (model prog w) _ _ ⟨hp, g, d, t, os⟩ "object.__setattr__" "object" "__setattr__" (.ref e) [.str n tk, u] [] _ S.kind S.split sub (S.args (.ref e) (.str n tk) u) ?_)
  have l1 : W.Looks (model prog w) hp (mroOf (.ref C)) cd.mro := (W.looks_clsIn kin hc).andThen .now
  have l2 : W.Looks (model prog w) hp (storeTaker? none) none := .now
  have l3 : W.Looks (model prog w) hp (classData C) cd := W.looks_clsIn kin hc
  rw [W.osa_eq, refuse_eq]
  refine wpAny_bind (wpAny_bind (J.type.at (wpAny_bind (l1.at ?_))))
  rw [hm.pass]
  refine wpAny_pure (wpAny_bind (J.type.at (wpAny_bind ((W.looks_findIn kin nn).at (wpAny_bind (l2.at ?_))))))
  show wpAny _ _ (storeInOwnDict (.ref e) (.ref C) (.str n tk) n u false) _ _ _
  obtain ⟨c1, c2, c3, c4, c5, c6, c7, c8, c9, c10, c11⟩ := cd
  dsimp only at hd
  subst hd
  unfold storeInOwnDict ownDictForStores
  repeat (first | with_reducible refine PySem.OEX.store_in_old hy hw hz ?_ | with_reducible refine wpAny_loadPart_at he ?_ | with_reducible refine l3.at ?_ | wp_step)
  intro h2 t2 hn hs
  exact k h2 t2 (fun b o nb hb => (hs.2 b nb).trans hb) hn
end
end Ex
namespace Ex
open PySem PySem.Spec PyProof.Rows L2
/-- what the written part says of the class, for stores -/
structure OexS (K : PySem.W.Frag) (C : Addr) : Prop where
  cd : ∃ cd, PySem.W.clsIn K C = some cd ∧ MroG cd.mro ∧ cd.hasDict = true
  sa : PySem.W.findIn K (.ref C) "__setattr__" = some (some (.builtin "object.__setattr__"))
section
variable {X : Cx} {pins : List (Addr × Obj)} {σ : L2.St} {H : Hp} {s : Shared} {a C dx : Addr} {f : Str} {y : V} {u : Value} {fs : List (Str × V)} {Q : Unit → Shared → Prop} {E : Value → Shared → Prop} {A : Around}
theorem xst_first (T : OexS X.K C) (I : Inv X pins σ H s) (ha : H a = some (exo a C none)) (hno : PySem.W.findIn X.K (.ref C) f = some none) (ry : RelV y u)
    (h : ∀ dx s', H dx = none → dx ≠ a → Inv X pins σ (upd (upd H dx (exd dx [(f, y)])) a (exo a C (some dx))) s' → Q () s') : wpAny (model X.prog X.w) A (setAttr (.ref a) f u) Q E s := by
  obtain ⟨cd, hcl, hm, hd⟩ := T.cd
  obtain ⟨t1, ho⟩ := exo_at I.hok ha
  obtain ⟨hp, g, d, t, os⟩ := s
  refine PySem.W.set_plain I.kIn (ox := { cls := .ref C, dict := none, data := .fields #[.ref t1, .none, .none, .none, .bool false, .none] }) (od := none) ⟨ho, rfl, rfl, trivial⟩ T.sa ?_
  refine put_first I.kIn ho hcl hm hd hno fun h' tk' dx k dn dne hx hn => ?_
  have nD : H dx = none := I.hok.fresh dn
  have old : ∀ {b : Addr} {o : Obj}, hp.get? b = some o → b ≠ dx := fun {b o} q => Nat.ne_of_lt (Nat.lt_of_lt_of_le (Heap.lt_size q) dn)
  have other : ∀ {b : Addr}, H b = none → b ≠ a := fun {b} n z => by rw [z, ha] at n; cases n
  have U : Un X.fs [] H (upd (upd H dx (exd dx [(f, y)])) a (exo a C (some dx))) hp h' :=
    { keep := fun b o q n _ _ => k b o (other n) q
      slot := fun b o q n _ _ => ⟨o.slots, k b o (other n) q⟩
      free := fun b o q n _ => by rw [upd_ne (other n), upd_ne (old q)]; exact n
      there := fun b o q _ => by
        rcases Classical.em (b = a) with z | z
        · subst z
          exact ⟨_, hx⟩
        · exact ⟨o, k b o z q⟩
      tups := fun b xs q => by rw [upd_ne (at_ne ha q exo_tup), upd_ne (ne_of_none q nD)]; exact q
      frzs := fun b o v q => by rw [upd_ne (at_ne ha q exo_frz), upd_ne (ne_of_none q nD)]; exact q
      tbls := fun b ps q => ⟨#[], by rw [upd_ne (at_ne ha q exo_tbl), upd_ne (ne_of_none q nD), q]; simp⟩ }
  refine h dx _ nD dne (I.un (t' := tk') U fun b o q => ?_)
  rcases Classical.em (b = a) with z | hb
  · subst z
    rw [upd_same] at q
    cases q
    exact exo_ok hx
  · rw [upd_ne hb] at q
    rcases Classical.em (b = dx) with z | hb2
    · subst z
      rw [upd_same] at q
      cases q
      exact exd_ok hn (relO_put (fs := []) ry fun _ => True.intro)
    · rw [upd_ne hb2] at q
      refine (I.hok b o q).stay (fun c v hc z => k c v ?_ z) (fun c hc => by rw [upd_ne (at_ne ha hc exo_own), upd_ne (ne_of_none hc nD)]; exact hc) (fun c xs hc => by rw [upd_ne (at_ne ha hc exo_tup), upd_ne (ne_of_none hc nD)]; exact hc)
      rcases hc with hc | hc
      · rw [hc]; exact hb
      · exact at_ne ha hc exo_own
theorem xst_more (T : OexS X.K C) (I : Inv X pins σ H s) (ha : H a = some (exo a C (some dx))) (ed : H dx = some (exd dx fs)) (hl : fs.length ≤ 900) (hno : PySem.W.findIn X.K (.ref C) f = some none) (ry : RelV y u)
    (h : ∀ s', Inv X pins σ (upd H dx (exd dx ((f, y) :: fs))) s' → Q () s') : wpAny (model X.prog X.w) A (setAttr (.ref a) f u) Q E s := by
  obtain ⟨cd, hcl, hm, hd⟩ := T.cd
  obtain ⟨t1, ho⟩ := exo_at I.hok ha
  obtain ⟨mA, hns, rel⟩ := exd_at I.hok ed
  have hw := within_of rel
  obtain ⟨hp, g, d, t, os⟩ := s
  obtain ⟨oD, _, _, hoD, _, _⟩ := hns.count hw
  refine PySem.W.set_plain I.kIn (ox := { cls := .ref C, dict := some dx, data := .fields #[.ref t1, .none, .none, .none, .bool false, .none] }) (od := some oD) ⟨ho, rfl, rfl, hoD⟩ T.sa ?_
  refine put_more I.kIn ho hns hw (by rw [List.length_map]; omega) hcl hm hd hno fun h' tk' k hn => ?_
  obtain ⟨o1, _, _, e1, _⟩ := id hn
  exact h _ (I.write (t' := tk') (x := dx) (e := dx) (o := exd dx ((f, y) :: fs)) (by rw [ed]; exact True.intro) (.inl rfl) k ⟨o1, e1⟩ (exd_ok hn (relO_put ry rel)))
end
/-- self.f = e -/
def tXst (K : PySem.W.Frag) (f : Str) (to te : TE) : TS := fun D σ H => te σ H fun y H1 => to σ H1 fun x H2 => ∃ a C : Addr, x = .ref a ∧ OexS K C ∧ PySem.W.findIn K (.ref C) f = some none ∧
  ((H2 a = some (exo a C none) ∧ ∀ dx, H2 dx = none → dx ≠ a → D.nx σ (upd (upd H2 dx (exd dx [(f, y)])) a (exo a C (some dx)))) ∨
    ∃ (dx : Addr) (fs : List (Str × V)), H2 a = some (exo a C (some dx)) ∧ H2 dx = some (exd dx fs) ∧ fs.length ≤ 900 ∧ D.nx σ (upd H2 dx (exd dx ((f, y) :: fs))))
section
variable {X : Cx} {o e : Expr} {to te : TE} {f : Str} {p' pos : Pos}
theorem ps_xst (ho : PE X o to) (he : PE X e te) (hs : swapsWith e (some (.Attribute o f p')) pos.line X.env = pure false := by rfl) : PS X (.Assign [.Attribute o f p'] e pos) (tXst X.K f to te) := by
  refine ⟨fun pins s σ H D I h => ?_⟩
  refine plainObj_wpAny_Assign_Attribute (thn (he.run pins s σ H _ I h) fun v s1 ⟨y, H1, I1, r1, q1⟩ => thn (ho.run pins s1 σ H1 _ I1 q1) fun u s2 ⟨x, H2, I2, r2, a, C, ex, T, hno, q⟩ => ?_) hs
  subst ex
  obtain rfl : u = Value.ref a := r2
  rcases q with ⟨ea, q⟩ | ⟨dx, fs, ea, ed, hl, q⟩
  · exact xst_first T I2 ea hno r1 fun dx s' n ne J => ⟨σ, _, J, q dx n ne⟩
  · exact xst_more T I2 ea ed hl hno r1 fun s' J => ⟨σ, _, J, q⟩
end
/-! ### C() with an own __init__; C(e) without one; isinstance of an exception without a dict -/
/-- the class by the written part's word -/
theorem oexG_of {K : PySem.W.Frag} {C : Addr} {B newId initId : String} {bmB : List Value} (b : ExcBaseFacts B newId initId bmB) (q : PySem.W.excInitIn K C bmB newId = true) (hd : PySem.W.hasDictIn K C = true) (kC : PySem.W.keepIn K (.ref C) = true) : OexG K C B newId initId bmB := by
  refine ⟨b, ?_, kC⟩
  unfold PySem.W.excInitIn at q
  unfold PySem.W.hasDictIn PySem.W.clsIn at hd
  split at q
  · rename_i dd cd sl ho
    rw [ho] at hd
    split at q
    · rename_i C' bm k0 k1 k2 k3 n k5 hm hs
      simp only [Bool.and_eq_true, beq_iff_eq, Bool.not_eq_true'] at q
      obtain ⟨⟨⟨rfl, rfl⟩, hdel⟩, ht⟩ := q
      obtain ⟨nm, bs, mro, ns, qn, hd', sn, sub, ab, col, del⟩ := cd
      dsimp only at hm hdel
      subst hm hdel
      have e1 : hd' = true := by simpa using hd
      subst e1
      obtain ⟨l⟩ := sl
      simp only at hs
      subst hs
      exact ⟨nm, qn, ns, bs, bm, sn, sub, ab, col, dd, k0, k1, k2, k3, k5, ho, fun T => PySem.W.excTail_contains T _ ht⟩
    · cases q
  · cases q
theorem oexS_of {K : PySem.W.Frag} {C : Addr} {newId : String} {bmB : List Value} (p : ∀ self : Value, refuseLoop self "__setattr__" bmB = pure ()) (ob : bmB.contains (.type "object") = true) (q : PySem.W.excInitIn K C bmB newId = true) (hd : PySem.W.hasDictIn K C = true)
    (sa : PySem.W.findIn K (.ref C) "__setattr__" = some (some (.builtin "object.__setattr__"))) : OexS K C := by
  refine ⟨?_, sa⟩
  unfold PySem.W.excInitIn at q
  unfold PySem.W.hasDictIn at hd
  split at q
  · rename_i dd cd sl ho
    have ec : PySem.W.clsIn K C = some cd := by unfold PySem.W.clsIn; rw [ho]
    rw [ec] at hd
    split at q
    · rename_i C' bm k0 k1 k2 k3 n k5 hm hs
      simp only [Bool.and_eq_true, beq_iff_eq, Bool.not_eq_true'] at q
      obtain ⟨⟨⟨rfl, rfl⟩, hdel⟩, ht⟩ := q
      exact ⟨cd, ec, by rw [hm]; exact mroG_of p ob ht, by simpa using hd⟩
    · cases q
  · cases q
section
variable {X : Cx} {CX : CXT} {k : Nat} {C fI : Addr} {B newId initId : String} {bmB : List Value} {sp : Sp} {E : XK} {x : Str} {p pos : Pos}
theorem pe_oex0 (T : OexG X.K C B newId initId bmB) (iC : PySem.W.findIn X.K (.ref C) "__init__" = some (some (.ref fI))) (tI : PySem.W.typeIn X.K (.ref fI) = some (.type "function")) (F : FnR X.prog X.w X.K X.mg X.base CX k fI sp) (hr : Room (k + 1) X.A)
    (hx : Passes CX X E) (hg : Gl X x) (hm : X.mg x = some (.ref C)) (hdb : (x == ("__debug__" : Str)) = false := by decide) : PE X (.Call (.Name x p) [] [] pos) (fun _ H Q => ∀ a, H a = none → sp [.ref a] (upd H a (exo a C none)) (fun v H2 => v = .non ∧ Q (.ref a) H2) E) := by
  refine ⟨fun pins s σ H Q I h => ?_⟩
  obtain ⟨nm, q, N, bs, bm, sn, sub, ab, col, dd, k0, k1, k2, k3, k5, hC, hT⟩ := T.cls
  refine wpAny_Call_Name_kw (ld_glob I hg hm ?_ hdb)
  refine PySem.W.callWith_K0 I.kIn T.kC ?_
  obtain ⟨hp, g, dr, tk, os⟩ := s
  have up : hp.objs.size ≤ hp.objs.size + 1 := Nat.le_succ _
  have hq := h (hp.objs.size + 1) (I.hok.fresh up)
  have old : ∀ b o, hp.get? b = some o → ((hp.push (PySem.W.kdv_tup [])).push (PySem.HandSPX.excO C hp.objs.size)).get? b = some o := fun b o e => Heap.get?_push_of_some _ (Heap.get?_push_of_some _ e)
  have at_ : ((hp.push (PySem.W.kdv_tup [])).push (PySem.HandSPX.excO C hp.objs.size)).get? (hp.objs.size + 1) = some (PySem.HandSPX.excO C hp.objs.size) := by heap_get
  have I2 : Inv X pins σ (upd H (hp.objs.size + 1) (exo (hp.objs.size + 1) C none)) ⟨(hp.push (PySem.W.kdv_tup [])).push (PySem.HandSPX.excO C hp.objs.size), g, dr, tk, os⟩ :=
    I.laid (t' := tk) (a := hp.objs.size + 1) (o := exo (hp.objs.size + 1) C none) (h' := (hp.push (PySem.W.kdv_tup [])).push (PySem.HandSPX.excO C hp.objs.size)) old up (exo_ok at_)
  refine wpAny_call (PySem.HandSPX.call_own T.base hT (I.kIn _ _ hC) (PySem.W.looks_findIn I.kIn iC) (fun self => PySem.W.bind_fn I.kIn self tI) (Nat.zero_le _)
    (codeAny_mono (F _ X.stack _ _ [Value.ref (hp.objs.size + 1)] [V.ref (hp.objs.size + 1)] _ E (hr.make C [] []) (I2.env0.make C [] []) (.cons rfl .nil) hq) fun r s' z => ?_))
  cases r with
  | error er => exact hx pins σ _ _ er s' I2 z
  | ok fl =>
    cases fl with
    | ret u =>
      obtain ⟨v, H2, I3, rv, ev, q2⟩ := I2.after z
      subst ev
      exact ⟨rv, .ref (hp.objs.size + 1), H2, I3, rfl, q2⟩
    | next => exact False.elim z
    | brk => exact False.elim z
    | cont => exact False.elim z
end
end Ex
namespace Ex
open PySem PySem.Spec PyProof.Rows L2
section
variable {X : Cx} {pins : List (Addr × Obj)} {σ : L2.St} {H : Hp} {s : Shared} {a C : Addr} {h' : Heap} {t' : Nat}
/-- an exception without a dict, wherever it lies, is told from now on -/
theorem inv_exo (I : Inv X pins σ H s) (k : ∀ b o, s.heap.get? b = some o → h'.get? b = some o) (nw : s.heap.get? a = none) (ok : ObjOk X.prog X.w (upd H a (exo a C none)) h' a (exo a C none)) : Inv X pins σ (upd H a (exo a C none)) { s with heap := h', toks := t' } := by
  have na : H a = none := HOk.gone I.hok nw
  have old : ∀ {b : Addr} {o : Obj}, s.heap.get? b = some o → b ≠ a := fun {b o} q z => by rw [z, nw] at q; cases q
  have U : Un X.fs [] H (upd H a (exo a C none)) s.heap h' :=
    { keep := fun b o q n _ _ => k b o q
      slot := fun b o q n _ _ => ⟨o.slots, k b o q⟩
      free := fun b o q n _ => by rw [upd_ne (old q)]; exact n
      there := fun b o q _ => ⟨o, k b o q⟩
      tups := fun b xs q => by rw [upd_ne (ne_of_none q na)]; exact q
      frzs := fun b o v q => by rw [upd_ne (ne_of_none q na)]; exact q
      tbls := fun b ps q => ⟨#[], by rw [upd_ne (ne_of_none q na), q]; simp⟩ }
  obtain ⟨hp, g, d, t, os⟩ := s
  refine I.un (t' := t') U fun b o q => ?_
  rcases Classical.em (b = a) with z | hb
  · subst z
    rw [upd_same] at q
    cases q
    exact ok
  · rw [upd_ne hb] at q
    exact (I.hok b o q).stay (fun c v hc z => k c v z) (fun c hc => by rw [upd_ne (ne_of_none hc na)]; exact hc) (fun c xs hc => by rw [upd_ne (ne_of_none hc na)]; exact hc)
end
section
variable {X : Cx} {C : Addr} {bmB : List Value} {B newId initId : String}
/-- C("m") of an own class without an own __init__, as a value -/
theorem pe_oexP {x m : Str} {j : Nat} {p p2 pos : Pos} (F : ExcBaseFacts B newId initId bmB) (q : PySem.W.excIn X.K C bmB newId = true) (gC : X.mg x = some (.ref C)) (kC : PySem.W.keepIn X.K (.ref C) = true) (hg : Gl X x)
    (hdb : (x == ("__debug__" : Str)) = false := by decide) : PE X (.Call (.Name x p) [.Constant (.str m) j p2] [] pos) (fun _ H Q => ∀ a, H a = none → Q (.ref a) (upd H a (exo a C none))) := by
  refine ⟨fun pins s σ H Q I h => ?_⟩
  refine wpAny_Call_Name_kw (ld_glob I hg gC ?_ hdb)
  have ha : PA X [.Constant (.str m) j p2] (tCons (tC (.str m)) tNil) := pa_cons pe_str pa_nil
  refine PySem.W.callWith_K (h₀ := X.base) I.ok.mod.kin kC (thn (ha.run pos pins s σ H (fun vs H1 => vs = [V.str m] ∧ H = H1) I ⟨rfl, rfl⟩) fun us s1 hh => ?_)
  obtain ⟨vs, H1, I1, r1, ev, eH⟩ := hh
  subst ev
  rw [← eH] at I1
  refine ⟨I1.kIn, ?_⟩
  cases r1 with
  | cons ru rn =>
    rename_i u us'
    cases rn
    show wpAny _ _ (call (.ref C) [u]) _ _ _
    obtain ⟨bm, N, nm, qn, bs, hdct, sn, sub, ab, col, dd, k0, k1, k2, k3, k5, mN, hC, hN, hni, T⟩ := exc_obj I1.kIn q
    refine wpAny_call_exc_subT F T hC hN hni (fun h' e hm => ?_) (by show 1 ≤ sizeLine; rw [sizeLine_eq]; omega)
    obtain ⟨t, he, _, _⟩ := hm.there
    exact ⟨.ref e, _, inv_exo (t' := s1.toks) I1 hm.keeps hm.new (exo_ok he), rfl, h e (HOk.gone I1.hok hm.new)⟩
/-- isinstance(e, c), e without a dict -/
def rIsX0 (K : PySem.W.Frag) : List V → Hp → VK → Prop := fun xs H Q => ∃ (a D : Addr) (c : V) (u : Value) (b : Bool), xs = [.ref a, c] ∧ H a = some (exo a D none) ∧ ExcC K D ∧ (PySem.W.clsIn K D).isSome = true ∧ ClsV c u ∧ PySem.W.kitOne K (.ref D) u = some b ∧ Q (.bl b) H
theorem call_isX0 : CallR X (.builtin "isinstance") (rIsX0 X.K) := by
  intro pins s σ H xs us Q I r h
  obtain ⟨a, D, c, u, b, rfl, ha, T, hc, k, e, q⟩ := h
  obtain ⟨u1, u2, rfl, r1, r2⟩ := vals2 r
  obtain rfl : u1 = Value.ref a := r1
  have e2 := k.eq r2
  subst e2
  obtain ⟨t1, h1⟩ := exo_at I.hok ha
  have J : PySem.W.InstAt s.heap a _ D none := ⟨h1, rfl, rfl, trivial⟩
  exact PySem.W.kia_one (PySem.W.kitx_exc hc T.hg T.hk T.hs T.ha T.hn T.ht T.hm) I.kIn J e (by simp) fun tk => ⟨.bl b, H, I.tok tk, rfl, q⟩
end
theorem pe_exfK {X : Cx} {K : PySem.W.Frag} {e : Expr} {te : TE} {f : Str} {pos : Pos} (eK : X.K = K) (he : PE X e te) (hb : attributeBase e f X.env (eval e X.env) = eval e X.env := by rfl) : PE X (.Attribute e f pos) (tExf K f te) := eK ▸ pe_exf he hb
/-! ### an exception that stands: its class, its code, its one more attribute -/
/-- fs: what its dict has -/
def Xv (H : Hp) (x : V) (C : Addr) (fs : List (Str × V)) : Prop := ∃ a d, x = .ref a ∧ H a = some (exo a C (some d)) ∧ H d = some (exd d fs)
theorem Xv.same {H H' : Hp} {x : V} {C : Addr} {fs : List (Str × V)} (e : Same H H') (h : Xv H x C fs) : Xv H' x C fs := by
  obtain ⟨a, d, h1, h2, h3⟩ := h
  exact ⟨a, d, h1, e _ _ h2, e _ _ h3⟩
theorem exd_lst {e : Addr} {fs : List (Str × V)} {xs : List V} : exd e fs ≠ .lst xs := fun z => by
  have z' : HO.ext _ = HO.lst xs := z
  cases z'
theorem exo_lst {e C : Addr} {d : Option Addr} {xs : List V} : exo e C d ≠ .lst xs := fun z => by
  have z' : HO.ext _ = HO.lst xs := z
  cases z'
theorem Xv.mut {H : Hp} {x : V} {C r : Addr} {fs : List (Str × V)} {zs : List V} {o : HO} (h : Xv H x C fs) (hr : H r = some (.lst zs)) : Xv (upd H r o) x C fs := by
  obtain ⟨a, d, h1, h2, h3⟩ := h
  exact ⟨a, d, h1, (upd_ne (at_ne hr h2 (fun z => exo_lst z.symm))).trans h2, (upd_ne (at_ne hr h3 (fun z => exd_lst z.symm))).trans h3⟩
/-- __init__(self, v): self.f = v; self.code = nm -/
def spX (C : Addr) (f nm : Str) : Sp := fun vs H Q _ => ∃ a v, vs = [.ref a, v] ∧ H a = some (exo a C none) ∧ ∀ d H', H d = none → d ≠ a → (∀ b o, b ≠ a → H b = some o → H' b = some o) → H' a = some (exo a C (some d)) → H' d = some (exd d [("code", .str nm), (f, v)]) → Q .non H'
/-- __init__(self): self.code = nm -/
def spX0 (C : Addr) (nm : Str) : Sp := fun vs H Q _ => ∃ a, vs = [.ref a] ∧ H a = some (exo a C none) ∧ ∀ d H', H d = none → d ≠ a → (∀ b o, b ≠ a → H b = some o → H' b = some o) → H' a = some (exo a C (some d)) → H' d = some (exd d [("code", .str nm)]) → Q .non H'
/-- a caller of spX: what is told -/
theorem told1 {H1 : Hp} {C a : Addr} {f nm : Str} {v : V} {vs : List V} {R : Hp → Prop} {E : XK} (e : vs = [.ref a, v]) (na : H1 a = none) (k : ∀ H2, Same H1 H2 → Xv H2 (.ref a) C [("code", .str nm), (f, v)] → R H2) : spX C f nm vs (upd H1 a (exo a C none)) (fun w H2 => w = .non ∧ R H2) E :=
  ⟨a, v, e, upd_same, fun d H' nd da kp h1 h2 => ⟨rfl, k H' (fun b o e => kp b o (fun z => by rw [z, na] at e; cases e) ((upd_ne (fun z => by rw [z, na] at e; cases e)).trans e)) ⟨a, d, rfl, h1, h2⟩⟩⟩
theorem told0 {H1 : Hp} {C a : Addr} {nm : Str} {vs : List V} {R : Hp → Prop} {E : XK} (e : vs = [.ref a]) (na : H1 a = none) (k : ∀ H2, Same H1 H2 → Xv H2 (.ref a) C [("code", .str nm)] → R H2) : spX0 C nm vs (upd H1 a (exo a C none)) (fun w H2 => w = .non ∧ R H2) E :=
  ⟨a, e, upd_same, fun d H' nd da kp h1 h2 => ⟨rfl, k H' (fun b o e => kp b o (fun z => by rw [z, na] at e; cases e) ((upd_ne (fun z => by rw [z, na] at e; cases e)).trans e)) ⟨a, d, rfl, h1, h2⟩⟩⟩
end Ex
/-! ### try: body / except (A, B, C) as n: suite, where all that the body raises is caught -/
namespace Tr
open PySem PySem.Spec PyProof.Rows L2
theorem fly_keep {B h h' : Heap} {l : List Env} {a : Addr} {Z : Obj → Prop} (k : ∀ b o, h.get? b = some o → h'.get? b = some o) (x : HandSPX.FlyingZ B l a Z h) : HandSPX.FlyingZ B l a Z h' := by
  obtain ⟨k1, k2, k3, oe, vs, T, oT, ts, he, hz, hd, h1, hnT, hTe, hT, hdT, h3⟩ := x
  exact ⟨fun b o e => k _ _ (k1 b o e), k2, k3.of_keeps fun b o e _ => ⟨o, k b o e, rfl⟩, oe, vs, T, oT, ts, k _ _ he, hz, hd, h1, hnT, hTe, k _ _ hT, hdT, h3⟩
/-- what the clause wishes of an exception of the body -/
def wAsT (K : PySem.W.Frag) (n : Nat) (cs : List Value) (i : Nat) (ts : Addr → Value → Option Addr → TS) (D : Ends) : WX := fun cls d σ H => σ.length = n →
  PySem.W.exmAny K cls cs = some true ∧ ∀ a, H a = none → ts a cls d { nx := fun σ' H' => D.nx (σ'.set i none) H', rt := D.rt, bk := fun σ' H' => D.bk (σ'.set i none) H', ct := fun σ' H' => D.ct (σ'.set i none) H' } (σ.set i (some (.ref a))) H
section
variable {X : Cx} {x1 x2 x3 n : Str} {c1 c2 c3 : Value} {i kk : Nat} {body suite : List Stmt} {b₀ : Stmt} {p1 p2 p3 tp pos pos' : Pos} {tb : WX → TS} {ts : Addr → Value → Option Addr → TS}
theorem ps_try_as3 (hs : X.stack = X.env :: X.outer) (hf : X.env.frame = some X.env.locals) (hN : X.N.Nodup) (hi : X.N[i]? = some n) (hln : X.env.kindOf n = some .local) (hc1 : Names X x1 c1) (hc2 : Names X x2 c2) (hc3 : Names X x3 c3)
    (hb : ∀ (W : WX) (pn : List (Addr × Obj)) (xe : Value → Shared → Prop), Takes (X.tr pn xe) W → PassesOwn (model X.prog X.w) X.A X.env xe → PSs (X.tr pn xe) body (tb W))
    (hsu : ∀ (a : Addr) (oe : Obj) (cls : Value) (d : Option Addr) (pn : List (Addr × Obj)), Zc cls d oe → (∃ vs, oe.data = .fields vs) → PSs (X.suite a ((a, oe) :: pn)) (b₀ :: suite) (ts a cls d)) :
    PS X (.Try body [.ExceptHandler (some (.Tuple [.Name x1 p1, .Name x2 p2, .Name x3 p3] kk tp)) (some n) (b₀ :: suite) pos'] [] [] pos) (fun D σ H => tb (wAsT X.K X.N.length [c1, c2, c3] i ts D) D σ H) := by
  refine ⟨fun pins s σ H D I h => ?_⟩
  have ok := I.ok
  have frm : X.A.frames = some (X.env :: X.outer) := by rw [ok.frames, hs]
  have loc : Loc X.env.scope n := .inl hln
  refine wpAny_Try_except ?_
  refine wpAny_mono ((hb (wAsT X.K X.N.length [c1, c2, c3] i ts D) (X.pn ++ pins) (fun e s₁ => wpAny (model X.prog X.w) X.A (noteFrame e X.env) (fun _ s₂ => wpAny (model X.prog X.w) X.A (setFlight e none) (fun _ s₃ =>
    wpAny (model X.prog X.w) X.A (handleBy e X.env [.ExceptHandler (some (.Tuple [.Name x1 p1, .Name x2 p2, .Name x3 p3] kk tp)) (some n) (b₀ :: suite) pos']) (SP X pins D) X.xe s₃) X.xe s₂) X.xe s₁) (fun u s' xx => ?_) PassesOwn.looking).run [] s σ H D (I.toTry _) h) (fun f s1 hsp => ?_) (fun e s1 he => he)
  · obtain ⟨a, B, sI, pins', σ', H', cls, d, rfl, J', nb, up, sky, na, os, ag, hwish⟩ := xx
    obtain ⟨hb1, hyes⟩ := hwish J'.len
    have J : Inv X pins σ' H' sI := J'.ofTry ok
    have sky' : Sky B (X.env :: X.outer) a (Zc cls d) X.env.locals s'.heap := by rw [← hs]; exact sky
    show wpAny (model X.prog X.w) X.A (noteFrame (.ref a) X.env) _ _ _
    refine Sky.land Zc.steady frm hf sky' fun h3 fl3 up3 => ?_
    have J3 : Inv X pins σ' H' { s' with heap := h3 } := J.landed nb fl3.1 (up.trans up3) os ag
    obtain ⟨oe3, vs3, he3, hz3, hd3⟩ := fl3.there
    have notFr : ∀ {h : Heap} {o : Obj} {vs : Array Value}, h.FunFrames B (X.env :: X.outer) → h.get? a = some o → o.data = .fields vs → a ∉ frs (X.env :: X.outer) := fun {h o vs} ff e dd hm => by
      obtain ⟨_, o', e', hnf⟩ := ff.mem hm
      rw [e] at e'; cases e'
      exact hnf _ dd
    have nfr := notFr fl3.2.2.1 he3 hd3
    have nL : a ≠ X.env.locals := fun z => nfr (List.mem_filterMap.mpr ⟨X.env, List.mem_cons_self, by rw [hf, z]⟩)
    have nF : a ∉ X.fs := fun hm => by
      obtain ⟨e, he, q⟩ := List.mem_filterMap.mp hm
      exact nfr (List.mem_filterMap.mpr ⟨e, List.mem_cons_of_mem _ he, q⟩)
    have S3 := J3.suite he3 hd3 na nL nF
    refine wpAny_handleBy_cons (codeAny_handlers_test ?_) (by intro q; cases q)
    have test : ∀ {x : Str} {c : Value} {p : Pos} {Q : Value → Shared → Prop} {E : Value → Shared → Prop}, Names X x c → Q c { s' with heap := h3 } → wpAny (model X.prog X.w) (X.A.mark (some (.ref a))) (eval (.Name x p) X.env) Q E { s' with heap := h3 } := fun {x c p Q E} hc q => by
      obtain ⟨hg, hdbg, hm | ⟨hm, hv, hnn⟩⟩ := hc
      · exact ld_glob (X := X.suite a ((a, oe3) :: (X.pn ++ pins))) S3 hg hm q hdbg
      · exact ld_blt (X := X.suite a ((a, oe3) :: (X.pn ++ pins))) S3 hg hm hv q hnn hdbg
    refine wpAny_Tuple (wpAny_items_cons (test hc1 (wpAny_items_cons (test hc2 (wpAny_items_cons (test hc3 (wpAny_items_nil ⟨by size_fits, ?_⟩)))))))
    have kp : ∀ q o, h3.get? q = some o → (h3.push { cls := .type "tuple", data := .seq [c1, c2, c3].toArray }).get? q = some o := fun _ _ z => Heap.get?_push_of_some _ z
    have LT : PySem.W.Looks (model X.prog X.w) (h3.push { cls := .type "tuple", data := .seq [c1, c2, c3].toArray }) (typeOf (.ref a)) cls := fun A Q E s k q => wpAny_typeOf_ref (k _ _ (kp _ _ he3)) (by rw [hz3.1]; exact q)
    have LM := PySem.W.exm_tup3 (M := model X.prog X.w) (J3.kIn.keeps kp) LT (Heap.get?_push_size h3 rfl) hb1
    have flp := fly_keep kp fl3
    have upp : h3.UpToSlots (h3.push { cls := .type "tuple", data := .seq [c1, c2, c3].toArray }) := fun b o e _ => ⟨o.slots, kp b o e⟩
    refine LM.here ?_
    refine codeAny_handlers_suite_as ?_
    refine HandSPX.lands_againZ flp fun h4 fl4 up4 => ?_
    have J4 : Inv X pins σ' H' { s' with heap := h4 } := J.landed nb fl4.1 ((up.trans up3).trans (upp.trans up4)) os ag
    obtain ⟨oe4, vs4, he4, hz4, hd4⟩ := fl4.there
    have S4 := J4.suite he4 hd4 na nL nF
    refine store_ok (X := X.suite a ((a, oe4) :: (X.pn ++ pins))) (v := .ref a) S4 hN hi loc rfl (fun s5 S5 => ?_) (.inr hln)
    refine wpAny_mono ((hsu a oe4 cls d (X.pn ++ pins) hz4 ⟨_, hd4⟩).run [] s5 _ H' _ S5 (hyes a na)) (fun f s6 hsp => ?_) (fun _ _ z => False.elim z)
    have end_ : ∀ {σ6 : L2.St} {H6 : Hp} {Q : Shared → Prop}, Inv (X.suite a ((a, oe4) :: (X.pn ++ pins))) [] σ6 H6 s6 → (∀ s7, Inv X pins (σ6.set i none) H6 s7 → Q s7) →
        wpAny (model X.prog X.w) X.A (do bindName X.env n .none; unbindBehindTheSuite X.env n pos') (fun _ s7 => Q s7) X.xe s6 := fun {σ6 H6 Q} S6 hq => gone_ok (S6.unsuite ok) hN hi hln hq
    cases f with
    | next =>
      obtain ⟨σ6, H6, S6, q6⟩ := hsp
      exact end_ S6 fun s7 J7 => ⟨_, _, J7, q6⟩
    | brk =>
      obtain ⟨σ6, H6, S6, q6⟩ := hsp
      exact end_ S6 fun s7 J7 => ⟨_, _, J7, q6⟩
    | cont =>
      obtain ⟨σ6, H6, S6, q6⟩ := hsp
      exact end_ S6 fun s7 J7 => ⟨_, _, J7, q6⟩
    | ret u =>
      obtain ⟨v6, σ6, H6, S6, r6, q6⟩ := hsp
      exact end_ S6 fun s7 J7 => ⟨_, _, _, J7, r6, q6⟩
  · cases f with
    | next =>
      obtain ⟨σ', H', J', q⟩ := hsp
      exact wpAny_execs_nil ⟨σ', H', J'.ofTry ok, q⟩
    | brk =>
      obtain ⟨σ', H', J', q⟩ := hsp
      exact ⟨σ', H', J'.ofTry ok, q⟩
    | cont =>
      obtain ⟨σ', H', J', q⟩ := hsp
      exact ⟨σ', H', J'.ofTry ok, q⟩
    | ret u =>
      obtain ⟨v, σ', H', J', r, q⟩ := hsp
      exact ⟨v, σ', H', J'.ofTry ok, r, q⟩
end
end Tr
/-! ### defs called in an except suite, which are handed the exception that is at hand -/
namespace Ht
open PySem PySem.Spec PyProof.Rows L2 L2H
structure FnHp (P : Program) (w : World) (K : PySem.W.Frag) (mg : Str → Option Value) (base : Heap) (CX : CXT) (k : Nat) (f : Addr) (fd : FuncData) (ps : List Str) (sp : Addr × Obj → Sp) : Prop where
  len : ∀ p vs H Q E, sp p vs H Q E → vs.length = ps.length
  run : ∀ (A : Around) (outer : List Env) (s : Shared) (H : Hp) (args : Args) (us : List Value) (vs : List V) (Q : VK) (E : XK) (p : Addr × Obj), RoomH k A → PinOk outer H s p → Env0 P w K mg base A outer s H → BindsTo s fd args (ps.zip us) → Vals vs us → sp p vs H Q E →
    codeAny (model P w) A (.call (.ref f) args) (CR CX outer P w H s Q E) s
section
variable {CX : CXT} {P : Program} {w : World} {K : PySem.W.Frag} {mg : Str → Option Value} {base : Heap} {k : Nat} {f : Addr} {name qual : Str} {params : Arguments} {body : List Stmt} {scope : Scope} {dV kV doc pm cdv ct oc : Value} {an od : Option Addr} {osl : Array (Option Value)} {N ps : List Str} {sp : Addr × Obj → Sp}
theorem fn_hp (lk : K.lookup f = some ⟨oc, od, .func (PySem.W.fnOf name qual params body scope dV kV doc pm an cdv ct), osl⟩) (hcd : PySem.W.codeIn K cdv qual = true) (S : FnScope N ps scope) (len : ∀ p vs H Q E, sp p vs H Q E → vs.length = ps.length)
    (hbody : ∀ (A : Around) (outer : List Env) (s : Shared) (H : Hp) (vs : List V) (Q : VK) (E : XK) (p : Addr × Obj), RoomH k (A.deeper (envOfC qual scope s.heap.objs.size f cdv)) → sp p vs H Q E →
      ∃ t, PSs (cxH CX P w K mg base N qual scope f cdv A outer s H E p) body t ∧ t { nx := fun _ H' => Q .non H', rt := Q } (L2.start N vs) H) :
    FnHp P w K mg base CX (k + 1) f (PySem.W.fnOf name qual params body scope dV kV doc pm an cdv ct) ps sp := by
  refine ⟨len, fun A outer s H args us vs Q E p hr hpin e0 hb r hsp => ?_⟩
  have hl := len _ _ _ _ _ hsp
  have KX : K.In s.heap := e0.mod.kin.keeps fun b o e => (e0.bs b o e).1
  have lim : s.heap.NoLimit := e0.mod.nolimit.keeps fun b o e => (e0.bs b o e).1
  have kinds : ∀ y ∈ ps.zip us, scope.names.lookup y.1 = some .local ∨ (scope.names.lookup y.1 = some .cell ∧ ((cellsFrom (s.heap.objs.size + 1) scope.names []).lookup y.1).isSome = true) := fun ⟨n, v⟩ hy =>
    (S.par n (List.of_mem_zip hy).1).elim .inl fun q => .inr ⟨q, PySem.W.cellsFrom_some _ _ _ (.inl q)⟩
  refine codeAny_call_function hr.depth (KX _ _ lk) rfl S.co S.gen rfl (PySem.W.codeRec_of KX hcd) (hb _ _ _ _ ?_)
  refine wpAny_newFunctionEnv_cells S.kind kinds fun env he s1 x => ?_
  subst he
  refine ⟨lim.keeps x.toInCall.keep, codeAny_func ?_⟩
  obtain ⟨t, ht, hq⟩ := hbody A outer s H vs Q E p (hr.deeper _) hsp
  have I : Inv (cxH CX P w K mg base N qual scope f cdv A outer s H E p) [] (L2.start N vs) H s1 := inv_startH S hpin e0 hl r x
  refine wpAny_mono (ht.run [] s1 (L2.start N vs) H _ I hq) (fun fl s' hs => ?_) fun e s' hs => hs
  match fl, hs with
  | .ret u, ⟨v, σ', H', J, rv, q⟩ => exact ⟨v, H', J.os, J.bare, J.base, J.hok, rv, q⟩
  | .next, ⟨σ', H', J, q⟩ => exact ⟨.non, H', J.os, J.bare, J.base, J.hok, rfl, q⟩
  | .brk, ⟨_, _, _, q⟩ => exact False.elim q
  | .cont, ⟨_, _, _, q⟩ => exact False.elim q
end
section
variable {X : Cx} {CX : CXT} {k : Nat} {f : Addr} {fd : FuncData} {ps : List Str} {sp : Addr × Obj → Sp} {E : XK} {x : Str} {q pos : Pos} {e : Expr} {es : List Expr} {t : TA} {p : Addr × Obj}
/-- f(e, ..) in a suite at whose hand is p -/
theorem pe_callHp (F : FnHp X.prog X.w X.K X.mg X.base CX k f fd ps sp) (hr : RoomH k X.A) (hp : p ∈ X.pn) (hg : Gl X x) (hm : X.mg x = some (.ref f)) (hk : PySem.W.keepIn X.K (.ref f) = true) (hb : Binds X.K fd ps []) (hx : Passes CX X E)
    (ha : PA X (e :: es) t) (hdb : (x == ("__debug__" : Str)) = false := by decide) (he : starEach (e :: es) X.env = (false, eval e X.env) :: starEach es X.env := by rfl) (hpl : (backTo pos (starEach es X.env)).any (·.1) = false := by rfl) :
    PE X (.Call (.Name x q) (e :: es) [] pos) (fun σ H Q => t σ H fun vs H1 => sp p vs H1 Q E) := by
  refine ⟨fun pins s σ H Q I h => ?_⟩
  refine wpAny_Call_Name_kw (ld_glob I hg hm ?_ hdb)
  refine PySem.W.callWith_K (h₀ := X.base) I.ok.mod.kin hk (thn (ha.run pos pins s σ H _ I h) fun us s1 ⟨vs, H1, I1, r, q⟩ => ⟨I1.kIn, ?_⟩) he hpl
  have hl : us.length = ps.length := by rw [← r.length]; exact F.len _ _ _ _ _ q
  have b := hb s1 us I1.kIn (by rw [List.append_nil]; exact hl)
  rw [List.append_nil] at b
  have P1 := I1.pin p (List.mem_append_left _ hp)
  have hpin : PinOk X.stack H1 s1 p := ⟨P1.1, P1.2.1, fun hm => (List.mem_cons.mp (I1.stkSub p.1 hm)).elim P1.2.2.1 P1.2.2.2.1, P1.2.2.2.2⟩
  refine wpAny_call (codeAny_mono (F.run X.A X.stack s1 H1 ⟨us, []⟩ us vs Q E p hr hpin I1.env0 b r q) fun r s' hq => ?_)
  cases r with
  | error e => exact hx pins σ _ _ e s' I1 hq
  | ok fl =>
    cases fl with
    | ret u => exact I1.after hq
    | next => exact False.elim hq
    | brk => exact False.elim hq
    | cont => exact False.elim hq
/-- the reading of e.n, e the exception p that is at hand -/
def tXfQ (p : Addr × Obj) (K : PySem.W.Frag) (n : Str) (te : TE) : TE := fun σ H Q => te σ H fun x H1 => ∃ (C d : Addr) (fs : List (Str × V)) (v : V), x = .ref p.1 ∧ XfC K C ∧ PySem.W.findIn K (.ref C) n = some none ∧ Zc (.ref C) (some d) p.2 ∧ (∃ vs, p.2.data = .fields vs) ∧
  H1 d = some (.xd fs) ∧ fs.lookup n = some v ∧ Q v H1
theorem pe_xfQ {te : TE} {n : Str} (hp : p ∈ X.pn) (he : PE X e te) (hb : attributeBase e n X.env (eval e X.env) = eval e X.env := by rfl) : PE X (.Attribute e n pos) (tXfQ p X.K n te) := by
  refine ⟨fun pins s σ H Q I h => ?_⟩
  refine attr_of hb (thn (he.run pins s σ H _ I h) fun u s1 hh => ?_)
  obtain ⟨x, H1, I1, rx, C, dd, fs, v, ex, T, hno, hz, hf, ea, l, q⟩ := hh
  subst ex
  obtain rfl : u = Value.ref p.1 := rx
  obtain ⟨ha, _⟩ := I1.pin p (List.mem_append_left _ hp)
  obtain ⟨vs, hd⟩ := hf
  obtain ⟨mA, hns, hr⟩ := (show ObjOk X.prog X.w H1 s1.heap dd (.xd fs) from I1.hok dd _ ea)
  obtain ⟨od, ho, hl⟩ := lookIn_ns hns
  obtain ⟨u, hu, ru⟩ := RelO.some_of (v := v) (o := mA n) (by rw [← l]; exact hr n)
  have J : PySem.W.InstAt s1.heap p.1 p.2 C (some od) := ⟨ha, hz.1, by unfold PySem.W.notCls; rw [hd] <;> rfl, by rw [hz.2]; exact ho⟩
  exact HandSPX.exc_get I1.kIn J T.ga T.gg T.exC (PySem.W.findObj_own T.hdC hno rfl (by rw [hl, hu])) (handed_of ru) ⟨v, H1, I1.tok _, ru, q⟩
end
end Ht
/-! ### lambdas that lie in the ground: a ground as great as the state allows, and a lambda's promise over it -/
namespace Lg
open PySem PySem.Spec PyProof.Rows L2 LamX
/-- all of h that is neither told nor one of l -/
def grd (h : Heap) (H : Hp) (l : List Addr) : Heap := PySem.W.hideAll (hidT h H) l
theorem grd_get {h : Heap} {H : Hp} {l : List Addr} {b : Addr} {o : Obj} (e : h.get? b = some o) (n : H b = none) (nl : b ∉ l) : (grd h H l).get? b = some o := PySem.W.hideAll_get l (hidT_get e n) nl
theorem of_grd {h : Heap} {H : Hp} {l : List Addr} {b : Addr} {o : Obj} (e : (grd h H l).get? b = some o) : h.get? b = some o ∧ H b = none := of_hidT (PySem.W.of_hideAll l e)
theorem fun_not {h base : Heap} : ∀ {l : List Env}, h.FunFrames base l → ∀ b ∈ frs l, base.get? b = none
  | [], _, b, hb => by cases hb
  | e :: r, ⟨_, ⟨L, o, h1, h2, _⟩, h3⟩, b, hb => by
    have hb' : b ∈ (e :: r).filterMap (·.frame) := hb
    rw [List.filterMap_cons, h1] at hb'
    rcases List.mem_cons.mp hb' with q | q
    · rw [q]; exact h2
    · exact fun_not h3 b q
theorem fun_grd {h base G : Heap} {fs : List Addr} (hn : ∀ b ∈ fs, G.get? b = none) : ∀ {l : List Env}, (∀ b ∈ frs l, b ∈ fs) → h.FunFrames base l → h.FunFrames G l
  | [], _, _ => trivial
  | e :: r, hs, ⟨k, ⟨L, o, h1, _, h4, h5⟩, h3⟩ => by
    have m : ∀ b ∈ frs r, b ∈ frs (e :: r) := fun b hb => by
      show b ∈ (e :: r).filterMap (·.frame)
      rw [List.filterMap_cons, h1]
      exact .tail _ hb
    have mL : L ∈ frs (e :: r) := by
      show L ∈ (e :: r).filterMap (·.frame)
      rw [List.filterMap_cons, h1]
      exact .head _
    exact ⟨k, ⟨L, o, h1, hn L (hs L mL), h4, h5⟩, fun_grd hn (fun b hb => hs b (m b hb)) h3⟩
section
variable {P : Program} {w : World} {K : PySem.W.Frag} {mg : Str → Option Value} {base : Heap} {A : Around} {outer : List Env} {s : Shared} {H : Hp}
/-- the ground of a call may be all that is not told -/
theorem env0_grd (e : Env0 P w K mg base A outer s H) : Env0 P w K mg (grd s.heap H (frs outer)) A outer s H ∧ ∀ b o, base.get? b = some o → (grd s.heap H (frs outer)).get? b = some o := by
  have up : ∀ b o, base.get? b = some o → (grd s.heap H (frs outer)).get? b = some o := fun b o q => grd_get (e.bs b o q).1 (e.bs b o q).2 fun hm => by
    rw [fun_not e.funs b hm] at q
    cases q
  refine ⟨⟨e.frames, ⟨e.mod.kin.keeps up, e.mod.glob.keeps up, ?_, e.mod.nolimit.keeps up⟩, fun b o q => of_grd q, ?_, fun_grd (fun b hb => PySem.W.hideAll_none _ hb) (fun b hb => hb) e.funs, e.frf, e.hok, e.bare⟩, up⟩
  · obtain ⟨mb, q, r⟩ := e.mod.blt
    exact ⟨mb, q.keeps up, r⟩
  · show (PySem.W.hideAll (hidT s.heap H) (frs outer)).objs.size ≤ _
    rw [PySem.W.hideAll_size, hidT_size]
    exact Nat.le_refl _
end
section
variable {X : Cx} {base' : Heap} {σ : L2.St} {HZ : Hp} {s1 : Shared}
/-- X over another ground -/
abbrev over (X : Cx) (B : Heap) : Cx := { X with base := B }
end
/-! ### a lambda as a value: told from its making on -/
structure LF where
  qual : Str
  params : Arguments
  body : Expr
  scope : Scope
  cl : List (Str × Addr)
  dV : Value
  c : Addr
abbrev LF.obj (F : LF) (doc pm ctv : Value) : Obj := PySem.W.kdv_obj "<lambda>" F.qual F.params (.expr F.body) F.scope F.cl F.dV doc pm F.c ctv
/-- at f: the lambda F -/
def LamO (f : Addr) (F : LF) : HO := .ext fun h => ∃ doc pm ctv : Value, h.get? f = some (F.obj doc pm ctv)
/-- at t: the tuple of its one default, 0 -/
def TupE (t : Addr) : HO := .ext fun h => ∃ tk : Tok, h.get? t = some (PySem.W.kdv_tup [.int 0 tk])
section
variable {X : Cx} {pins : List (Addr × Obj)} {σ : L2.St} {H : Hp} {s : Shared}
theorem inv_lam {F : LF} {t' : Nat} {doc pm ctv : Value} (I : Inv X pins σ H s) : Inv X pins σ (upd H s.heap.objs.size (LamO s.heap.objs.size F)) { s with heap := s.heap.push (F.obj doc pm ctv), toks := t' } := by
  refine I.laid (a := s.heap.objs.size) (fun b u e => Heap.get?_push_of_some _ e) (Nat.le_refl _) ?_
  have e : (s.heap.push (F.obj doc pm ctv)).get? s.heap.objs.size = some (F.obj doc pm ctv) := Heap.get?_push_size _ rfl
  exact ⟨⟨doc, pm, ctv, e⟩, ⟨_, e⟩, fun h1 h2 ⟨d, p, t, z⟩ st => ⟨d, p, t, st _ z⟩⟩
theorem inv_tupE {tk : Tok} (I : Inv X pins σ H s) : Inv X pins σ (upd H s.heap.objs.size (TupE s.heap.objs.size)) { s with heap := s.heap.push (PySem.W.kdv_tup [.int 0 tk]) } := by
  refine I.laid (t' := s.toks) (a := s.heap.objs.size) (fun b u e => Heap.get?_push_of_some _ e) (Nat.le_refl _) ?_
  have e : (s.heap.push (PySem.W.kdv_tup [.int 0 tk])).get? s.heap.objs.size = some (PySem.W.kdv_tup [.int 0 tk]) := Heap.get?_push_size _ rfl
  exact ⟨⟨tk, e⟩, ⟨_, e⟩, fun h1 h2 ⟨t, z⟩ st => ⟨t, st _ z⟩⟩
/-- the code objects of the table at P -/
def CodesOf (ps : Array Value) (q : Str) (H : Hp) : Prop := ∀ (pos : Pos) (cv : Value), codeAmong pos ps.toList = some cv → ∃ c, cv = .ref c ∧ H c = some (CodeO c q)
/-- the state behind the making of a lambda at f, of the code object at c' -/
structure LamNew (P : Addr) (q : Str) (ps : Array Value) (F : LF) (f : Addr) (H H1 : Hp) : Prop where
  keep : ∀ b o, b ≠ P → H b = some o → H1 b = some o
  tab : ∃ ps1 : Array Value, H1 P = some (.tbl ps1) ∧ TriplesOk ps1.toList ∧ ∀ (pos : Pos) (cv : Value), codeAmong pos ps1.toList = some cv → codeAmong pos ps.toList = some cv ∨ cv = .ref F.c
  old : H F.c = none ∨ ∃ pos, codeAmong pos ps.toList = some (.ref F.c)
  nf : H f = none
  f : H1 f = some (LamO f F)
  c : H1 F.c = some (CodeO F.c q)
theorem lam_mk {c P : Addr} {params : Arguments} {body : Expr} {scope : Scope} {dV : Value} {pos : Pos} {ps : Array Value} {E : Value → Shared → Prop} {Q : Value → Shared → Prop} (I : Inv X pins σ H s) (TB : TabB X.base X.mg c P) (hcode : X.env.code = .ref c)
    (hP : H P = some (.tbl ps)) (ht : TriplesOk ps.toList) (ha : CodesOf ps (X.env.qual ++ "<lambda>") H) (hfree : ∀ y ∈ scope.names, y.2 = .free → ∃ c, X.env.cells.lookup y.1 = some c)
    (h : ∀ (f c' : Addr) (H1 : Hp) (s' : Shared), Inv X pins σ H1 s' → LamNew P (X.env.qual ++ "<lambda>") ps ⟨X.env.qual ++ "<lambda>", params, body, scope, cloFrom X.env.cells scope.names [], dV, c'⟩ f H H1 → Q (.ref f) s') :
    wpAny (model X.prog X.w) X.A (makeTail "<lambda>" (X.env.qual ++ "<lambda>") params (.expr body) scope X.env dV .none none pos pos.line) Q E s := by
  have bP : s.heap.BuiltinsAt X.mg P := TB.bm.keeps I.bk
  have hP' : s.heap.get? P = some { cls := .none, data := .fields ps } := I.hok P _ hP
  cases hc : codeAmong pos ps.toList with
  | none =>
    refine PySem.W.kdv_makeTail (mg := X.mg) (c := c) (P := P) (ps := ps) (closure_ok hfree) I.ok.glob (I.mod.glob.keeps I.bk) hcode (TB.code.keeps I.bk) hP' ht hc TB.gP bP fun c' ctv doc h' tk hx hge hlt hrec htb => ?_
    obtain ⟨c2, oc, vs, t, e2, hoc, hd, hv⟩ := hrec
    cases e2
    have nC : H c' = none := I.hok.fresh hge
    have I1 := inv_table (t' := tk) (more := #[rawInt pos.line, rawInt pos.col, .ref c']) (h' := h') I hP (fun b o hb e => hx b o hb e) htb hge ⟨oc, vs, t, hoc, hd, hv⟩
    have hE : ∀ b o, b ≠ P → H b = some o → (upd (upd H P (.tbl (ps ++ #[rawInt pos.line, rawInt pos.col, .ref c']))) c' (CodeO c' (X.env.qual ++ "<lambda>"))) b = some o := fun b o n e => by
      rw [upd_ne (ne_of_none e nC), upd_ne n]
      exact e
    have eL : (ps ++ #[rawInt pos.line, rawInt pos.col, .ref c']).toList = ps.toList ++ [rawInt pos.line, rawInt pos.col, .ref c'] := by simp
    have nF := I1.hok.fresh (Nat.le_refl _)
    have I2 := inv_lam (F := ⟨X.env.qual ++ "<lambda>", params, body, scope, cloFrom X.env.cells scope.names [], dV, c'⟩) (t' := tk) (doc := doc) (pm := (X.mg "__name__").getD .none) (ctv := ctv) I1
    have kF : ∀ b o, (upd (upd H P (.tbl (ps ++ #[rawInt pos.line, rawInt pos.col, .ref c']))) c' (CodeO c' (X.env.qual ++ "<lambda>"))) b = some o → (upd (upd (upd H P (.tbl (ps ++ #[rawInt pos.line, rawInt pos.col, .ref c']))) c' (CodeO c' (X.env.qual ++ "<lambda>"))) h'.objs.size (LamO h'.objs.size ⟨X.env.qual ++ "<lambda>", params, body, scope, cloFrom X.env.cells scope.names [], dV, c'⟩)) b = some o := fun b o e => (upd_ne (ne_of_none e nF)).trans e
    refine h h'.objs.size c' _ _ I2 ⟨fun b o n e => kF _ _ (hE b o n e), ⟨_, kF _ _ ((upd_ne (ne_of_none hP nC)).trans upd_same), by rw [eL]; exact PySem.TriplesOk_snoc _ _ _ _ ht, fun p' cv hcv => ?_⟩, .inl nC, I.hok.fresh (Nat.le_trans hge (Nat.le_of_lt hlt)), upd_same, kF _ _ upd_same⟩
    rw [eL] at hcv
    exact among_app _ ht hcv
  | some cv =>
    obtain ⟨c', e, hco⟩ := ha pos cv hc
    subst e
    refine PySem.W.kdv_makeTailHit (mg := X.mg) (c := c) (P := P) (ps := ps) (closure_ok hfree) I.ok.glob (I.mod.glob.keeps I.bk) hcode (TB.code.keeps I.bk) hP' ht hc bP fun ctv doc h' tk hx hsz => ?_
    have I1 : Inv X pins σ H { s with heap := h', toks := tk } := I.kept hx
    have nF : H h'.objs.size = none := I1.hok.fresh (Nat.le_refl _)
    have I2 := inv_lam (F := ⟨X.env.qual ++ "<lambda>", params, body, scope, cloFrom X.env.cells scope.names [], dV, c'⟩) (t' := tk) (doc := doc) (pm := (X.mg "__name__").getD .none) (ctv := ctv) I1
    refine h h'.objs.size c' _ _ I2 ⟨fun b o n e => (upd_ne (ne_of_none e nF)).trans e, ⟨ps, (upd_ne (ne_of_none hP nF)).trans hP, ht, fun p' cv hcv => .inl hcv⟩, .inr ⟨pos, hc⟩, nF, upd_same, (upd_ne (ne_of_none hco nF)).trans hco⟩
end
/-- the reading of a lambda: without defaults, or with one, 0 -/
def tLamW (P : Addr) (q : Str) (mk : Value → Addr → LF) : TE := fun _ H Q => ∃ ps : Array Value, H P = some (.tbl ps) ∧ TriplesOk ps.toList ∧ CodesOf ps q H ∧ ∀ (f c' : Addr) (dV : Value) (H0 H1 : Hp), (dV = .none ∧ H0 = H ∨ ∃ t, dV = .ref t ∧ H t = none ∧ H0 = upd H t (TupE t)) → LamNew P q ps (mk dV c') f H0 H1 → Q (.ref f) H1
section
variable {X : Cx}
theorem pe_lamW {c P : Addr} {params : Arguments} {body : Expr} {scope : Scope} {pos : Pos} (TB : TabB X.base X.mg c P) (hcode : X.env.code = .ref c)
    (hfr : ∀ y ∈ scope.names, y.2 = .free → X.env.scope.names.lookup y.1 = some .cell ∨ X.env.scope.names.lookup y.1 = some .free) (hdef : defaultsOf params X.env = ([], [])) : PE X (.Lambda params body scope pos) (tLamW P (X.env.qual ++ "<lambda>") fun dV c' => ⟨X.env.qual ++ "<lambda>", params, body, scope, cloFrom X.env.cells scope.names [], dV, c'⟩) := by
  refine ⟨fun pins s σ H Q I h => ?_⟩
  obtain ⟨ps, hP, ht, ha, h⟩ := h
  have hfree : ∀ y ∈ scope.names, y.2 = .free → ∃ c, X.env.cells.lookup y.1 = some c := fun y hy e => (hfr y hy e).elim (fun z => I.ok.has _ (.inl z)) fun z => I.ok.has _ (.inr z)
  refine PySem.W.kla_eval hdef ?_
  rw [makeFunction_eq]
  simp only [List.zip_nil_right, List.filterMap_nil, List.isEmpty_nil, if_true, pure_bind]
  exact lam_mk I TB hcode hP ht ha hfree fun f c' H1 s' I1 N => ⟨.ref f, H1, I1, rfl, h f c' .none H H1 (.inl ⟨rfl, rfl⟩) N⟩
theorem pe_lamW1 {c P : Addr} {params : Arguments} {body e : Expr} {scope : Scope} {pos : Pos} (TB : TabB X.base X.mg c P) (hcode : X.env.code = .ref c)
    (hfr : ∀ y ∈ scope.names, y.2 = .free → X.env.scope.names.lookup y.1 = some .cell ∨ X.env.scope.names.lookup y.1 = some .free) (hds : params.defaults = [e]) (hk0 : params.kw_defaults = []) (he : PE X e (tC (.int 0))) :
    PE X (.Lambda params body scope pos) (tLamW P (X.env.qual ++ "<lambda>") fun dV c' => ⟨X.env.qual ++ "<lambda>", params, body, scope, cloFrom X.env.cells scope.names [], dV, c'⟩) := by
  refine ⟨fun pins s σ H Q I h => ?_⟩
  obtain ⟨ps, hP, ht, ha, h⟩ := h
  have hfree : ∀ y ∈ scope.names, y.2 = .free → ∃ c, X.env.cells.lookup y.1 = some c := fun y hy e => (hfr y hy e).elim (fun z => I.ok.has _ (.inl z)) fun z => I.ok.has _ (.inr z)
  refine PySem.W.kdv_lam (by rw [hds]; rfl) hk0 ?_
  rw [hds]
  refine PySem.W.kdv_all1 (thn (he.run pins s σ H (fun v H1 => v = .int 0 ∧ H1 = H) I ⟨rfl, rfl⟩) fun u s1 ⟨v, H1, I1, r1, q1⟩ => PySem.W.kdv_all0 ?_)
  obtain ⟨rfl, rfl⟩ := q1
  obtain ⟨tk, rfl⟩ := r1
  rw [makeFunction_eq]
  simp only [List.zip_nil_right, List.filterMap_nil, List.isEmpty_nil, List.isEmpty_cons, if_true, pure_bind, Bool.false_eq_true, if_false]
  refine wpAny_bind (wpAny_newTextTuple ?_)
  have I2 := inv_tupE (tk := tk) I1
  have nt : H1 s1.heap.objs.size = none := I1.hok.fresh (Nat.le_refl _)
  exact lam_mk I2 TB hcode ((upd_ne (ne_of_none hP nt)).trans hP) ht (fun p cv hc => let ⟨c, e1, e2⟩ := ha p cv hc; ⟨c, e1, (upd_ne (ne_of_none e2 nt)).trans e2⟩) hfree fun f c' H2 s' I3 N => ⟨.ref f, H2, I3, rfl, h f c' (.ref s1.heap.objs.size) _ H2 (.inr ⟨_, rfl, nt, rfl⟩) N⟩
end
end Lg
/-! ### a def called over all that is not told: tracked things given back to the ground for the call -/
namespace Lg
open PySem PySem.Spec PyProof.Rows L2 LamX
def undo (H : Hp) (D : List Addr) : Hp := fun b => if b ∈ D then none else H b
def redo (H' H1 : Hp) (D : List Addr) : Hp := fun b => if b ∈ D then H1 b else H' b
theorem undo_in {H : Hp} {D : List Addr} {b : Addr} (h : b ∈ D) : undo H D b = none := if_pos h
theorem undo_out {H : Hp} {D : List Addr} {b : Addr} (h : b ∉ D) : undo H D b = H b := if_neg h
theorem undo_none {H : Hp} {D : List Addr} {b : Addr} (h : H b = none) : undo H D b = none := by
  by_cases m : b ∈ D
  · exact undo_in m
  · rw [undo_out m]; exact h
theorem redo_in {H' H1 : Hp} {D : List Addr} {b : Addr} (h : b ∈ D) : redo H' H1 D b = H1 b := if_pos h
theorem redo_out {H' H1 : Hp} {D : List Addr} {b : Addr} (h : b ∉ D) : redo H' H1 D b = H' b := if_neg h
def ExtD (H : Hp) (D : List Addr) : Prop := ∀ b ∈ D, ∃ φ, H b = some (.ext φ)
theorem ExtD.off {H : Hp} {D : List Addr} (d : ExtD H D) {b : Addr} {o : HO} (e : H b = some o) (n : ∀ φ, o ≠ .ext φ) : b ∉ D := fun m => by
  obtain ⟨φ, q⟩ := d b m
  rw [e] at q
  exact n φ (Option.some.inj q)
section
variable {P : Program} {w : World} {H H' : Hp} {D : List Addr} {h h' : Heap}
theorem hok_undo (hok : HOk P w H h) (d : ExtD H D) : HOk P w (undo H D) h := fun b o e => by
  by_cases m : b ∈ D
  · rw [undo_in m] at e; cases e
  · rw [undo_out m] at e
    exact (hok b o e).stay (fun c u _ q => q) (fun c hc => by rw [undo_out (d.off hc (fun φ z => by cases z))]; exact hc) (fun c xs hc => by rw [undo_out (d.off hc (fun φ z => by cases z))]; exact hc)
theorem hok_redo (hok1 : HOk P w H h) (hok : HOk P w H' h') (d : ExtD H D) (hn : ∀ b ∈ D, H' b = none) (kp : ∀ b ∈ D, ∀ o, h.get? b = some o → h'.get? b = some o) : HOk P w (redo H' H D) h' := fun b o e => by
  by_cases m : b ∈ D
  · rw [redo_in m] at e
    obtain ⟨φ, q⟩ := d b m
    rw [q] at e
    cases e
    obtain ⟨z1, ⟨ob, z2⟩, z3⟩ := (show _ from hok1 b _ q)
    exact ⟨z3 _ _ z1 (fun o hq => kp b m o hq), ⟨ob, kp b m _ z2⟩, z3⟩
  · rw [redo_out m] at e
    have off : ∀ {c : Addr} {o : HO}, H' c = some o → c ∉ D := fun {c o} hc mc => by rw [hn c mc] at hc; cases hc
    exact (hok b o e).stay (fun c u _ q => q) (fun c hc => by rw [redo_out (off hc)]; exact hc) (fun c xs hc => by rw [redo_out (off hc)]; exact hc)
end
/-- the names' cells lie in B, with their values -/
structure CelB (X : Cx) (B : Heap) (σ : L2.St) : Prop where
  ok : X.Ok
  cell : ∀ y c, X.env.cells.lookup y = some c → ∃ v, B.IsCell c v
  val : ∀ (i : Nat) (y : Str) (v : V), X.N[i]? = some y → σ[i]? = some (some v) → (X.env.scope.names.lookup y = some .cell ∨ X.env.scope.names.lookup y = some .free) → ∃ c u, X.env.cells.lookup y = some c ∧ RelV v u ∧ B.IsCell c (some u)
  len : σ.length = X.N.length
section
variable {X : Cx} {pins : List (Addr × Obj)} {σ : L2.St} {H : Hp} {s : Shared}
theorem cel_of (I : Inv X pins σ H s) (hcab : ∀ y c, X.env.cells.lookup y = some c → X.s_0.heap.objs.size ≤ c) {D : List Addr} : CelB X (grd s.heap (undo H D) (frs X.stack)) σ := by
  have nofr : ∀ y c, X.env.cells.lookup y = some c → ∀ v, s.heap.IsCell c v → c ∉ frs X.stack := fun y c e v ⟨o, ho, hd⟩ hm => by
    rcases List.mem_cons.mp (I.stkSub c hm) with q | q
    · obtain ⟨m, ⟨o2, es, ep, h2, d2, _⟩, _⟩ := I.loc
      rw [q, h2] at ho
      cases ho
      rw [hd] at d2
      cases d2
    · obtain ⟨_, o2, h2, _⟩ := I.ok.funs.mem q
      exact Nat.lt_irrefl _ (Nat.lt_of_lt_of_le (Heap.lt_size h2) (hcab y c e))
  have up : ∀ y c, X.env.cells.lookup y = some c → ∀ v, s.heap.IsCell c v → (grd s.heap (undo H D) (frs X.stack)).IsCell c v := fun y c e v hc => by
    have n := nofr y c e v hc
    obtain ⟨o, ho, hd⟩ := hc
    exact ⟨o, grd_get ho (undo_none (I.freeC y c e)) n, hd⟩
  refine ⟨I.ok, fun y c e => ?_, fun i y v e1 e2 hk => ?_, I.len⟩
  · obtain ⟨v, hv⟩ := I.cell y c e
    exact ⟨v, up y c e v hv⟩
  · obtain ⟨m, hn, hl⟩ := I.loc
    obtain ⟨u, r, q⟩ := hl i y v e1 e2 (hk.elim (fun z => .inr (.inl z)) (fun z => .inr (.inr z)))
    rcases q with ⟨k', _⟩ | ⟨_, c, e', z⟩
    · have k' : X.env.scope.names.lookup y = some .local := k'
      rcases hk with k2 | k2 <;> rw [k2] at k' <;> cases k'
    · exact ⟨c, u, e', r, up y c e' _ z⟩
end
def tCallG (X : Cx) (sp : Heap → Sp) (t : TA) : TE := fun σ H Q => t σ H fun vs H1 => ∃ D : List Addr, ExtD H1 D ∧ ∀ B : Heap, (∀ b ∈ D, ∀ φ, H1 b = some (.ext φ) → φ B) → CelB X B σ → (∀ b o, X.base.get? b = some o → B.get? b = some o) →
  sp B vs (undo H1 D) (fun v H' => (∀ b ∈ D, H' b = none) → Q v (redo H' H1 D)) (fun _ _ _ => False)
section
variable {X : Cx} {k : Nat} {f : Addr} {fd : FuncData} {ps : List Str} {sp : Heap → Sp} {x : Str} {p pos : Pos} {e : Expr} {es : List Expr} {t : TA}
/-- f(e, ..), what f promises told of the ground -/
theorem pe_callG (F : ∀ B : Heap, (∀ b o, X.base.get? b = some o → B.get? b = some o) → FnOk X.prog X.w X.K X.mg B CX0 k f fd ps (sp B)) (hcab : ∀ y c, X.env.cells.lookup y = some c → X.s_0.heap.objs.size ≤ c) (hr : Room k X.A) (hg : Gl X x) (hm : X.mg x = some (.ref f))
    (hk : PySem.W.keepIn X.K (.ref f) = true) (hb : Binds X.K fd ps []) (ha : PA X (e :: es) t) (hdb : (x == ("__debug__" : Str)) = false := by decide) (he : starEach (e :: es) X.env = (false, eval e X.env) :: starEach es X.env := by rfl) (hpl : (backTo pos (starEach es X.env)).any (·.1) = false := by rfl) :
    PE X (.Call (.Name x p) (e :: es) [] pos) (tCallG X sp t) := by
  refine ⟨fun pins s σ H Q I h => ?_⟩
  refine wpAny_Call_Name_kw (ld_glob I hg hm ?_ hdb)
  refine PySem.W.callWith_K (h₀ := X.base) I.ok.mod.kin hk (thn (ha.run pos pins s σ H _ I h) fun us s1 ⟨vs, H1, I1, r, D, hD, q⟩ => ⟨I1.kIn, ?_⟩) he hpl
  have e1 := I1.env0
  have e2 : Env0 X.prog X.w X.K X.mg X.base X.A X.stack s1 (undo H1 D) := ⟨e1.frames, e1.mod, fun b o z => ⟨(e1.bs b o z).1, undo_none (e1.bs b o z).2⟩, e1.bsz, e1.funs, fun b hb => undo_none (e1.frf b hb), hok_undo e1.hok hD, e1.bare⟩
  obtain ⟨e3, up⟩ := env0_grd e2
  have nfr : ∀ b ∈ D, b ∉ frs X.stack := fun b m hf => by
    obtain ⟨φ, z⟩ := hD b m
    rw [e1.frf b hf] at z
    cases z
  have hφ : ∀ b ∈ D, ∀ φ, H1 b = some (.ext φ) → φ (grd s1.heap (undo H1 D) (frs X.stack)) := fun b m φ z => by
    obtain ⟨z1, _, z3⟩ := (show _ from e1.hok b _ z)
    exact z3 _ _ z1 fun o ho => grd_get ho (undo_in m) (nfr b m)
  have hs := q _ hφ (cel_of I1 hcab) up
  have FB := F _ up
  have hl : us.length = ps.length := by rw [← r.length]; exact FB.len _ _ _ _ hs
  have b := hb s1 us I1.kIn (by rw [List.append_nil]; exact hl)
  rw [List.append_nil] at b
  refine wpAny_call (codeAny_mono (FB.run X.A X.stack s1 (undo H1 D) ⟨us, []⟩ us vs _ _ hr e3 b r hs) fun r s' hq => ?_)
  cases r with
  | error e => exact False.elim hq
  | ok fl =>
    cases fl with
    | ret u =>
      obtain ⟨v, H', os, bare, un, hok, rv, q2⟩ := hq
      have hn : ∀ b ∈ D, H' b = none := fun b m => by
        obtain ⟨φ, z⟩ := hD b m
        obtain ⟨_, ⟨o, ho⟩, _⟩ := (show _ from e1.hok b _ z)
        exact un.free b o ho (undo_in m) (by simp)
      have un2 : Un (frs X.stack) [] H1 (redo H' H1 D) s1.heap s'.heap :=
        { keep := fun b o z n h1 h2 => un.keep b o z (undo_none n) h1 h2
          slot := fun b o z n h1 h2 => un.slot b o z (undo_none n) h1 h2
          free := fun b o z n h2 => by
            have m : b ∉ D := fun m => by
              obtain ⟨φ, y⟩ := hD b m
              rw [n] at y
              cases y
            rw [redo_out m]
            exact un.free b o z (undo_none n) h2
          there := fun b o z h2 => un.there b o z h2
          tups := fun b xs z => by
            have m := hD.off z (fun φ y => by cases y)
            rw [redo_out m]
            exact un.tups b xs ((undo_out m).trans z)
          frzs := fun b o u z => by
            have m := hD.off z (fun φ y => by cases y)
            rw [redo_out m]
            exact un.frzs b o u ((undo_out m).trans z)
          tbls := fun b qs z => by
            have m := hD.off z (fun φ y => by cases y)
            rw [redo_out m]
            exact un.tbls b qs ((undo_out m).trans z) }
      exact I1.after ⟨v, redo H' H1 D, os, bare, un2, hok_redo e1.hok hok hD hn (fun b m o ho => un.keep b o ho (undo_in m) (nfr b m) (by simp)), rv, q2 hn⟩
    | next => exact False.elim hq
    | brk => exact False.elim hq
    | cont => exact False.elim hq
end
/-! ### a lambda in the ground, with or without a default -/
/-- its names: captured ones, globals, parameters that the maker does not know -/
structure LamS1 (sc scope : Scope) (N bs : List Str) : Prop where
  kind : scope.kind = .function
  co : scope.isCoroutine = false
  gen : scope.isGenerator = false
  nocell : ∀ y ∈ scope.names, y.2 ≠ .cell
  loc : ∀ y ∈ scope.names, y.2 = .local → y.1 ∉ N
  free : ∀ y ∈ scope.names, y.2 = .free → sc.names.lookup y.1 = some .cell ∨ sc.names.lookup y.1 = some .free
  bind : ∀ b ∈ bs, scope.names.lookup b = some .local
def lamS1B (sc scope : Scope) (N bs : List Str) : Bool :=
  decide (scope.kind = .function) && !scope.isCoroutine && !scope.isGenerator && (scope.names.all fun y => !decide (y.2 = .cell) && (!decide (y.2 = .local) || !decide (y.1 ∈ N)) && (!decide (y.2 = .free) || decide (sc.names.lookup y.1 = some .cell) || decide (sc.names.lookup y.1 = some .free))) && bs.all fun b => decide (scope.names.lookup b = some .local)
theorem lamS1_by {sc scope : Scope} {N bs : List Str} (h : lamS1B sc scope N bs = true) : LamS1 sc scope N bs := by
  unfold lamS1B at h
  simp only [Bool.and_eq_true, Bool.or_eq_true, Bool.not_eq_true', decide_eq_true_eq, decide_eq_false_iff_not, List.all_eq_true] at h
  obtain ⟨⟨⟨⟨h1, h2⟩, h3⟩, h4⟩, h5⟩ := h
  refine ⟨h1, h2, h3, fun y hy => (h4 y hy).1.1, fun y hy e => (h4 y hy).1.2.elim (fun z => absurd e z) id, fun y hy e => ?_, h5⟩
  rcases (h4 y hy).2 with (z | z) | z
  · exact absurd e z
  · exact .inl z
  · exact .inr z
/-- what the call of the lambda at f does, over the ground B -/
def LamB (P : Program) (w : World) (K : PySem.W.Frag) (mg : Str → Option Value) (B : Heap) (k : Nat) (f : Addr) (tl : XK → Hp → VK → Prop) : Prop :=
  (∃ (od : Option Addr) (fd : FuncData) (sl : Array (Option Value)), B.get? f = some (⟨.type "function", od, .func fd, sl⟩ : Obj)) ∧
  ∀ (A : Around) (outer : List Env) (s : Shared) (HZ : Hp) (Q : VK) (E : XK), Room k A → Env0 P w K mg B A outer s HZ → tl E HZ Q → codeAny (model P w) A (.call (.ref f) ⟨[], []⟩) (CR (L2.CX P w) outer P w HZ s Q E) s
section
variable {X : Cx} {B : Heap} {σ : L2.St} {HZ : Hp} {s1 : Shared}
theorem lam_startG {A : Around} {outer : List Env} {E : XK} {scope : Scope} {bs : List Str} {f c' : Addr} {h₁ : Heap} {tk : Nat} {m : Str → Option Value} (C : CelB X B σ) (L : LamS1 X.env.scope scope X.N bs) (e0 : Env0 X.prog X.w X.K X.mg B A outer s1 HZ) (hd : A.handled = none)
    (hns : h₁.Ns s1.heap.objs.size m) (kp : ∀ b o, s1.heap.get? b = some o → h₁.get? b = some o) :
    Inv (lamCx (over X B) A outer s1 HZ E scope f c') [] σ HZ { s1 with heap := h₁, toks := tk } := by
  have ok := C.ok
  have hfree : ∀ y ∈ scope.names, y.2 = .free → ∃ c, X.env.cells.lookup y.1 = some c := fun y hy e => (L.free y hy e).elim (fun z => ok.has _ (.inl z)) fun z => ok.has _ (.inr z)
  have cm : ∀ {y c}, (cloFrom X.env.cells scope.names []).lookup y = some c → X.env.cells.lookup y = some c := fun {y c} e => by
    rcases cloFrom_mem (PySem.mem_of_lookup e) with hm | ⟨h1, h2⟩
    · cases hm
    · obtain ⟨c1, hc⟩ := hfree _ h1 rfl
      have hc : X.env.cells.lookup y = some c1 := hc
      have e2 : c = c1 := by
        rw [h2, hc] <;> rfl
      rw [e2]
      exact hc
  have look : ∀ {y}, scope.names.lookup y = some .free → ∃ c, (cloFrom X.env.cells scope.names []).lookup y = some c := fun {y} hl => by
    have hy : (y, NameKind.free) ∈ scope.names := PySem.mem_of_lookup hl
    exact mem_lookup (cloFrom_has (cells := X.env.cells) (acc := []) hy)
  have cellK : ∀ {c : Addr} {v : Option Value}, B.IsCell c v → h₁.IsCell c v := fun {c v} ⟨o, ho, hd⟩ => ⟨_, kp _ _ (e0.bs _ _ ho).1, hd⟩
  have noA : ∀ b : Addr, b ∉ (lamCx (over X B) A outer s1 HZ E scope f c').ex := fun b z => absurd (show b ∈ ([] : List Addr) from z) (by simp)
  refine ⟨⟨e0.mod, L.kind, rfl, rfl, Nat.le_refl _, fun y z c e1 e2 => ok.inj y z c (cm e1) (cm e2), fun y hy => ?_, fun y c z _ => ?_, fun _ => hd, Around.frames_deeper e0.frames, .inr ⟨rfl, rfl⟩, fun b z => absurd z (noA b), e0.bs, e0.bsz, fun b _ _ => noA b,
      fun b z => absurd z (noA b), e0.funs, e0.frf⟩,
    rfl, e0.bare, Un.kept kp, ⟨_, hns, fun i y v e1 e2 e3 => ?_⟩, fun y c e => ?_, e0.hok.fresh (Nat.le_refl _), fun y c e => ?_, fun q hq => absurd (show q ∈ ([] : List (Addr × Obj)) ++ [] from hq) (by simp), e0.hok.kept kp, C.len⟩
  · have hy : scope.names.lookup y = some .cell ∨ scope.names.lookup y = some .free := hy
    rcases hy with hy | hy
    · exact absurd rfl (L.nocell _ (PySem.mem_of_lookup hy))
    · exact look hy
  · have z : false = true := z
    cases z
  · have e1 : X.N[i]? = some y := e1
    have e3 : Vis scope y := e3
    rcases e3 with k | k | k
    · exact absurd (List.mem_of_getElem? e1) (L.loc _ (PySem.mem_of_lookup k) rfl)
    · exact absurd rfl (L.nocell _ (PySem.mem_of_lookup k))
    · obtain ⟨c, u, h1, h2, h3⟩ := C.val i y v e1 e2 (L.free _ (PySem.mem_of_lookup k) rfl)
      obtain ⟨c2, h4⟩ := look k
      have h5 := cm h4
      rw [h1] at h5
      cases h5
      exact ⟨u, h2, .inr ⟨.inr k, c, h4, cellK h3⟩⟩
  · obtain ⟨v, h⟩ := C.cell y c (cm e)
    exact ⟨v, cellK h⟩
  · obtain ⟨v, o, ho, _⟩ := C.cell y c (cm e)
    exact (e0.bs c o ho).2
theorem lam_fnG {k : Nat} {f c' : Addr} {doc pm ctv dV : Value} {params : Arguments} {body : Expr} {scope : Scope} {t : XK → TE} {bs : List (Str × Value)} (C : CelB X B σ) (L : LamS1 X.env.scope scope X.N (bs.map (·.1)))
    (hf : B.get? f = some (LF.obj ⟨X.env.qual ++ "<lambda>", params, body, scope, cloFrom X.env.cells scope.names [], dV, c'⟩ doc pm ctv)) (hco : ∃ (oc : Obj) (vs : Array Value) (tk : Tok), B.get? c' = some oc ∧ oc.data = .fields vs ∧ vs[1]? = some (.str (X.env.qual ++ "<lambda>") tk))
    (hb : ∀ s : Shared, (∀ b o, B.get? b = some o → s.heap.get? b = some o) → BindsTo s (PySem.W.kdv_fn "<lambda>" (X.env.qual ++ "<lambda>") params (.expr body) scope (cloFrom X.env.cells scope.names []) dV doc pm (.ref c') ctv) ⟨[], []⟩ bs)
    (hbody : ∀ (A : Around) (outer : List Env) (s : Shared) (H : Hp) (E : XK), Room k (A.deeper (lamEnv (over X B) scope s.heap.objs.size f c')) → PE (lamCx (over X B) A outer s H E scope f c') body (t E)) :
    LamB X.prog X.w X.K X.mg B (k + 1) f (fun E H Q => t E σ H Q) := by
  refine ⟨⟨_, _, _, hf⟩, fun A outer s1 HZ Q E hr e0 ht => ?_⟩
  have of1 := (e0.bs _ _ hf).1
  obtain ⟨oc, vs, tk, hoc, hdc, hvc⟩ := hco
  have hoc1 := (e0.bs _ _ hoc).1
  have nolim : s1.heap.NoLimit := e0.mod.nolimit.keeps fun b o q => (e0.bs b o q).1
  refine PySem.W.kla_callFunE hr.depth of1 rfl L.co L.gen rfl ⟨c', oc, vs, tk, rfl, hoc1, hdc, hvc⟩ ?_
  refine hb s1 (fun b o q => (e0.bs b o q).1) _ _ _ _ ?_
  refine wpAny_newFunctionEnv (fun y hy => L.nocell y hy) (fun y hy => L.bind _ (List.mem_map_of_mem hy)) (fun h₁ hns hsb => ⟨nolim.fresh _ hsb, ?_⟩) L.kind
  show codeAny _ _ (.expr body (lamEnv X scope s1.heap.objs.size f c')) _ _
  have kp : ∀ b o, s1.heap.get? b = some o → h₁.get? b = some o := fun b o e => hsb.extBut b o (Nat.ne_of_lt (Heap.lt_size e)) (Heap.get?_push_of_some _ e)
  have J : Inv (lamCx (over X B) A outer s1 HZ E scope f c') [] σ HZ { s1 with heap := h₁, toks := s1.toks + bs.length } := lam_startG C L e0 hr.hd hns kp
  refine PySem.W.kla_codeExpr (wpAny_mono ((hbody _ _ s1 HZ E (hr.deeper _)).run [] _ _ HZ Q J ht) (fun v s' hq => ?_) fun e s' hq => hq)
  obtain ⟨w', H', J', rv, q⟩ := hq
  exact ⟨w', H', J'.os, J'.bare, J'.base, J'.hok, rv, q⟩
end
section
variable {Z : Cx} {k i : Nat} {f : Addr} {tl : XK → Hp → VK → Prop} {W : WX} {E : XK} {a : Str} {p1 p2 : Pos}
/-- x(), x a lambda in the ground -/
theorem pe_actB (LB : LamB Z.prog Z.w Z.K Z.mg Z.base k f tl) (hr : Room k Z.A) (tk : Takes Z W) (hW : ∀ cls d σ H, E cls d H → W cls d σ H) (hN : Z.N[i]? = some a) (hv : Vis Z.env.scope a) (hd : (a == ("__debug__" : Str)) = false := by decide) (hcd : (a == ("__classdict__" : Str)) = false := by decide) :
    PE Z (.Call (.Name a p1) [] [] p2) (fun σ H Q => σ[i]? = some (some (.ref f)) ∧ tl E H Q) := by
  refine ⟨fun pins s σ H Q I h => ?_⟩
  obtain ⟨hs, ht⟩ := h
  obtain ⟨⟨od, fd, sl, hf⟩, run⟩ := LB
  refine wpAny_Call_Name_kw (thn ((pe_var (pos := p1) (i := i) hN hv hd hcd).run pins s σ H (fun v H1 => v = .ref f ∧ H1 = H) I ⟨.ref f, hs, rfl, rfl⟩) fun u s1 ⟨v, H1, I1, r1, q1⟩ => ?_)
  obtain ⟨ev, eH⟩ := q1
  subst ev
  rw [eH] at I1
  obtain rfl : u = Value.ref f := r1
  refine PySem.W.callWith_F0 ⟨_, _, _, _, I1.bk _ _ hf⟩ ?_
  refine wpAny_call (codeAny_mono (run Z.A Z.stack s1 H Q E hr I1.env0 ht) fun r s' hq => ?_)
  cases r with
  | error e => exact passes_call tk hW pins σ H s1 e s' I1 hq
  | ok fl =>
    cases fl with
    | ret u => exact I1.after hq
    | next => exact False.elim hq
    | brk => exact False.elim hq
    | cont => exact False.elim hq
end
end Lg
/-! PL: values as trees, mutable things as cells; what a Python text does to them, without the heap -/
namespace PL
open PySem L2
/-- the class of that name -/
def clsAt (K : PySem.W.Frag) (c : Str) : Addr := match PySem.W.nsIn K mainGlobals c with
  | some (some (.ref C)) => C
  | _ => 0
theorem clsAt_of {K : PySem.W.Frag} {c : Str} {C : Addr} (h : PySem.W.nsIn K mainGlobals c = some (some (.ref C))) : clsAt K c = C := by
  unfold clsAt
  rw [h]
/-- a value as it stands for good; scr: the script -/
inductive D where
  | non | bl (b : Bool) | int (i : Int) | str (z : Str) | ty (n : String) | opq (a : Addr)
  | scr | cls (c : Str) | lst (xs : List D) | tup (xs : List D) | dic (kvs : List (Key × D)) | ins (c : Str) (fs : List (Str × D))
/-- a value: for good, or the k-th cell -/
inductive B where
  | fz (d : D) | mt (k : Nat)
/-- a lambda: what is written of it, the cells that it holds -/
structure LamD where
  qual : Str
  params : Arguments
  body : Expr
  scope : Scope
  cl : List (Str × Addr)
/-- what may still change; lams: a list of lambdas; tab: the table of code objects of a def that makes lambdas -/
inductive Cell where
  | lst (xs : List B) | dic (kvs : List (Key × B)) | ins (c : Str) (fs : List (Str × B)) | bag | dead | kset (P : Program) (wo : World) (T : Key → Bool) (n : Nat) | lams (Ls : List LamD) | tab (P : Addr) (q : Str)
abbrev Sto := List Cell
abbrev Ev := List (Option B)
mutual
inductive Den (K : PySem.W.Frag) (F : Hp) : D → V → Prop
  | non : Den K F .non .non
  | bl (b : Bool) : Den K F (.bl b) (.bl b)
  | int (i : Int) : Den K F (.int i) (.int i)
  | str (z : Str) : Den K F (.str z) (.str z)
  | ty (n : String) : Den K F (.ty n) (.ty n)
  | opq (a : Addr) : Den K F (.opq a) (.ref a)
  | scr {a : Addr} {ns : List Int} : SqL K F a (ns.map V.int) → ns.length ≤ 63 → Den K F .scr (.ref a)
  | cls (c : Str) : Den K F (.cls c) (.ref (clsAt K c))
  | lst {a : Addr} {ds : List D} {vs : List V} : F a = some (.lst vs) → DenL K F ds vs → Den K F (.lst ds) (.ref a)
  | tup {a : Addr} {ds : List D} {vs : List V} : SqT K F a vs → DenL K F ds vs → Den K F (.tup ds) (.ref a)
  | dic {a : Addr} {o : Obj} {ds : List (Key × D)} {vs : List (Key × V)} : F a = some (.frz o (.dK vs)) → DenK K F ds vs → Den K F (.dic ds) (.ref a)
  | ins {a dx : Addr} {c : Str} {ds : List (Str × D)} {vs : List (Str × V)} : F a = some (.ins (clsAt K c) dx vs) → DenF K F ds vs → Den K F (.ins c ds) (.ref a)
inductive DenL (K : PySem.W.Frag) (F : Hp) : List D → List V → Prop
  | nil : DenL K F [] []
  | cons {d : D} {v : V} {ds : List D} {vs : List V} : Den K F d v → DenL K F ds vs → DenL K F (d :: ds) (v :: vs)
inductive DenK (K : PySem.W.Frag) (F : Hp) : List (Key × D) → List (Key × V) → Prop
  | nil : DenK K F [] []
  | cons {k : Key} {d : D} {v : V} {ds : List (Key × D)} {vs : List (Key × V)} : Den K F d v → DenK K F ds vs → DenK K F ((k, d) :: ds) ((k, v) :: vs)
inductive DenF (K : PySem.W.Frag) (F : Hp) : List (Str × D) → List (Str × V) → Prop
  | nil : DenF K F [] []
  | cons {k : Str} {d : D} {v : V} {ds : List (Str × D)} {vs : List (Str × V)} : Den K F d v → DenF K F ds vs → DenF K F ((k, d) :: ds) ((k, v) :: vs)
end
theorem sqL_same {K : PySem.W.Frag} {F F' : Hp} (s : Same F F') {a : Addr} {xs : List V} (h : SqL K F a xs) : SqL K F' a xs := s.seq h
theorem sqT_same {K : PySem.W.Frag} {F F' : Hp} (s : Same F F') {a : Addr} {xs : List V} (h : SqT K F a xs) : SqT K F' a xs := by
  rcases h with (h | ⟨o, h⟩) | h
  · exact .inl (.inl (s _ _ h))
  · exact .inl (.inr ⟨o, s _ _ h⟩)
  · exact .inr h
section
variable {K : PySem.W.Frag} {F F' : Hp}
mutual
theorem Den.mono (s : Same F F') {d : D} {v : V} : Den K F d v → Den K F' d v
  | .non => .non
  | .bl b => .bl b
  | .int i => .int i
  | .str z => .str z
  | .ty n => .ty n
  | .opq a => .opq a
  | .scr h l => .scr (sqL_same s h) l
  | .cls c => .cls c
  | .lst h l => .lst (s _ _ h) (DenL.mono s l)
  | .tup h l => .tup (sqT_same s h) (DenL.mono s l)
  | .dic h l => .dic (s _ _ h) (DenK.mono s l)
  | .ins h l => .ins (s _ _ h) (DenF.mono s l)
theorem DenL.mono (s : Same F F') {ds : List D} {vs : List V} : DenL K F ds vs → DenL K F' ds vs
  | .nil => .nil
  | .cons h t => .cons (Den.mono s h) (DenL.mono s t)
theorem DenK.mono (s : Same F F') {ds : List (Key × D)} {vs : List (Key × V)} : DenK K F ds vs → DenK K F' ds vs
  | .nil => .nil
  | .cons h t => .cons (Den.mono s h) (DenK.mono s t)
theorem DenF.mono (s : Same F F') {ds : List (Str × D)} {vs : List (Str × V)} : DenF K F ds vs → DenF K F' ds vs
  | .nil => .nil
  | .cons h t => .cons (Den.mono s h) (DenF.mono s t)
end
theorem DenL.length : ∀ {ds : List D} {vs : List V}, DenL K F ds vs → ds.length = vs.length
  | _, _, .nil => rfl
  | _, _, .cons _ t => congrArg (· + 1) (DenL.length t)
theorem DenL.app : ∀ {ds es : List D} {vs ws : List V}, DenL K F ds vs → DenL K F es ws → DenL K F (ds ++ es) (vs ++ ws)
  | _, _, _, _, .nil, h => h
  | _, _, _, _, .cons a t, h => .cons a (DenL.app t h)
theorem DenL.get : ∀ {ds : List D} {vs : List V}, DenL K F ds vs → ∀ {i : Nat} {v : V}, vs[i]? = some v → ∃ d, ds[i]? = some d ∧ Den K F d v
  | _, _, .nil, _, _, e => by cases e
  | _, _, .cons a _, 0, _, e => ⟨_, rfl, by cases e; exact a⟩
  | _, _, .cons _ t, i + 1, _, e => DenL.get t (i := i) e
theorem DenL.getD : ∀ {ds : List D} {vs : List V}, DenL K F ds vs → ∀ {i : Nat} {d : D}, ds[i]? = some d → ∃ v, vs[i]? = some v ∧ Den K F d v
  | _, _, .nil, _, _, e => by cases e
  | _, _, .cons a _, 0, _, e => ⟨_, rfl, by cases e; exact a⟩
  | _, _, .cons _ t, i + 1, _, e => DenL.getD t (i := i) e
theorem DenL.drop : ∀ (n : Nat) {ds : List D} {vs : List V}, DenL K F ds vs → DenL K F (ds.drop n) (vs.drop n)
  | 0, _, _, h => h
  | _ + 1, _, _, .nil => .nil
  | n + 1, _, _, .cons _ t => DenL.drop n t
theorem DenL.take : ∀ (n : Nat) {ds : List D} {vs : List V}, DenL K F ds vs → DenL K F (ds.take n) (vs.take n)
  | 0, _, _, _ => .nil
  | _ + 1, _, _, .nil => .nil
  | n + 1, _, _, .cons a t => .cons a (DenL.take n t)
theorem DenL.rev : ∀ {ds : List D} {vs : List V}, DenL K F ds vs → DenL K F ds.reverse vs.reverse
  | _, _, .nil => .nil
  | _, _, .cons a t => by rw [List.reverse_cons, List.reverse_cons]; exact DenL.app (DenL.rev t) (.cons a .nil)
end
/-- the cells' addresses, what is for good, the heap -/
structure Wd where
  m : Nat → Addr
  F : Hp
  H : Hp
def DenB (K : PySem.W.Frag) (n : Nat) (w : Wd) : B → V → Prop
  | .fz d, v => Den K w.F d v
  | .mt k, v => k < n ∧ v = .ref (w.m k)
inductive DenBL (K : PySem.W.Frag) (n : Nat) (w : Wd) : List B → List V → Prop
  | nil : DenBL K n w [] []
  | cons {b : B} {v : V} {bs : List B} {vs : List V} : DenB K n w b v → DenBL K n w bs vs → DenBL K n w (b :: bs) (v :: vs)
inductive DenBK (K : PySem.W.Frag) (n : Nat) (w : Wd) : List (Key × B) → List (Key × V) → Prop
  | nil : DenBK K n w [] []
  | cons {k : Key} {b : B} {v : V} {bs : List (Key × B)} {vs : List (Key × V)} : DenB K n w b v → DenBK K n w bs vs → DenBK K n w ((k, b) :: bs) ((k, v) :: vs)
inductive DenBF (K : PySem.W.Frag) (n : Nat) (w : Wd) : List (Str × B) → List (Str × V) → Prop
  | nil : DenBF K n w [] []
  | cons {k : Str} {b : B} {v : V} {bs : List (Str × B)} {vs : List (Str × V)} : DenB K n w b v → DenBF K n w bs vs → DenBF K n w ((k, b) :: bs) ((k, v) :: vs)
/-- at f: that lambda -/
def LamFs (F : Hp) (f : Addr) (L : LamD) : Prop := ∃ (dV : Value) (c' : Addr), F f = some (Lg.LamO f ⟨L.qual, L.params, L.body, L.scope, L.cl, dV, c'⟩) ∧ F c' = some (LamX.CodeO c' L.qual) ∧ (dV = .none ∨ ∃ t, dV = .ref t ∧ F t = some (Lg.TupE t))
theorem LamFs.mono {F F' : Hp} (s : Same F F') {f : Addr} {L : LamD} : LamFs F f L → LamFs F' f L
  | ⟨dV, c', h1, h2, h3⟩ => ⟨dV, c', s _ _ h1, s _ _ h2, h3.imp id fun ⟨t, e, h⟩ => ⟨t, e, s _ _ h⟩⟩
def CellOk (K : PySem.W.Frag) (n : Nat) (w : Wd) (a : Addr) : Cell → Prop
  | .lst bs => ∃ vs, w.H a = some (.lst vs) ∧ DenBL K n w bs vs
  | .dic bs => ∃ vs, w.H a = some (.dK vs) ∧ DenBK K n w bs vs
  | .ins c bs => ∃ dx vs, w.H a = some (.ins (clsAt K c) dx vs) ∧ DenBF K n w bs vs
  | .bag => ∃ (q : Addr) (cells : List Int) (i : Nat) (b s c : Int), w.H a = some (.lst [.ref q, .int (i : Nat), .int b, .int s, .int c]) ∧ w.F q = some (.lst (cells.map V.int)) ∧ cells.length ≤ 63 ∧ i ≤ cells.length ∧ 0 ≤ b ∧ 0 ≤ s ∧ s < 2147483579
  | .dead => True
  | .kset P wo T n => w.H a = some (SetK P wo a T n)
  | .lams Ls => ∃ fs : List Addr, w.H a = some (.lst (fs.map V.ref)) ∧ Paired (LamFs w.F) fs Ls
  | .tab P q => a = P ∧ ∃ ps : Array Value, w.H a = some (.tbl ps) ∧ PySem.TriplesOk ps.toList ∧ Lg.CodesOf ps q w.F
/-- the entry: the heap without the cells that came along, what was for good, their addresses -/
structure Base where
  H0 : Hp
  F0 : Hp
  m0 : Nat → Addr
  n0 : Nat
structure Live (K : PySem.W.Frag) (n : Nat) (w : Wd) (H0 : Hp) (a : Addr) (c : Cell) : Prop where
  nf : w.F a = none
  n0 : H0 a = none
  ok : CellOk K n w a c
structure Rel (K : PySem.W.Frag) (β : Base) (S : Sto) (w : Wd) : Prop where
  fr : Same w.F w.H
  keep : Same β.H0 w.H
  f0 : Same β.F0 w.F
  fn : ∀ a o, w.F a = some o → β.F0 a = some o ∨ β.H0 a = none
  m0 : ∀ k, k < β.n0 → w.m k = β.m0 k
  n0 : β.n0 ≤ S.length
  live : ∀ k c, S[k]? = some c → c ≠ .dead → Live K S.length w β.H0 (w.m k) c
  inj : ∀ i j ci cj, S[i]? = some ci → S[j]? = some cj → ci ≠ .dead → cj ≠ .dead → w.m i = w.m j → i = j
structure Later (n : Nat) (w : Wd) (n' : Nat) (w' : Wd) : Prop where
  le : n ≤ n'
  m : ∀ k, k < n → w'.m k = w.m k
  F : Same w.F w'.F
theorem Later.refl (n : Nat) (w : Wd) : Later n w n w := ⟨Nat.le_refl _, fun _ _ => rfl, .refl _⟩
theorem Later.trans {n n1 n2 : Nat} {w w1 w2 : Wd} (a : Later n w n1 w1) (b : Later n1 w1 n2 w2) : Later n w n2 w2 :=
  ⟨Nat.le_trans a.le b.le, fun k h => (b.m k (Nat.lt_of_lt_of_le h a.le)).trans (a.m k h), a.F.trans b.F⟩
section
variable {K : PySem.W.Frag} {n n' : Nat} {w w' : Wd}
theorem DenB.later (l : Later n w n' w') {b : B} {v : V} (h : DenB K n w b v) : DenB K n' w' b v := by
  cases b with
  | fz d => exact Den.mono l.F h
  | mt k => exact ⟨Nat.lt_of_lt_of_le h.1 l.le, by rw [l.m k h.1]; exact h.2⟩
theorem DenBL.later (l : Later n w n' w') : ∀ {bs : List B} {vs : List V}, DenBL K n w bs vs → DenBL K n' w' bs vs
  | _, _, .nil => .nil
  | _, _, .cons h t => .cons (h.later l) (DenBL.later l t)
theorem DenBK.later (l : Later n w n' w') : ∀ {bs : List (Key × B)} {vs : List (Key × V)}, DenBK K n w bs vs → DenBK K n' w' bs vs
  | _, _, .nil => .nil
  | _, _, .cons h t => .cons (h.later l) (DenBK.later l t)
theorem DenBF.later (l : Later n w n' w') : ∀ {bs : List (Str × B)} {vs : List (Str × V)}, DenBF K n w bs vs → DenBF K n' w' bs vs
  | _, _, .nil => .nil
  | _, _, .cons h t => .cons (h.later l) (DenBF.later l t)
theorem DenBL.length : ∀ {bs : List B} {vs : List V}, DenBL K n w bs vs → bs.length = vs.length
  | _, _, .nil => rfl
  | _, _, .cons _ t => congrArg (· + 1) (DenBL.length t)
theorem DenBL.app : ∀ {bs cs : List B} {vs us : List V}, DenBL K n w bs vs → DenBL K n w cs us → DenBL K n w (bs ++ cs) (vs ++ us)
  | _, _, _, _, .nil, h => h
  | _, _, _, _, .cons a t, h => .cons a (DenBL.app t h)
theorem DenBL.get : ∀ {bs : List B} {vs : List V}, DenBL K n w bs vs → ∀ {i : Nat} {b : B}, bs[i]? = some b → ∃ v, vs[i]? = some v ∧ DenB K n w b v
  | _, _, .nil, _, _, e => by cases e
  | _, _, .cons a _, 0, _, e => ⟨_, rfl, by cases e; exact a⟩
  | _, _, .cons _ t, i + 1, _, e => DenBL.get t (i := i) e
theorem DenBL.set {b : B} {v : V} (h : DenB K n w b v) : ∀ (i : Nat) {bs : List B} {vs : List V}, DenBL K n w bs vs → DenBL K n w (bs.set i b) (vs.set i v)
  | _, _, _, .nil => .nil
  | 0, _, _, .cons _ t => .cons h t
  | i + 1, _, _, .cons a t => .cons a (DenBL.set h i t)
/-- all for good -/
theorem DenBL.fz : ∀ {ds : List D} {vs : List V}, DenBL K n w (ds.map B.fz) vs → DenL K w.F ds vs
  | [], _, .nil => .nil
  | _ :: _, _, .cons h t => .cons h (DenBL.fz t)
theorem DenL.bz : ∀ {ds : List D} {vs : List V}, DenL K w.F ds vs → DenBL K n w (ds.map B.fz) vs
  | _, _, .nil => .nil
  | _, _, .cons h t => .cons h (DenL.bz t)
theorem DenBK.fz : ∀ {ds : List (Key × D)} {vs : List (Key × V)}, DenBK K n w (ds.map fun p => (p.1, B.fz p.2)) vs → DenK K w.F ds vs
  | [], _, .nil => .nil
  | _ :: _, _, .cons h t => .cons h (DenBK.fz t)
theorem DenBF.fz : ∀ {ds : List (Str × D)} {vs : List (Str × V)}, DenBF K n w (ds.map fun p => (p.1, B.fz p.2)) vs → DenF K w.F ds vs
  | [], _, .nil => .nil
  | _ :: _, _, .cons h t => .cons h (DenBF.fz t)
end
section
variable {K : PySem.W.Frag} {β : Base} {S : Sto} {w : Wd}
theorem CellOk.later {n n' : Nat} {w w' : Wd} {a : Addr} {c : Cell} (l : Later n w n' w') (e : w'.H a = w.H a) (h : CellOk K n w a c) : CellOk K n' w' a c := by
  cases c with
  | lst bs => obtain ⟨vs, h1, h2⟩ := h; exact ⟨vs, e.trans h1, h2.later l⟩
  | dic bs => obtain ⟨vs, h1, h2⟩ := h; exact ⟨vs, e.trans h1, h2.later l⟩
  | ins C bs => obtain ⟨dx, vs, h1, h2⟩ := h; exact ⟨dx, vs, e.trans h1, h2.later l⟩
  | bag => obtain ⟨q, cells, i, b, s, c, h1, h2, h3⟩ := h; exact ⟨q, cells, i, b, s, c, e.trans h1, l.F _ _ h2, h3⟩
  | dead => trivial
  | kset P wo T n => exact e.trans h
  | lams Ls => obtain ⟨fs, h1, h2⟩ := h; exact ⟨fs, e.trans h1, L2.Paired.mapP h2 fun _ _ q => q.mono l.F⟩
  | tab P q => obtain ⟨ea, ps, h1, h2, h3⟩ := h; exact ⟨ea, ps, e.trans h1, h2, fun pos cv hc => let ⟨c, e1, e2⟩ := h3 pos cv hc; ⟨c, e1, l.F _ _ e2⟩⟩
theorem CellOk.some {n : Nat} {w : Wd} {a : Addr} {c : Cell} (h : CellOk K n w a c) (hd : c ≠ .dead) : ∃ o, w.H a = some o := by
  cases c with
  | lst bs => obtain ⟨vs, h1, _⟩ := h; exact ⟨_, h1⟩
  | dic bs => obtain ⟨vs, h1, _⟩ := h; exact ⟨_, h1⟩
  | ins C bs => obtain ⟨dx, vs, h1, _⟩ := h; exact ⟨_, h1⟩
  | bag => obtain ⟨q, cells, i, b, s, c, h1, _⟩ := h; exact ⟨_, h1⟩
  | dead => exact absurd rfl hd
  | kset P wo T n => exact ⟨_, h⟩
  | lams Ls => obtain ⟨fs, h1, _⟩ := h; exact ⟨_, h1⟩
  | tab P q => obtain ⟨_, ps, h1, _⟩ := h; exact ⟨_, h1⟩
/-- a new thing for good -/
theorem Rel.newF (R : Rel K β S w) {p : Addr} (hp : w.H p = none) (o : HO) : Rel K β S ⟨w.m, upd w.F p o, upd w.H p o⟩ ∧ Later S.length w S.length ⟨w.m, upd w.F p o, upd w.H p o⟩ := by
  have hF : w.F p = none := R.fr.free hp
  have lt : Later S.length w S.length ⟨w.m, upd w.F p o, upd w.H p o⟩ := ⟨Nat.le_refl _, fun _ _ => rfl, fun b u h => (upd_ne (ne_of_none h hF)).trans h⟩
  refine ⟨⟨fun b u h => ?_, fun b u h => (upd_ne (ne_of_none (R.keep _ _ h) hp)).trans (R.keep _ _ h), fun b u h => (upd_ne (ne_of_none (R.f0 _ _ h) hF)).trans (R.f0 _ _ h), fun b u h => ?_, R.m0, R.n0, fun k c h hc => ?_, R.inj⟩, lt⟩
  · by_cases e : b = p
    · subst e
      have h : upd w.F b o b = some u := h
      rw [upd_same] at h
      exact h ▸ upd_same
    · exact (upd_ne e).trans (R.fr _ _ ((upd_ne e).symm.trans h))
  · by_cases e : b = p
    · subst e
      exact .inr (R.keep.free hp)
    · exact R.fn _ _ ((upd_ne e).symm.trans h)
  · have L := R.live k c h hc
    obtain ⟨u, hu⟩ := L.ok.some hc
    have ne : w.m k ≠ p := ne_of_none hu hp
    exact ⟨(upd_ne ne).trans L.nf, L.n0, L.ok.later lt (upd_ne ne)⟩
/-- a new cell -/
theorem Rel.newC (R : Rel K β S w) {p : Addr} (hp : w.H p = none) (o : HO) {c : Cell} (hc : CellOk K S.length ⟨w.m, w.F, upd w.H p o⟩ p c) (hk : c ≠ .dead → True := by intro _; trivial) :
    Rel K β (S ++ [c]) ⟨fun k => if k = S.length then p else w.m k, w.F, upd w.H p o⟩ ∧ Later S.length w (S ++ [c]).length ⟨fun k => if k = S.length then p else w.m k, w.F, upd w.H p o⟩ := by
  have hF : w.F p = none := R.fr.free hp
  have lt : Later S.length w (S ++ [c]).length ⟨fun k => if k = S.length then p else w.m k, w.F, upd w.H p o⟩ :=
    ⟨by rw [List.length_append]; exact Nat.le_add_right _ _, fun k h => if_neg (Nat.ne_of_lt h), .refl _⟩
  have lt2 : Later S.length ⟨w.m, w.F, upd w.H p o⟩ (S ++ [c]).length ⟨fun k => if k = S.length then p else w.m k, w.F, upd w.H p o⟩ := ⟨lt.le, lt.m, .refl _⟩
  have nk : ∀ {k : Nat} {c' : Cell}, S[k]? = some c' → c' ≠ .dead → w.m k ≠ p := fun h hc' => by
    obtain ⟨u, hu⟩ := (R.live _ _ h hc').ok.some hc'
    exact ne_of_none hu hp
  have get : ∀ {k : Nat} {c' : Cell}, (S ++ [c])[k]? = some c' → (k < S.length ∧ S[k]? = some c') ∨ (k = S.length ∧ c' = c) := fun {k c'} h => by
    by_cases e : k < S.length
    · rw [List.getElem?_append_left e] at h
      exact .inl ⟨e, h⟩
    · rw [List.getElem?_append_right (Nat.le_of_not_lt e)] at h
      by_cases e2 : k - S.length = 0
      · rw [e2] at h
        cases h
        exact .inr ⟨by omega, rfl⟩
      · rw [List.getElem?_eq_none (by simp only [List.length_cons, List.length_nil]; omega)] at h
        cases h
  refine ⟨⟨fun b u h => (upd_ne (ne_of_none (R.fr _ _ h) hp)).trans (R.fr _ _ h), fun b u h => (upd_ne (ne_of_none (R.keep _ _ h) hp)).trans (R.keep _ _ h), R.f0, R.fn, fun k h => ?_, Nat.le_trans R.n0 lt.le, fun k c' h hc' => ?_, fun i j ci cj hi hj di dj e => ?_⟩, lt⟩
  · exact (if_neg (Nat.ne_of_lt (Nat.lt_of_lt_of_le h R.n0))).trans (R.m0 k h)
  · rcases get h with ⟨e, h⟩ | ⟨e, rfl⟩
    · have L := R.live k c' h hc'
      have em : (if k = S.length then p else w.m k) = w.m k := if_neg (Nat.ne_of_lt e)
      show Live K _ _ _ (if k = S.length then p else w.m k) c'
      rw [em]
      exact ⟨L.nf, L.n0, L.ok.later lt (upd_ne (nk h hc'))⟩
    · have em : (if k = S.length then p else w.m k) = p := if_pos e
      show Live K _ _ _ (if k = S.length then p else w.m k) c'
      rw [em]
      exact ⟨hF, R.keep.free hp, hc.later lt2 rfl⟩
  · rcases get hi with ⟨li, hi'⟩ | ⟨li, ei⟩ <;> rcases get hj with ⟨lj, hj'⟩ | ⟨lj, ej⟩
    · exact R.inj i j ci cj hi' hj' di dj (by have e : (if i = S.length then p else w.m i) = (if j = S.length then p else w.m j) := e; rw [if_neg (Nat.ne_of_lt li), if_neg (Nat.ne_of_lt lj)] at e; exact e)
    · have e : (if i = S.length then p else w.m i) = (if j = S.length then p else w.m j) := e
      rw [if_neg (Nat.ne_of_lt li), if_pos lj] at e
      exact absurd e (nk hi' di)
    · have e : (if i = S.length then p else w.m i) = (if j = S.length then p else w.m j) := e
      rw [if_pos li, if_neg (Nat.ne_of_lt lj)] at e
      exact absurd e.symm (nk hj' dj)
    · exact li.trans lj.symm
theorem ne_dead {c : Cell} (h : c = .dead → False) : c ≠ .dead := h
/-- a cell changes -/
theorem Rel.setC (R : Rel K β S w) {k : Nat} {c c' : Cell} (hk : S[k]? = some c) (hd : c ≠ .dead) {o : HO} (hc : CellOk K S.length ⟨w.m, w.F, upd w.H (w.m k) o⟩ (w.m k) c') :
    Rel K β (S.set k c') ⟨w.m, w.F, upd w.H (w.m k) o⟩ ∧ Later S.length w (S.set k c').length ⟨w.m, w.F, upd w.H (w.m k) o⟩ := by
  have L0 := R.live k c hk hd
  have lt : Later S.length w S.length ⟨w.m, w.F, upd w.H (w.m k) o⟩ := ⟨Nat.le_refl _, fun _ _ => rfl, .refl _⟩
  have get : ∀ {i : Nat} {ci : Cell}, (S.set k c')[i]? = some ci → (i = k ∧ ci = c') ∨ (i ≠ k ∧ S[i]? = some ci) := fun {i ci} h => by
    by_cases e : i = k
    · subst e
      rw [List.getElem?_set_self (by by_cases z : i < S.length; exact z; rw [List.getElem?_eq_none (Nat.le_of_not_lt z)] at hk; cases hk)] at h
      cases h
      exact .inl ⟨rfl, rfl⟩
    · rw [List.getElem?_set_ne (fun z => e z.symm)] at h
      exact .inr ⟨e, h⟩
  rw [List.length_set]
  refine ⟨⟨fun b u h => (upd_ne fun e => ?_).trans (R.fr _ _ h), fun b u h => (upd_ne fun e => ?_).trans (R.keep _ _ h), R.f0, R.fn, R.m0, by rw [List.length_set]; exact R.n0, fun i ci h hci => ?_, fun i j ci cj hi hj di dj e => ?_⟩, lt⟩
  · rw [e, L0.nf] at h
    cases h
  · rw [e, L0.n0] at h
    cases h
  · rw [List.length_set]
    rcases get h with ⟨rfl, rfl⟩ | ⟨ne, h⟩
    · exact ⟨L0.nf, L0.n0, hc⟩
    · have L := R.live i ci h hci
      have ne2 : w.m i ≠ w.m k := fun e => ne (R.inj i k ci c h hk hci hd e)
      exact ⟨L.nf, L.n0, L.ok.later lt (upd_ne ne2)⟩
  · rcases get hi with ⟨ei, _⟩ | ⟨ni, hi'⟩ <;> rcases get hj with ⟨ej, _⟩ | ⟨nj, hj'⟩
    · exact ei.trans ej.symm
    · rw [ei] at e
      exact absurd (R.inj k j c cj hk hj' hd dj e).symm nj
    · rw [ej] at e
      exact absurd (R.inj i k ci c hi' hk di hd e) ni
    · exact R.inj i j ci cj hi' hj' di dj e
/-- a cell is for good from here on -/
theorem Rel.freeze (R : Rel K β S w) {k : Nat} {c : Cell} (hk : S[k]? = some c) (hd : c ≠ .dead) {o : HO} (ho : w.H (w.m k) = some o) :
    Rel K β (S.set k .dead) ⟨w.m, upd w.F (w.m k) o, w.H⟩ ∧ Later S.length w (S.set k .dead).length ⟨w.m, upd w.F (w.m k) o, w.H⟩ := by
  have L0 := R.live k c hk hd
  have lt : Later S.length w S.length ⟨w.m, upd w.F (w.m k) o, w.H⟩ := ⟨Nat.le_refl _, fun _ _ => rfl, fun b u h => (upd_ne (ne_of_none h L0.nf)).trans h⟩
  have get : ∀ {i : Nat} {ci : Cell}, (S.set k .dead)[i]? = some ci → ci ≠ .dead → i ≠ k ∧ S[i]? = some ci := fun {i ci} h hci => by
    by_cases e : i = k
    · subst e
      rw [List.getElem?_set_self (by by_cases z : i < S.length; exact z; rw [List.getElem?_eq_none (Nat.le_of_not_lt z)] at hk; cases hk)] at h
      cases h
      exact absurd rfl hci
    · rw [List.getElem?_set_ne (fun z => e z.symm)] at h
      exact ⟨e, h⟩
  rw [List.length_set]
  refine ⟨⟨fun b u h => ?_, R.keep, fun b u h => lt.F _ _ (R.f0 _ _ h), fun b u h => ?_, R.m0, by rw [List.length_set]; exact R.n0, fun i ci h hci => ?_, fun i j ci cj hi hj di dj e => ?_⟩, lt⟩
  · by_cases e : b = w.m k
    · subst e
      have h : upd w.F (w.m k) o (w.m k) = some u := h
      rw [upd_same] at h
      exact h ▸ ho
    · exact R.fr _ _ ((upd_ne e).symm.trans h)
  · by_cases e : b = w.m k
    · subst e
      exact .inr L0.n0
    · exact R.fn _ _ ((upd_ne e).symm.trans h)
  · rw [List.length_set]
    obtain ⟨ne, h⟩ := get h hci
    have L := R.live i ci h hci
    have ne2 : w.m i ≠ w.m k := fun e => ne (R.inj i k ci c h hk hci hd e)
    exact ⟨(upd_ne ne2).trans L.nf, L.n0, L.ok.later lt rfl⟩
  · exact R.inj i j ci cj (get hi di).2 (get hj dj).2 di dj e
end
end PL
namespace PL
open PySem L2
/-! ### expressions -/
abbrev XP := Str → List (Str × D) → Sto → Prop
abbrev RB := B → Sto → Prop
abbrev FE := Ev → Sto → XP → RB → Prop
abbrev FT := Ev → Sto → XP → (Bool → Sto → Prop) → Prop
abbrev FA := Ev → Sto → XP → (List B → Sto → Prop) → Prop
structure EvOk (K : PySem.W.Frag) (n : Nat) (w : Wd) (Γ : Ev) (σ : St) : Prop where
  len : Γ.length = σ.length
  at_ : ∀ (i : Nat) (b : B), Γ[i]? = some (some b) → ∃ v, σ[i]? = some (some v) ∧ DenB K n w b v
theorem EvOk.later {K : PySem.W.Frag} {n n' : Nat} {w w' : Wd} {Γ : Ev} {σ : St} (l : Later n w n' w') (h : EvOk K n w Γ σ) : EvOk K n' w' Γ σ :=
  ⟨h.len, fun i b e => let ⟨v, h1, h2⟩ := h.at_ i b e; ⟨v, h1, h2.later l⟩⟩
theorem EvOk.set {K : PySem.W.Frag} {n : Nat} {w : Wd} {Γ : Ev} {σ : St} {b : B} {v : V} (h : EvOk K n w Γ σ) (i : Nat) (hb : DenB K n w b v) : EvOk K n w (Γ.set i (some b)) (σ.set i (some v)) :=
  ⟨by rw [List.length_set, List.length_set]; exact h.len, fun j c e => by
    by_cases hj : j = i
    · subst hj
      by_cases hl : j < Γ.length
      · rw [List.getElem?_set_self hl] at e
        cases e
        exact ⟨v, List.getElem?_set_self (h.len ▸ hl), hb⟩
      · rw [List.getElem?_eq_none (by rw [List.length_set]; omega)] at e
        cases e
    · rw [List.getElem?_set_ne (fun z => hj z.symm)] at e
      obtain ⟨v', h1, h2⟩ := h.at_ j c e
      exact ⟨v', (List.getElem?_set_ne (fun z => hj z.symm)).trans h1, h2⟩⟩
theorem EvOk.unset {K : PySem.W.Frag} {n : Nat} {w : Wd} {Γ : Ev} {σ : St} {o : Option V} (h : EvOk K n w Γ σ) (i : Nat) : EvOk K n w (Γ.set i none) (σ.set i o) :=
  ⟨by rw [List.length_set, List.length_set]; exact h.len, fun j c e => by
    by_cases hj : j = i
    · subst hj
      by_cases hl : j < Γ.length
      · rw [List.getElem?_set_self hl] at e
        cases e
      · rw [List.getElem?_eq_none (by rw [List.length_set]; omega)] at e
        cases e
    · rw [List.getElem?_set_ne (fun z => hj z.symm)] at e
      obtain ⟨v', h1, h2⟩ := h.at_ j c e
      exact ⟨v', (List.getElem?_set_ne (fun z => hj z.symm)).trans h1, h2⟩⟩
def EvWipe (Γ : Ev) : List Nat → Ev
  | [] => Γ
  | i :: is => (EvWipe Γ is).set i none
theorem EvOk.wipe {K : PySem.W.Frag} {n : Nat} {w : Wd} {Γ : Ev} {σ : St} (h : EvOk K n w Γ σ) : ∀ is : List Nat, EvOk K n w (EvWipe Γ is) (wipe σ is)
  | [] => h
  | i :: is => (EvOk.wipe h is).unset i
/-- what is wanted of an exception, by the heap -/
def XOk (K : PySem.W.Frag) (E : XK) (β : Base) (n : Nat) (w : Wd) (Rx : XP) : Prop :=
  ∀ C fs S' w' d vs, Rx C fs S' → Rel K β S' w' → Later n w S'.length w' → w'.F d = some (.xd vs) → DenF K w'.F fs vs → E (.ref (clsAt K C)) (some d) w'.H
theorem XOk.later {K : PySem.W.Frag} {E : XK} {β : Base} {n n' : Nat} {w w' : Wd} {Rx : XP} (l : Later n w n' w') (h : XOk K E β n w Rx) : XOk K E β n' w' Rx :=
  fun C fs S' w2 d vs r R l2 hd hf => h C fs S' w2 d vs r R (l.trans l2) hd hf
/-- what is wanted of a value, by the heap -/
def KOk (K : PySem.W.Frag) (β : Base) (n : Nat) (w : Wd) (R : RB) (Q : VK) : Prop :=
  ∀ b S' w' v, R b S' → Rel K β S' w' → Later n w S'.length w' → DenB K S'.length w' b v → Q v w'.H
theorem KOk.later {K : PySem.W.Frag} {β : Base} {n n' : Nat} {w w' : Wd} {R : RB} {Q : VK} (l : Later n w n' w') (h : KOk K β n w R Q) : KOk K β n' w' R Q :=
  fun b S' w2 v r R2 l2 hd => h b S' w2 v r R2 (l.trans l2) hd
def SndE (K : PySem.W.Frag) (E : XK) (t : TE) (f : FE) : Prop :=
  ∀ β S w σ Γ Rx R Q, Rel K β S w → EvOk K S.length w Γ σ → f Γ S Rx R → KOk K β S.length w R Q → XOk K E β S.length w Rx → t σ w.H Q
def SndT (K : PySem.W.Frag) (E : XK) (t : TT) (f : FT) : Prop :=
  ∀ β S w σ Γ Rx R (Q : Bool → Hp → Prop), Rel K β S w → EvOk K S.length w Γ σ → f Γ S Rx R → (∀ b S' w', R b S' → Rel K β S' w' → Later S.length w S'.length w' → Q b w'.H) → XOk K E β S.length w Rx → t σ w.H Q
def SndA (K : PySem.W.Frag) (E : XK) (t : TA) (f : FA) : Prop :=
  ∀ β S w σ Γ Rx R (Q : List V → Hp → Prop), Rel K β S w → EvOk K S.length w Γ σ → f Γ S Rx R → (∀ bs S' w' vs, R bs S' → Rel K β S' w' → Later S.length w S'.length w' → DenBL K S'.length w' bs vs → Q vs w'.H) → XOk K E β S.length w Rx → t σ w.H Q
structure XE (X : Cx) (E : XK) (e : Expr) (f : FE) : Prop where
  ex : ∃ t, PE X e t ∧ SndE X.K E t f
structure XT (X : Cx) (E : XK) (e : Expr) (f : FT) : Prop where
  ex : ∃ t, PT X e t ∧ SndT X.K E t f
structure XW (X : Cx) (E : XK) (e : Expr) (f : FT) : Prop where
  ex : ∃ t, PW X e t ∧ SndT X.K E t f
structure XA (X : Cx) (E : XK) (es : List Expr) (f : FA) : Prop where
  ex : ∃ t, PA X es t ∧ SndA X.K E t f
/-- by a bool -/
def cnd (k : Bool) (A B : Prop) : Prop := match k with
  | true => A
  | false => B
theorem cnd_t {k : Bool} {A B : Prop} (h : k = true) (a : A) : cnd k A B := by subst h; exact a
theorem cnd_f {k : Bool} {A B : Prop} (h : k = false) (b : B) : cnd k A B := by subst h; exact b
theorem cnd_split {k : Bool} {A B : Prop} (t : k = true → A) (f : k = false → B) : cnd k A B := by
  cases k with
  | true => exact t rfl
  | false => exact f rfl
section
variable {X : Cx} {E : XK} {a b c e : Expr} {fa fb fc : FE} {pos : Pos}
/-! names, constants -/
def eVar (i : Nat) : FE := fun Γ S _ R => match Γ[i]? with
  | some (some b) => R b S
  | _ => False
theorem xvar {i : Nat} (h : PE X e (tVar i)) : XE X E e (eVar i) := ⟨_, h, fun β S w σ Γ Rx R Q hR hG hf hk _ => by
  unfold eVar at hf
  cases hb : Γ[i]? with
  | none => rw [hb] at hf; exact hf.elim
  | some o =>
    cases o with
    | none => rw [hb] at hf; exact hf.elim
    | some b =>
      rw [hb] at hf
      obtain ⟨v, h1, h2⟩ := hG.at_ i b hb
      exact ⟨v, h1, hk b S w v hf hR (.refl _ _) h2⟩⟩
def eC (d : D) : FE := fun _ S _ R => R (.fz d) S
theorem xc {d : D} {v : V} (h : PE X e (tC v)) (hd : ∀ F, Den X.K F d v) : XE X E e (eC d) := ⟨_, h, fun β S w σ Γ Rx R Q hR hG hf hk _ => hk _ S w v hf hR (.refl _ _) (hd _)⟩
theorem xint {i j} : XE X E (.Constant (.int i) j pos) (eC (.int i)) := xc pe_int fun _ => .int i
theorem xstr {z j} : XE X E (.Constant (.str z) j pos) (eC (.str z)) := xc pe_str fun _ => .str z
theorem xbl {k j} : XE X E (.Constant (.bool k) j pos) (eC (.bl k)) := xc pe_bl fun _ => .bl k
theorem xnon {j} : XE X E (.Constant .none j pos) (eC .non) := xc pe_non fun _ => .non
/-! operators by values -/
abbrev G1 := B → Sto → RB → Prop
abbrev G2 := B → B → Sto → RB → Prop
abbrev GL := List B → Sto → RB → Prop
def Snd1 (K : PySem.W.Frag) (r : V → Hp → VK → Prop) (g : G1) : Prop := ∀ β S w b v R Q, Rel K β S w → DenB K S.length w b v → g b S R → KOk K β S.length w R Q → r v w.H Q
def Snd2 (K : PySem.W.Frag) (r : R2) (g : G2) : Prop := ∀ β S w b c v u R Q, Rel K β S w → DenB K S.length w b v → DenB K S.length w c u → g b c S R → KOk K β S.length w R Q → r v u w.H Q
def SndL (K : PySem.W.Frag) (r : List V → Hp → VK → Prop) (g : GL) : Prop := ∀ β S w bs vs R Q, Rel K β S w → DenBL K S.length w bs vs → g bs S R → KOk K β S.length w R Q → r vs w.H Q
def SndM (K : PySem.W.Frag) (r : V → List V → Hp → VK → Prop) (g : B → GL) : Prop := ∀ β S w b bs v vs R Q, Rel K β S w → DenB K S.length w b v → DenBL K S.length w bs vs → g b bs S R → KOk K β S.length w R Q → r v vs w.H Q
def eOp (g : G2) (fa fb : FE) : FE := fun Γ S Rx R => fa Γ S Rx fun b S1 => fb Γ S1 Rx fun c S2 => g b c S2 R
theorem snd_op {K : PySem.W.Frag} {E : XK} {ta tb : TE} {r : R2} {g : G2} (ha : SndE K E ta fa) (hb : SndE K E tb fb) (hg : Snd2 K r g) : SndE K E (tOp r ta tb) (eOp g fa fb) := fun β S w σ Γ Rx R Q hR hG hf hk hx => by
  refine ha β S w σ Γ Rx _ _ hR hG hf (fun b S1 w1 v h1 R1 l1 d1 => ?_) hx
  refine hb β S1 w1 σ Γ Rx _ _ R1 (hG.later l1) h1 (fun c S2 w2 u h2 R2 l2 d2 => ?_) (hx.later l1)
  exact hg β S2 w2 b c v u R Q R2 (d1.later l2) d2 h2 (hk.later (l1.trans l2))
theorem xop {op : Operator} {r : R2} {g : G2} (ho : OpR X (binaryOp op) r) (hg : Snd2 X.K r g) (ha : XE X E a fa) (hb : XE X E b fb) : XE X E (.BinOp a op b pos) (eOp g fa fb) :=
  let ⟨_, p, s⟩ := ha.ex; let ⟨_, q, t⟩ := hb.ex; ⟨_, pe_op ho p q, snd_op s t hg⟩
theorem xcmp {op : CmpOp} {r : R2} {g : G2} (ho : OpR X (compareOp op) r) (hg : Snd2 X.K r g) (ha : XE X E a fa) (hb : XE X E b fb) (hm : behindInMarks op b = false) : XE X E (.Compare a [op] [b] pos) (eOp g fa fb) :=
  let ⟨_, p, s⟩ := ha.ex; let ⟨_, q, t⟩ := hb.ex; ⟨_, pe_cmpR ho p q hm, snd_op s t hg⟩
theorem xix {r : R2} {g : G2} (ho : IxR X r) (hg : Snd2 X.K r g) (ha : XE X E a fa) (hb : XE X E b fb) (hs : PlainIx b) : XE X E (.Subscript a b pos) (eOp g fa fb) :=
  let ⟨_, p, s⟩ := ha.ex; let ⟨_, q, t⟩ := hb.ex; ⟨_, pe_ix ho p q hs, snd_op s t hg⟩
def eUn (g : G1) (fa : FE) : FE := fun Γ S Rx R => fa Γ S Rx fun b S1 => g b S1 R
theorem snd_un {K : PySem.W.Frag} {E : XK} {ta : TE} {r : V → Hp → VK → Prop} {g : G1} (ha : SndE K E ta fa) (hg : Snd1 K r g) : SndE K E (tUn r ta) (eUn g fa) := fun β S w σ Γ Rx R Q hR hG hf hk hx =>
  ha β S w σ Γ Rx _ _ hR hG hf (fun b S1 w1 v h1 R1 l1 d1 => hg β S1 w1 b v R Q R1 d1 h1 (hk.later l1)) hx
theorem xun {op : UnaryOp} {r : V → Hp → VK → Prop} {g : G1} (ho : UnR X (unaryOp op) r) (hg : Snd1 X.K r g) (ha : XE X E a fa) : XE X E (.UnaryOp op a pos) (eUn g fa) :=
  let ⟨_, p, s⟩ := ha.ex; ⟨_, pe_un ho p, snd_un s hg⟩
/-! values for good -/
def gD1 (f : D → (D → Prop) → Prop) : G1 := fun b S R => match b with
  | .fz x => f x fun d => R (.fz d) S
  | _ => False
def gD2 (f : D → D → (D → Prop) → Prop) : G2 := fun b c S R => match b, c with
  | .fz x, .fz y => f x y fun d => R (.fz d) S
  | _, _ => False
theorem snd_D2 {K : PySem.W.Frag} {r : R2} {f : D → D → (D → Prop) → Prop} (h : ∀ β S w x y v u R Q, Rel K β S w → Den K w.F x v → Den K w.F y u → f x y (fun d => R (B.fz d) S) → KOk K β S.length w R Q → r v u w.H Q) : Snd2 K r (gD2 f) := fun β S w b c v u R Q hR hb hc hg hk => by
  cases b with
  | mt k => exact hg.elim
  | fz x =>
    cases c with
    | mt k => exact hg.elim
    | fz y => exact h β S w x y v u R Q hR hb hc hg hk
theorem snd_D1 {K : PySem.W.Frag} {r : V → Hp → VK → Prop} {f : D → (D → Prop) → Prop} (h : ∀ β S w x v R Q, Rel K β S w → Den K w.F x v → f x (fun d => R (B.fz d) S) → KOk K β S.length w R Q → r v w.H Q) : Snd1 K r (gD1 f) := fun β S w b v R Q hR hb hg hk => by
  cases b with
  | mt k => exact hg.elim
  | fz x => exact h β S w x v R Q hR hb hg hk
theorem KOk.fz {K : PySem.W.Frag} {β : Base} {S : Sto} {w : Wd} {R : RB} {Q : VK} {d : D} {v : V} (hk : KOk K β S.length w R Q) (hR : Rel K β S w) (h : R (.fz d) S) (hd : Den K w.F d v) : Q v w.H := hk _ S w v h hR (.refl _ _) hd
/-- a new list, a new tuple for good -/
theorem KOk.newL {K : PySem.W.Frag} {β : Base} {S : Sto} {w : Wd} {R : RB} {Q : VK} {ds : List D} {vs : List V} (hk : KOk K β S.length w R Q) (hR : Rel K β S w) (h : R (.fz (.lst ds)) S) (hd : DenL K w.F ds vs) {p : Addr} (hp : w.H p = none) : Q (.ref p) (upd w.H p (.lst vs)) := by
  obtain ⟨R1, l1⟩ := hR.newF hp (.lst vs)
  exact hk _ S _ (.ref p) h R1 l1 (Den.lst upd_same (DenL.mono l1.F hd))
theorem KOk.newT {K : PySem.W.Frag} {β : Base} {S : Sto} {w : Wd} {R : RB} {Q : VK} {ds : List D} {vs : List V} (hk : KOk K β S.length w R Q) (hR : Rel K β S w) (h : R (.fz (.tup ds)) S) (hd : DenL K w.F ds vs) {p : Addr} (hp : w.H p = none) : Q (.ref p) (upd w.H p (.tup vs)) := by
  obtain ⟨R1, l1⟩ := hR.newF hp (.tup vs)
  exact hk _ S _ (.ref p) h R1 l1 (Den.tup (SqT.of upd_same) (DenL.mono l1.F hd))
def dAdd : D → D → (D → Prop) → Prop
  | .int i, .int j, k => k (.int (i + j))
  | .str i, .str j, k => i.length + j.length ≤ sizeLine ∧ k (.str (i ++ j))
  | .lst xs, .lst ys, k => xs.length + ys.length ≤ sizeLine ∧ k (.lst (xs ++ ys))
  | .tup xs, .tup ys, k => (xs ≠ [] ∧ xs.length + ys.length ≤ sizeLine) ∧ k (.tup (xs ++ ys))
  | _, _, _ => False
def rAddA (K : PySem.W.Frag) : R2 := fun x y H Q => (∃ i j, x = .int i ∧ y = .int j ∧ Q (.int (i + j)) H) ∨ (∃ i j, x = .str i ∧ y = .str j ∧ i.length + j.length ≤ sizeLine ∧ Q (.str (i ++ j)) H) ∨ rCat x y H Q ∨ rCatT K x y H Q
theorem op_addA : OpR X (binaryOp .Add) (rAddA X.K) := op_add.or (op_add_str.or (op_cat.or op_catT))
theorem snd_add {K : PySem.W.Frag} : Snd2 K (rAddA K) (gD2 dAdd) := snd_D2 fun β S w x y v u R Q hR hb hc hg hk => by
  cases hb with
  | int i => cases hc with
    | int j => exact .inl ⟨i, j, rfl, rfl, hk.fz hR hg (.int _)⟩
    | _ => exact (hg : False).elim
  | str i => cases hc with
    | str j => exact .inr (.inl ⟨i, j, rfl, rfl, hg.1, hk.fz hR hg.2 (.str _)⟩)
    | _ => exact (hg : False).elim
  | lst h1 l1 => cases hc with
    | lst h2 l2 => exact .inr (.inr (.inl ⟨_, _, _, _, rfl, rfl, hR.fr _ _ h1, hR.fr _ _ h2, by rw [← l1.length, ← l2.length]; exact hg.1, fun p hp => hk.newL hR hg.2 (l1.app l2) hp⟩))
    | _ => exact (hg : False).elim
  | tup h1 l1 => cases hc with
    | tup h2 l2 => exact .inr (.inr (.inr ⟨_, _, _, _, rfl, rfl, sqT_same hR.fr h1, sqT_same hR.fr h2, by
        intro e; subst e; cases l1; exact hg.1.1 rfl, by rw [← l1.length, ← l2.length]; exact hg.1.2, fun e => by
          subst e; cases l2; exact hk.fz hR (by have h2 : R (.fz (.tup (_ ++ []))) S := hg.2; rw [List.append_nil] at h2; exact h2) (.tup h1 l1), fun _ p hp => hk.newT hR hg.2 (l1.app l2) hp⟩))
    | _ => exact (hg : False).elim
  | _ => cases hc <;> exact (hg : False).elim
end
end PL
namespace PL
open PySem L2
section
variable {K : PySem.W.Frag}
/-! ### arithmetic -/
def dSub : D → D → (D → Prop) → Prop
  | .int i, .int j, k => k (.int (i - j))
  | _, _, _ => False
def dMul : D → D → (D → Prop) → Prop
  | .int i, .int j, k => CMul i j ∧ k (.int (i * j))
  | _, _, _ => False
def dMod : D → D → (D → Prop) → Prop
  | .int i, .int j, k => 0 < j ∧ k (.int (i % j))
  | _, _, _ => False
def dFdiv : D → D → (D → Prop) → Prop
  | .int i, .int j, k => CDiv i j ∧ k (.int (i / j))
  | _, _, _ => False
def dPow : D → D → (D → Prop) → Prop
  | .int i, .int j, k => CPow i j ∧ k (.int (i ^ j.toNat))
  | _, _, _ => False
def dXor : D → D → (D → Prop) → Prop
  | .int i, .int j, k => k (.int (Builtin.bitXor i j))
  | _, _, _ => False
def dNeg : D → (D → Prop) → Prop
  | .int i, k => k (.int (-i))
  | _, _ => False
theorem snd_I0 {g : Int → Int → Int} {f : D → D → (D → Prop) → Prop} (h : ∀ i j k, f (.int i) (.int j) k → k (.int (g i j))) (h0 : ∀ x y k, f x y k → ∃ i j, x = .int i ∧ y = .int j) : Snd2 K (rI0 fun i j => .int (g i j)) (gD2 f) := snd_D2 fun β S w x y v u R Q hR hb hc hg hk => by
  obtain ⟨i, j, rfl, rfl⟩ := h0 _ _ _ hg
  cases hb; cases hc
  exact ⟨i, j, rfl, rfl, hk.fz hR (h i j _ hg) (.int _)⟩
theorem snd_I {C : Int → Int → Prop} {g : Int → Int → Int} {f : D → D → (D → Prop) → Prop} (h : ∀ i j k, f (.int i) (.int j) k → C i j ∧ k (.int (g i j))) (h0 : ∀ x y k, f x y k → ∃ i j, x = .int i ∧ y = .int j) : Snd2 K (rI C fun i j => .int (g i j)) (gD2 f) := snd_D2 fun β S w x y v u R Q hR hb hc hg hk => by
  obtain ⟨i, j, rfl, rfl⟩ := h0 _ _ _ hg
  cases hb; cases hc
  exact ⟨i, j, rfl, rfl, (h i j _ hg).1, hk.fz hR (h i j _ hg).2 (.int _)⟩
theorem two_ints {f : D → D → (D → Prop) → Prop} (h : ∀ x y k, (∀ i j, x = .int i → y = .int j → False) → ¬ f x y k) : ∀ x y k, f x y k → ∃ i j, x = .int i ∧ y = .int j := fun x y k q => by
  by_cases z : ∃ i j, x = .int i ∧ y = .int j
  · exact z
  · exact (h x y k (fun i j e1 e2 => z ⟨i, j, e1, e2⟩) q).elim
theorem snd_sub : Snd2 K (rI0 fun i j => .int (i - j)) (gD2 dSub) := snd_I0 (fun _ _ _ h => h) (by intro x y k q; cases x <;> cases y <;> first | exact ⟨_, _, rfl, rfl⟩ | exact q.elim)
theorem snd_mul : Snd2 K (rI CMul fun i j => .int (i * j)) (gD2 dMul) := snd_I (fun _ _ _ h => h) (by intro x y k q; cases x <;> cases y <;> first | exact ⟨_, _, rfl, rfl⟩ | exact q.elim)
theorem snd_mod : Snd2 K (rI (fun _ j => 0 < j) fun i j => .int (i % j)) (gD2 dMod) := snd_I (fun _ _ _ h => h) (by intro x y k q; cases x <;> cases y <;> first | exact ⟨_, _, rfl, rfl⟩ | exact q.elim)
theorem snd_fdiv : Snd2 K (rI CDiv fun i j => .int (i / j)) (gD2 dFdiv) := snd_I (fun _ _ _ h => h) (by intro x y k q; cases x <;> cases y <;> first | exact ⟨_, _, rfl, rfl⟩ | exact q.elim)
theorem snd_pow : Snd2 K (rI CPow fun i j => .int (i ^ j.toNat)) (gD2 dPow) := snd_I (fun _ _ _ h => h) (by intro x y k q; cases x <;> cases y <;> first | exact ⟨_, _, rfl, rfl⟩ | exact q.elim)
theorem snd_xor : Snd2 K (rI0 fun i j => .int (Builtin.bitXor i j)) (gD2 dXor) := snd_I0 (fun _ _ _ h => h) (by intro x y k q; cases x <;> cases y <;> first | exact ⟨_, _, rfl, rfl⟩ | exact q.elim)
theorem snd_neg : Snd1 K (rU fun i => .int (-i)) (gD1 dNeg) := snd_D1 fun β S w x v R Q hR hb hg hk => by
  cases hb with
  | int i => exact ⟨i, rfl, hk.fz hR hg (.int _)⟩
  | _ => exact (hg : False).elim
/-! ### comparisons -/
def dCmp (p : Int → Int → Bool) : D → D → (D → Prop) → Prop
  | .int i, .int j, k => k (.bl (p i j))
  | _, _, _ => False
theorem snd_cmp {p : Int → Int → Bool} : Snd2 K (rI0 fun i j => .bl (p i j)) (gD2 (dCmp p)) := snd_D2 fun β S w x y v u R Q hR hb hc hg hk => by
  cases hb with
  | int i => cases hc with
    | int j => exact ⟨i, j, rfl, rfl, hk.fz hR hg (.bl _)⟩
    | _ => exact (hg : False).elim
  | _ => cases hc <;> exact (hg : False).elim
/-! data without own classes -/
mutual
def D.py : D → Option PyData
  | .non => some .none
  | .bl b => some (.bool b)
  | .int i => some (.int i)
  | .str z => some (.str z)
  | .lst xs => (pyL xs).map .list
  | .tup xs => (pyL xs).map .tuple
  | _ => none
def pyL : List D → Option (List PyData)
  | [] => some []
  | x :: xs => match x.py, pyL xs with
    | some d, some ds => some (d :: ds)
    | _, _ => none
end
mutual
theorem Den.dp {F : Hp} : ∀ (x : D) {v : V} {d : PyData}, Den K F x v → x.py = some d → Dp K F v d
  | .non, _, _, h, e => by cases h; cases e; exact .non
  | .bl b, _, _, h, e => by cases h; cases e; exact .bl b
  | .int i, _, _, h, e => by cases h; cases e; exact .int i
  | .str z, _, _, h, e => by cases h; cases e; exact .str z
  | .lst xs, _, _, h, e => by
    rw [D.py] at e
    cases h with
    | lst h1 l =>
      cases hp : pyL xs with
      | none => rw [hp] at e; cases e
      | some ds => rw [hp] at e; cases e; exact .lst (SqL.of h1) (DenL.dp xs l hp)
  | .tup xs, _, _, h, e => by
    rw [D.py] at e
    cases h with
    | tup h1 l =>
      cases hp : pyL xs with
      | none => rw [hp] at e; cases e
      | some ds => rw [hp] at e; cases e; exact .tup h1 (DenL.dp xs l hp)
  | .ty _, _, _, _, e => by rw [D.py] at e <;> first | cases e | (intros; contradiction)
  | .scr, _, _, _, e => by rw [D.py] at e <;> first | cases e | (intros; contradiction)
  | .cls _, _, _, _, e => by rw [D.py] at e <;> first | cases e | (intros; contradiction)
  | .opq _, _, _, _, e => by rw [D.py] at e <;> first | cases e | (intros; contradiction)
  | .dic _, _, _, _, e => by rw [D.py] at e <;> first | cases e | (intros; contradiction)
  | .ins _ _, _, _, _, e => by rw [D.py] at e <;> first | cases e | (intros; contradiction)
theorem DenL.dp {F : Hp} : ∀ (xs : List D) {vs : List V} {ds : List PyData}, DenL K F xs vs → pyL xs = some ds → DpAll K F vs ds
  | [], _, _, h, e => by rw [pyL] at e; cases h; cases e; exact .nil
  | x :: xs, _, _, h, e => by
    rw [pyL] at e
    cases h with
    | cons h1 l =>
      cases h2 : x.py with
      | none => rw [h2] at e; cases e
      | some d =>
        cases h3 : pyL xs with
        | none => rw [h2, h3] at e; cases e
        | some ds => rw [h2, h3] at e; cases e; exact .cons (Den.dp x h1 h2) (DenL.dp xs l h3)
end
/-- == of data; neg: != -/
def dEq (neg : Bool) (x y : D) (k : D → Prop) : Prop := match x, y with
  | .int i, .int j => k (.bl (neg != decide (i = j)))
  | .str i, .str j => k (.bl (neg != decide (i = j)))
  | .bl i, .bl j => k (.bl (neg != decide (i = j)))
  | .non, .non => k (.bl (neg != true))
  | .int _, .non => k (.bl neg) | .str _, .non => k (.bl neg) | .bl _, .non => k (.bl neg)
  | .non, .int _ => k (.bl neg) | .non, .str _ => k (.bl neg) | .non, .bl _ => k (.bl neg)
  | .int _, .str _ => k (.bl neg) | .str _, .int _ => k (.bl neg)
  | .bl _, .str _ => k (.bl neg) | .str _, .bl _ => k (.bl neg)
  | x, y => match x.py, y.py with
    | some d, some e => (SeqAt.shaped d = true ∧ SeqAt.shaped e = true) ∧ k (.bl (neg != PyData.eqv d e))
    | _, _ => False
def rEqA (K : PySem.W.Frag) : R2 := fun x y H Q => rEq x y H Q ∨ rEqD K x y H Q
def rNeA (K : PySem.W.Frag) : R2 := fun x y H Q => rNe x y H Q ∨ rNeD K x y H Q
theorem op_eqA {X : Cx} (hu : X.A.units + 64 < cLine) : OpR X (compareOp .Eq) (rEqA X.K) := op_eq.or (op_eqD hu)
theorem op_neA {X : Cx} (hu : X.A.units + 64 < cLine) : OpR X (compareOp .NotEq) (rNeA X.K) := op_ne.or (op_neD hu)
theorem dEq_py {neg : Bool} {x y : D} {k : D → Prop} (h : match x.py, y.py with
    | some d, some e => (SeqAt.shaped d = true ∧ SeqAt.shaped e = true) ∧ k (.bl (neg != PyData.eqv d e))
    | _, _ => False) : ∃ d e, x.py = some d ∧ y.py = some e ∧ (SeqAt.shaped d = true ∧ SeqAt.shaped e = true) ∧ k (.bl (neg != PyData.eqv d e)) := by
  cases h1 : x.py with
  | none => rw [h1] at h; exact h.elim
  | some d =>
    cases h2 : y.py with
    | none => rw [h1, h2] at h; exact h.elim
    | some e => rw [h1, h2] at h; exact ⟨d, e, rfl, rfl, h⟩
theorem Same.dp {F H : Hp} (s : Same F H) : ∀ (d : PyData) {v : V}, Dp K F v d → Dp K H v d := by
  intro d v h
  exact Dp.rec (motive_1 := fun v d _ => Dp K H v d) (motive_2 := fun vs ds _ => DpAll K H vs ds) .non .bl .int .str (fun h _ ih => .lst (sqL_same s h) ih) (fun h _ ih => .tup (sqT_same s h) ih) .nil (fun _ _ a b => .cons a b) h
theorem snd_eq : Snd2 K (rEqA K) (gD2 (dEq false)) := snd_D2 fun β S w x y v u R Q hR hb hc hg hk => by
  have deep : (match x.py, y.py with
    | some d, some e => (SeqAt.shaped d = true ∧ SeqAt.shaped e = true) ∧ R (.fz (.bl (false != PyData.eqv d e))) S
    | _, _ => False) → rEqA K v u w.H Q := fun h => by
    obtain ⟨d, e, h1, h2, ⟨s1, s2⟩, h⟩ := dEq_py (k := fun d => R (.fz d) S) h
    exact .inr ⟨d, e, Same.dp hR.fr d (Den.dp x hb h1), Same.dp hR.fr e (Den.dp y hc h2), s1, s2, hk.fz hR (by rw [Bool.false_bne] at h; exact h) (.bl _)⟩
  have flat : ∀ {k : Bool}, scal v u = true → decide (v = u) = k → R (.fz (.bl k)) S → rEqA K v u w.H Q := fun h e q => .inl ⟨h, by rw [e]; exact hk.fz hR q (.bl _)⟩
  cases hb <;> cases hc <;> first
    | exact deep hg
    | exact flat rfl (by simp) hg
theorem snd_ne : Snd2 K (rNeA K) (gD2 (dEq true)) := snd_D2 fun β S w x y v u R Q hR hb hc hg hk => by
  have deep : (match x.py, y.py with
    | some d, some e => (SeqAt.shaped d = true ∧ SeqAt.shaped e = true) ∧ R (.fz (.bl (true != PyData.eqv d e))) S
    | _, _ => False) → rNeA K v u w.H Q := fun h => by
    obtain ⟨d, e, h1, h2, ⟨s1, s2⟩, h⟩ := dEq_py (k := fun d => R (.fz d) S) h
    exact .inr ⟨d, e, Same.dp hR.fr d (Den.dp x hb h1), Same.dp hR.fr e (Den.dp y hc h2), s1, s2, hk.fz hR (by rw [Bool.true_bne] at h; exact h) (.bl _)⟩
  have flat : ∀ {k : Bool}, scal v u = true → (!decide (v = u)) = k → R (.fz (.bl k)) S → rNeA K v u w.H Q := fun h e q => .inl ⟨h, by rw [e]; exact hk.fz hR q (.bl _)⟩
  cases hb <;> cases hc <;> first
    | exact deep hg
    | exact flat rfl (by simp) hg
/-- is None -/
def dIsN : D → D → (D → Prop) → Prop
  | .non, .non, k => k (.bl true)
  | _, .non, k => k (.bl false)
  | _, _, _ => False
def dNotN : D → D → (D → Prop) → Prop
  | .non, .non, k => k (.bl false)
  | _, .non, k => k (.bl true)
  | _, _, _ => False
theorem snd_isN : Snd2 K (fun x y H Q => y = .non ∧ Q (.bl (decide (x = .non))) H) (gD2 dIsN) := snd_D2 fun β S w x y v u R Q hR hb hc hg hk => by
  cases hc with
  | non => cases hb <;> exact ⟨rfl, by first | exact hk.fz hR hg (.bl true) | exact hk.fz hR hg (.bl false)⟩
  | _ => cases hb <;> exact (hg : False).elim
theorem snd_notN : Snd2 K (fun x y H Q => y = .non ∧ Q (.bl (!decide (x = .non))) H) (gD2 dNotN) := snd_D2 fun β S w x y v u R Q hR hb hc hg hk => by
  cases hc with
  | non => cases hb <;> exact ⟨rfl, by first | exact hk.fz hR hg (.bl true) | exact hk.fz hR hg (.bl false)⟩
  | _ => cases hb <;> exact (hg : False).elim
end
end PL
namespace PL
open PySem L2
section
variable {X : Cx} {E : XK} {a b c e : Expr} {es : List Expr} {fa fb fc f : FE} {pos : Pos}
/-! ### tests -/
def dTruth : D → (Bool → Prop) → Prop
  | .non, k => k false
  | .bl b, k => k b
  | .int i, k => k (i != 0)
  | .str z, k => z.length ≤ sizeLine ∧ k ((z.length : Int) != 0)
  | .lst xs, k => k (!xs.isEmpty)
  | .tup xs, k => k (!xs.isEmpty)
  | _, _ => False
def truth (b : B) (S : Sto) (R : Bool → Prop) : Prop := match b with
  | .fz d => dTruth d R
  | .mt k => match S[k]? with
    | some (.lst bs) => R (!bs.isEmpty)
    | some (.dic bs) => R (!bs.isEmpty)
    | _ => False
theorem isEmpty_len {α γ : Type} {xs : List α} {ys : List γ} (h : xs.length = ys.length) : xs.isEmpty = ys.isEmpty := by
  cases xs <;> cases ys <;> first | rfl | cases h
theorem DenK.length {K : PySem.W.Frag} {F : Hp} : ∀ {ds : List (Key × D)} {vs : List (Key × V)}, DenK K F ds vs → ds.length = vs.length
  | _, _, .nil => rfl
  | _, _, .cons _ t => congrArg (· + 1) (DenK.length t)
theorem DenBK.length {K : PySem.W.Frag} {n : Nat} {w : Wd} : ∀ {ds : List (Key × B)} {vs : List (Key × V)}, DenBK K n w ds vs → ds.length = vs.length
  | _, _, .nil => rfl
  | _, _, .cons _ t => congrArg (· + 1) (DenBK.length t)
theorem truth_ok {K : PySem.W.Frag} {β : Base} {S : Sto} {w : Wd} {b : B} {v : V} {R : Bool → Prop} (hR : Rel K β S w) (hb : DenB K S.length w b v) (h : truth b S R) : ∃ k, TruV K v w.H k ∧ R k := by
  cases b with
  | fz d =>
    have hb : Den K w.F d v := hb
    cases hb with
    | non => exact ⟨false, rfl, h⟩
    | bl b => exact ⟨b, rfl, h⟩
    | int i => exact ⟨_, rfl, h⟩
    | str z => exact ⟨_, ⟨h.1, rfl⟩, h.2⟩
    | lst h1 l => exact ⟨_, .inl ⟨_, SqL.of (hR.fr _ _ h1), rfl⟩, by rw [← isEmpty_len l.length]; exact h⟩
    | tup h1 l => exact ⟨_, .inr (.inl ⟨_, sqT_same hR.fr h1, rfl⟩), by rw [← isEmpty_len l.length]; exact h⟩
    | _ => exact (show False from h).elim
  | mt k =>
    obtain ⟨hk, rfl⟩ := hb
    have h : match S[k]? with
      | some (.lst bs) => R (!bs.isEmpty)
      | some (.dic bs) => R (!bs.isEmpty)
      | _ => False := h
    cases hc : S[k]? with
    | none => rw [hc] at h; exact h.elim
    | some cl =>
      rw [hc] at h
      cases cl with
      | lst bs =>
        obtain ⟨vs, h1, h2⟩ := (hR.live k _ hc (by intro z; cases z)).ok
        exact ⟨_, .inl ⟨_, SqL.of h1, rfl⟩, by rw [← isEmpty_len h2.length]; exact h⟩
      | dic bs =>
        obtain ⟨vs, h1, h2⟩ := (hR.live k _ hc (by intro z; cases z)).ok
        exact ⟨_, .inr (.inr ⟨_, h1, rfl⟩), by rw [← isEmpty_len h2.length]; exact h⟩
      | _ => exact (show False from h).elim
def tOf (f : FE) : FT := fun Γ S Rx R => f Γ S Rx fun b S1 => truth b S1 fun k => R k S1
theorem xt_val (ha : XE X E a f) (he : ∀ whole, isTrue a X.env whole = (do let v ← whole; standAt a.pos; holding [v] (truthy v))) : XT X E a (tOf f) :=
  let ⟨_, p, s⟩ := ha.ex
  ⟨_, pt_truth p he, fun β S w σ Γ Rx R Q hR hG hf hk hx => s β S w σ Γ Rx _ _ hR hG hf (fun b S1 w1 v h1 R1 l1 d1 => by
    obtain ⟨k, h2, h3⟩ := truth_ok R1 d1 h1
    exact ⟨k, h2, hk k S1 w1 h3 R1 l1⟩) hx⟩
/-- a bool -/
def asBl (R : Bool → Sto → Prop) : RB := fun b S => match b with
  | .fz (.bl k) => R k S
  | _ => False
theorem asBl_ok {K : PySem.W.Frag} {n : Nat} {w : Wd} {b : B} {v : V} {S : Sto} {R : Bool → Sto → Prop} (h : asBl R b S) (hb : DenB K n w b v) : ∃ k, v = .bl k ∧ R k S := by
  cases b with
  | mt k => exact (show False from h).elim
  | fz d =>
    have hb : Den K w.F d v := hb
    cases hb <;> first | exact ⟨_, rfl, h⟩ | exact (show False from h).elim
def tBl (f : FE) : FT := fun Γ S Rx R => f Γ S Rx (asBl R)
theorem sndT_bl {K : PySem.W.Frag} {t : TE} (h : SndE K E t f) : SndT K E (tTest t) (tBl f) := fun β S w σ Γ Rx R Q hR hG hf hk hx =>
  h β S w σ Γ Rx _ _ hR hG hf (fun b S1 w1 v h1 R1 l1 d1 => by
    obtain ⟨k, rfl, h2⟩ := asBl_ok h1 d1
    exact ⟨k, rfl, hk k S1 w1 h2 R1 l1⟩) hx
theorem xt_cmp {op : CmpOp} {r : R2} {g : G2} (ho : OpR X (compareOp op) r) (hg : Snd2 X.K r g) (ha : XE X E a fa) (hb : XE X E b fb) (hm : behindInMarks op b = false) : XT X E (.Compare a [op] [b] pos) (tBl (eOp g fa fb)) :=
  let ⟨_, p, s⟩ := ha.ex; let ⟨_, q, t⟩ := hb.ex; ⟨_, pt_cmpR ho p q hm, sndT_bl (snd_op s t hg)⟩
def eChain (g g' : G2) (fa fb fc : FE) : FE := fun Γ S Rx R => fa Γ S Rx fun b S1 => fb Γ S1 Rx fun c S2 => g b c S2 (asBl fun k S3 => cnd k (fc Γ S3 Rx fun d S4 => g' c d S4 R) (R (.fz (.bl false)) S3))
theorem snd_chain {K : PySem.W.Frag} {ta tb tc : TE} {r r' : R2} {g g' : G2} (ha : SndE K E ta fa) (hb : SndE K E tb fb) (hc : SndE K E tc fc) (hg : Snd2 K r g) (hg' : Snd2 K r' g') : SndE K E (tChain r r' ta tb tc) (eChain g g' fa fb fc) :=
  fun β S w σ Γ Rx R Q hR hG hf hk hx => by
  refine ha β S w σ Γ Rx _ _ hR hG hf (fun b S1 w1 v h1 R1 l1 d1 => ?_) hx
  refine hb β S1 w1 σ Γ Rx _ _ R1 (hG.later l1) h1 (fun c S2 w2 u h2 R2 l2 d2 => ?_) (hx.later l1)
  refine hg β S2 w2 b c v u _ _ R2 (d1.later l2) d2 h2 fun d S3 w3 z h3 R3 l3 d3 => ?_
  have l03 := (l1.trans l2).trans l3
  obtain ⟨k, rfl, h4⟩ := asBl_ok h3 d3
  refine ⟨k, rfl, ?_⟩
  cases k with
  | true =>
    refine hc β S3 w3 σ Γ Rx _ _ R3 (hG.later l03) h4 (fun d S4 w4 u' h5 R4 l4 d4 => ?_) (hx.later l03)
    exact hg' β S4 w4 c d u u' R Q R4 (d2.later (l3.trans l4)) d4 h5 (hk.later (l03.trans l4))
  | false => exact hk _ S3 w3 (.bl false) h4 R3 l03 (.bl false)
theorem xchain {op op' : CmpOp} {r r' : R2} {g g' : G2} (ho : OpR X (compareOp op) r) (hg : Snd2 X.K r g) (ho' : OpR X (compareOp op') r') (hg' : Snd2 X.K r' g') (ha : XE X E a fa) (hb : XE X E b fb) (hc : XE X E c fc)
    (hm : lastMarks [op, op'] [b, c] = false := by with_unfolding_all rfl) : XE X E (.Compare a [op, op'] [b, c] pos) (eChain g g' fa fb fc) :=
  let ⟨_, p, s⟩ := ha.ex; let ⟨_, q, t⟩ := hb.ex; let ⟨_, o, u⟩ := hc.ex; ⟨_, pe_chain ho ho' p q o hm, snd_chain s t u hg hg'⟩
theorem xt_chain {op op' : CmpOp} {r r' : R2} {g g' : G2} (ho : OpR X (compareOp op) r) (hg : Snd2 X.K r g) (ho' : OpR X (compareOp op') r') (hg' : Snd2 X.K r' g') (ha : XE X E a fa) (hb : XE X E b fb) (hc : XE X E c fc)
    (hm : lastMarks [op, op'] [b, c] = false := by with_unfolding_all rfl) : XT X E (.Compare a [op, op'] [b, c] pos) (tBl (eChain g g' fa fb fc)) :=
  let ⟨_, p, s⟩ := ha.ex; let ⟨_, q, t⟩ := hb.ex; let ⟨_, o, u⟩ := hc.ex; ⟨_, pt_chain ho ho' p q o hm, sndT_bl (snd_chain s t u hg hg')⟩
/-! and, or, not: as tests -/
def tAndP (t u : FT) : FT := fun Γ S Rx R => t Γ S Rx fun k S1 => cnd k (u Γ S1 Rx R) (R false S1)
def tOrP (t u : FT) : FT := fun Γ S Rx R => t Γ S Rx fun k S1 => cnd k (R true S1) (u Γ S1 Rx R)
def tNotP (t : FT) : FT := fun Γ S Rx R => t Γ S Rx fun k S1 => R (!k) S1
variable {ft fu : FT} {rest : List Expr}
theorem xw_and1 (ha : XT X E a ft) : XW X E (.BoolOp .And [a] pos) ft := let ⟨_, p, s⟩ := ha.ex; ⟨_, pw_and1 p, s⟩
theorem xw_or1 (ha : XT X E a ft) : XW X E (.BoolOp .Or [a] pos) ft := let ⟨_, p, s⟩ := ha.ex; ⟨_, pw_or1 p, s⟩
theorem xw_and (ha : XT X E a ft) (hb : XW X E (.BoolOp .And (b :: rest) pos) fu) : XW X E (.BoolOp .And (a :: b :: rest) pos) (tAndP ft fu) :=
  let ⟨_, p, s⟩ := ha.ex; let ⟨_, q, t⟩ := hb.ex
  ⟨_, pw_and p q, fun β S w σ Γ Rx R Q hR hG hf hk hx => s β S w σ Γ Rx _ _ hR hG hf (fun k S1 w1 h1 R1 l1 => by
    cases k with
    | true => exact t β S1 w1 σ Γ Rx R Q R1 (hG.later l1) h1 (fun b S2 w2 h2 R2 l2 => hk b S2 w2 h2 R2 (l1.trans l2)) (hx.later l1)
    | false => exact hk false S1 w1 h1 R1 l1) hx⟩
theorem xw_or (ha : XT X E a ft) (hb : XW X E (.BoolOp .Or (b :: rest) pos) fu) : XW X E (.BoolOp .Or (a :: b :: rest) pos) (tOrP ft fu) :=
  let ⟨_, p, s⟩ := ha.ex; let ⟨_, q, t⟩ := hb.ex
  ⟨_, pw_or p q, fun β S w σ Γ Rx R Q hR hG hf hk hx => s β S w σ Γ Rx _ _ hR hG hf (fun k S1 w1 h1 R1 l1 => by
    cases k with
    | false => exact t β S1 w1 σ Γ Rx R Q R1 (hG.later l1) h1 (fun b S2 w2 h2 R2 l2 => hk b S2 w2 h2 R2 (l1.trans l2)) (hx.later l1)
    | true => exact hk true S1 w1 h1 R1 l1) hx⟩
theorem xt_w (h : XW X E a ft) : XT X E a ft := let ⟨_, p, s⟩ := h.ex; ⟨_, p.pt, s⟩
theorem xt_not (ha : XT X E a ft) : XT X E (.UnaryOp .Not a pos) (tNotP ft) :=
  let ⟨_, p, s⟩ := ha.ex
  ⟨_, pt_not p, fun β S w σ Γ Rx R Q hR hG hf hk hx => s β S w σ Γ Rx _ _ hR hG hf (fun k S1 w1 h1 R1 l1 => hk (!k) S1 w1 h1 R1 l1) hx⟩
/-! .. as values: bools -/
def eAnd (fa fb : FE) : FE := fun Γ S Rx R => fa Γ S Rx (asBl fun k S1 => cnd k (fb Γ S1 Rx R) (R (.fz (.bl false)) S1))
def eOr (fa fb : FE) : FE := fun Γ S Rx R => fa Γ S Rx (asBl fun k S1 => cnd k (R (.fz (.bl true)) S1) (fb Γ S1 Rx R))
def eNot (fa : FE) : FE := fun Γ S Rx R => fa Γ S Rx (asBl fun k S1 => R (.fz (.bl (!k))) S1)
theorem x_one {op} (ha : XE X E a fa) : XE X E (.BoolOp op [a] pos) fa := let ⟨_, p, s⟩ := ha.ex; ⟨_, pe_one p, s⟩
theorem x_and (ha : XE X E a fa) (hb : XE X E (.BoolOp .And (b :: rest) pos) fb) : XE X E (.BoolOp .And (a :: b :: rest) pos) (eAnd fa fb) :=
  let ⟨_, p, s⟩ := ha.ex; let ⟨_, q, t⟩ := hb.ex
  ⟨_, pe_and p q, fun β S w σ Γ Rx R Q hR hG hf hk hx => s β S w σ Γ Rx _ _ hR hG hf (fun b S1 w1 v h1 R1 l1 d1 => by
    obtain ⟨k, rfl, h2⟩ := asBl_ok h1 d1
    refine ⟨k, rfl, ?_⟩
    cases k with
    | true => exact t β S1 w1 σ Γ Rx R Q R1 (hG.later l1) h2 (hk.later l1) (hx.later l1)
    | false => exact hk _ S1 w1 (.bl false) h2 R1 l1 (.bl false)) hx⟩
theorem x_or (ha : XE X E a fa) (hb : XE X E (.BoolOp .Or (b :: rest) pos) fb) : XE X E (.BoolOp .Or (a :: b :: rest) pos) (eOr fa fb) :=
  let ⟨_, p, s⟩ := ha.ex; let ⟨_, q, t⟩ := hb.ex
  ⟨_, pe_or p q, fun β S w σ Γ Rx R Q hR hG hf hk hx => s β S w σ Γ Rx _ _ hR hG hf (fun b S1 w1 v h1 R1 l1 d1 => by
    obtain ⟨k, rfl, h2⟩ := asBl_ok h1 d1
    refine ⟨k, rfl, ?_⟩
    cases k with
    | false => exact t β S1 w1 σ Γ Rx R Q R1 (hG.later l1) h2 (hk.later l1) (hx.later l1)
    | true => exact hk _ S1 w1 (.bl true) h2 R1 l1 (.bl true)) hx⟩
theorem x_not (ha : XE X E a fa) : XE X E (.UnaryOp .Not a pos) (eNot fa) :=
  let ⟨_, p, s⟩ := ha.ex
  ⟨_, pe_not p, fun β S w σ Γ Rx R Q hR hG hf hk hx => s β S w σ Γ Rx _ _ hR hG hf (fun b S1 w1 v h1 R1 l1 d1 => by
    obtain ⟨k, rfl, h2⟩ := asBl_ok h1 d1
    exact ⟨k, rfl, hk _ S1 w1 (.bl _) h2 R1 l1 (.bl _)⟩) hx⟩
/-- a if t else b -/
def eIf (ft : FT) (fa fb : FE) : FE := fun Γ S Rx R => ft Γ S Rx fun k S1 => cnd k (fa Γ S1 Rx R) (fb Γ S1 Rx R)
theorem x_if (hc : XT X E c ft) (ha : XE X E a fa) (hb : XE X E b fb) : XE X E (.IfExp c a b pos) (eIf ft fa fb) :=
  let ⟨_, o, r⟩ := hc.ex; let ⟨_, p, s⟩ := ha.ex; let ⟨_, q, t⟩ := hb.ex
  ⟨_, pe_ifExp o p q, fun β S w σ Γ Rx R Q hR hG hf hk hx => r β S w σ Γ Rx _ _ hR hG hf (fun k S1 w1 h1 R1 l1 => by
    cases k with
    | true => exact s β S1 w1 σ Γ Rx R Q R1 (hG.later l1) h1 (hk.later l1) (hx.later l1)
    | false => exact t β S1 w1 σ Γ Rx R Q R1 (hG.later l1) h1 (hk.later l1) (hx.later l1)) hx⟩
/-! ### arguments, displays -/
def aNil : FA := fun _ S _ R => R [] S
def aCons (fe : FE) (fr : FA) : FA := fun Γ S Rx R => fe Γ S Rx fun b S1 => fr Γ S1 Rx fun bs S2 => R (b :: bs) S2
variable {fr : FA}
theorem xa_nil : XA X E [] aNil := ⟨_, pa_nil, fun β S w σ Γ Rx R Q hR hG hf hk hx => hk [] S w [] hf hR (.refl _ _) .nil⟩
theorem snd_cons {K : PySem.W.Frag} {t : TE} {u : TA} (s : SndE K E t fa) (r : SndA K E u fr) : SndA K E (tCons t u) (aCons fa fr) := fun β S w σ Γ Rx R Q hR hG hf hk hx =>
  s β S w σ Γ Rx _ _ hR hG hf (fun b S1 w1 v h1 R1 l1 d1 => r β S1 w1 σ Γ Rx _ _ R1 (hG.later l1) h1 (fun bs S2 w2 vs h2 R2 l2 d2 => hk _ S2 w2 _ h2 R2 (l1.trans l2) (.cons (d1.later l2) d2)) (hx.later l1)) hx
theorem xa_cons (ha : XE X E e fa) (hr : XA X E es fr) (hs : starEach (e :: es) X.env = (false, eval e X.env) :: starEach es X.env := by rfl) : XA X E (e :: es) (aCons fa fr) :=
  let ⟨_, p, s⟩ := ha.ex; let ⟨_, q, r⟩ := hr.ex
  ⟨_, pa_cons p q hs, snd_cons s r⟩
/-- all of these for good -/
def asDs : List B → (List D → Prop) → Prop
  | [], k => k []
  | .fz d :: bs, k => asDs bs fun ds => k (d :: ds)
  | _ :: _, _ => False
theorem asDs_ok {K : PySem.W.Frag} {n : Nat} {w : Wd} : ∀ {bs : List B} {vs : List V} {k : List D → Prop}, asDs bs k → DenBL K n w bs vs → ∃ ds, k ds ∧ DenL K w.F ds vs
  | [], _, _, h, .nil => ⟨[], h, .nil⟩
  | .fz d :: bs, _, _, h, .cons h1 t => by
    obtain ⟨ds, h2, h3⟩ := asDs_ok (bs := bs) h t
    exact ⟨d :: ds, h2, .cons h1 h3⟩
  | .mt _ :: _, _, _, h, _ => (show False from h).elim
theorem asDs_map {ds : List D} {k : List D → Prop} (h : k ds) : asDs (ds.map .fz) k := by
  induction ds generalizing k with
  | nil => exact h
  | cons d ds ih => exact ih (k := fun ds => k (d :: ds)) h
def eLst (fr : FA) : FE := fun Γ S Rx R => fr Γ S Rx fun bs S1 => bs.length ≤ sizeLine ∧ asDs bs fun ds => R (.fz (.lst ds)) S1
def eTup (fr : FA) : FE := fun Γ S Rx R => fr Γ S Rx fun bs S1 => bs.length ≤ sizeLine ∧ asDs bs fun ds => R (.fz (.tup ds)) S1
/-- a list that will change -/
def eLstM (fr : FA) : FE := fun Γ S Rx R => fr Γ S Rx fun bs S1 => bs.length ≤ sizeLine ∧ R (.mt S1.length) (S1 ++ [.lst bs])
theorem x_lst (ha : XA X E es fr) : XE X E (.List es pos) (eLst fr) :=
  let ⟨_, p, s⟩ := ha.ex
  ⟨_, pe_lst p, fun β S w σ Γ Rx R Q hR hG hf hk hx => s β S w σ Γ Rx _ _ hR hG hf (fun bs S1 w1 vs h1 R1 l1 d1 => ⟨by rw [← d1.length]; exact h1.1, fun p hp => by
    obtain ⟨ds, h2, h3⟩ := asDs_ok h1.2 d1
    exact (hk.later l1).newL R1 h2 h3 hp⟩) hx⟩
theorem x_tup {k1} (ha : XA X E es fr) : XE X E (.Tuple es k1 pos) (eTup fr) :=
  let ⟨_, p, s⟩ := ha.ex
  ⟨_, pe_tup p, fun β S w σ Γ Rx R Q hR hG hf hk hx => s β S w σ Γ Rx _ _ hR hG hf (fun bs S1 w1 vs h1 R1 l1 d1 => ⟨by rw [← d1.length]; exact h1.1, fun p hp => by
    obtain ⟨ds, h2, h3⟩ := asDs_ok h1.2 d1
    exact (hk.later l1).newT R1 h2 h3 hp⟩) hx⟩
/-- a new cell -/
theorem KOk.newM {K : PySem.W.Frag} {β : Base} {S : Sto} {w : Wd} {R : RB} {Q : VK} {bs : List B} {vs : List V} (hk : KOk K β S.length w R Q) (hR : Rel K β S w) (h : R (.mt S.length) (S ++ [.lst bs])) (hd : DenBL K S.length w bs vs) {p : Addr} (hp : w.H p = none) : Q (.ref p) (upd w.H p (.lst vs)) := by
  obtain ⟨R1, l1⟩ := hR.newC hp (.lst vs) (c := .lst bs) ⟨vs, upd_same, DenBL.later (n := S.length) (w := w) (n' := S.length) (w' := ⟨w.m, w.F, upd w.H p (.lst vs)⟩) ⟨Nat.le_refl _, fun _ _ => rfl, .refl w.F⟩ hd⟩
  exact hk _ _ _ (.ref p) h R1 l1 ⟨by rw [List.length_append]; exact Nat.lt_succ_self _, congrArg V.ref (if_pos rfl).symm⟩
theorem x_lstM (ha : XA X E es fr) : XE X E (.List es pos) (eLstM fr) :=
  let ⟨_, p, s⟩ := ha.ex
  ⟨_, pe_lst p, fun β S w σ Γ Rx R Q hR hG hf hk hx => s β S w σ Γ Rx _ _ hR hG hf (fun bs S1 w1 vs h1 R1 l1 d1 => ⟨by rw [← d1.length]; exact h1.1, fun p hp => (hk.later l1).newM R1 h1.2 d1 hp⟩) hx⟩
/-! ### subscripts, slices -/
theorem atI_len {α γ : Type} {xs : List α} {ys : List γ} (h : xs.length = ys.length) {i : Int} {x : α} (e : atI xs i = some x) : ∃ j : Nat, xs[j]? = some x ∧ ∀ y, ys[j]? = some y → atI ys i = some y := by
  unfold atI at e ⊢
  rw [h] at e
  cases hj : ixN ys.length i with
  | none => rw [hj] at e; cases e
  | some j => rw [hj] at e; exact ⟨j, e, fun y hy => hy⟩
def optK {α : Type} (o : Option α) (k : α → Prop) : Prop := match o with
  | some x => k x
  | none => False
theorem optK_ok {α : Type} {o : Option α} {k : α → Prop} (h : optK o k) : ∃ x, o = some x ∧ k x := by
  cases o with
  | none => exact (show False from h).elim
  | some x => exact ⟨x, rfl, h⟩
def gIx : G2 := fun b c S R => match c with
  | .fz (.int i) => (match b with
    | .fz (.lst ds) => optK (atI ds i) fun d => R (.fz d) S
    | .fz (.tup ds) => optK (atI ds i) fun d => R (.fz d) S
    | .fz (.str z) => z.length ≤ sizeLine ∧ optK (atI z.cps.toList i) fun c => R (.fz (.str ⟨#[c]⟩)) S
    | .mt k => (match S[k]? with
      | some (.lst bs) => optK (atI bs i) fun b => R b S
      | _ => False)
    | _ => False)
  | _ => False
theorem Rel.cellL {K : PySem.W.Frag} {β : Base} {S : Sto} {w : Wd} (hR : Rel K β S w) {k : Nat} {bs : List B} (h : S[k]? = some (.lst bs)) : ∃ vs, w.H (w.m k) = some (.lst vs) ∧ DenBL K S.length w bs vs := (hR.live k _ h (by intro z; cases z)).ok
theorem Rel.cellD {K : PySem.W.Frag} {β : Base} {S : Sto} {w : Wd} (hR : Rel K β S w) {k : Nat} {bs : List (Key × B)} (h : S[k]? = some (.dic bs)) : ∃ vs, w.H (w.m k) = some (.dK vs) ∧ DenBK K S.length w bs vs := (hR.live k _ h (by intro z; cases z)).ok
theorem Rel.cellI {K : PySem.W.Frag} {β : Base} {S : Sto} {w : Wd} (hR : Rel K β S w) {k : Nat} {C : Str} {bs : List (Str × B)} (h : S[k]? = some (.ins C bs)) : ∃ dx vs, w.H (w.m k) = some (.ins (clsAt K C) dx vs) ∧ DenBF K S.length w bs vs := (hR.live k _ h (by intro z; cases z)).ok
theorem cell_lst {S : Sto} {k : Nat} {f : List B → Prop} (h : match S[k]? with
    | some (.lst bs) => f bs
    | _ => False) : ∃ bs, S[k]? = some (.lst bs) ∧ f bs := by
  cases hc : S[k]? with
  | none => rw [hc] at h; exact h.elim
  | some cl =>
    rw [hc] at h
    cases cl with
    | lst bs => exact ⟨bs, rfl, h⟩
    | _ => exact (show False from h).elim
theorem snd_ix {K : PySem.W.Frag} : Snd2 K (rIx K) gIx := fun β S w b c v u R Q hR hb hc hg hk => by
  cases c with
  | mt k => exact (show False from hg).elim
  | fz x =>
    have hc : Den K w.F x u := hc
    cases hc with
    | int i =>
      cases b with
      | mt k =>
        obtain ⟨hk', rfl⟩ := hb
        obtain ⟨bs, e1, h1⟩ := cell_lst (f := fun bs => optK (atI bs i) fun b => R b S) hg
        obtain ⟨b, e2, h2⟩ := optK_ok h1
        obtain ⟨vs, h3, h4⟩ := hR.cellL e1
        obtain ⟨j, e3, e4⟩ := atI_len h4.length e2
        obtain ⟨v, e5, h5⟩ := h4.get e3
        exact .inl ⟨_, vs, i, v, rfl, rfl, SqL.of h3, e4 v e5, hk b S w v h2 hR (.refl _ _) h5⟩
      | fz y =>
        have hb : Den K w.F y v := hb
        cases hb with
        | lst h3 h4 =>
          obtain ⟨d, e2, h2⟩ := optK_ok hg
          obtain ⟨j, e3, e4⟩ := atI_len h4.length e2
          obtain ⟨v, e5, h5⟩ := h4.getD e3
          exact .inl ⟨_, _, i, v, rfl, rfl, SqL.of (hR.fr _ _ h3), e4 v e5, hk.fz hR h2 h5⟩
        | tup h3 h4 =>
          obtain ⟨d, e2, h2⟩ := optK_ok hg
          obtain ⟨j, e3, e4⟩ := atI_len h4.length e2
          obtain ⟨v, e5, h5⟩ := h4.getD e3
          exact .inr (.inl ⟨_, _, i, v, rfl, rfl, sqT_same hR.fr h3, e4 v e5, hk.fz hR h2 h5⟩)
        | str z =>
          obtain ⟨h0, h1⟩ := hg
          obtain ⟨c, e2, h2⟩ := optK_ok h1
          exact .inr (.inr ⟨z, i, c, rfl, rfl, h0, e2, hk.fz hR h2 (.str _)⟩)
        | _ => exact (show False from hg).elim
    | _ => cases b <;> exact (show False from hg).elim
abbrev FO := Ev → Sto → XP → (Option Int → Sto → Prop) → Prop
def SndO (K : PySem.W.Frag) (E : XK) (t : TO) (f : FO) : Prop :=
  ∀ β S w σ Γ Rx R (Q : Option Int → Hp → Prop), Rel K β S w → EvOk K S.length w Γ σ → f Γ S Rx R → (∀ o S' w', R o S' → Rel K β S' w' → Later S.length w S'.length w' → Q o w'.H) → XOk K E β S.length w Rx → t σ w.H Q
structure XO (X : Cx) (E : XK) (e : Option Expr) (f : FO) : Prop where
  ex : ∃ t, PO X e t ∧ SndO X.K E t f
def oNone : FO := fun _ S _ R => R none S
def asInt (R : Int → Sto → Prop) : RB := fun b S => match b with
  | .fz (.int i) => R i S
  | _ => False
theorem asInt_ok {K : PySem.W.Frag} {n : Nat} {w : Wd} {b : B} {v : V} {S : Sto} {R : Int → Sto → Prop} (h : asInt R b S) (hb : DenB K n w b v) : ∃ k, v = .int k ∧ R k S := by
  cases b with
  | mt k => exact (show False from h).elim
  | fz d =>
    have hb : Den K w.F d v := hb
    cases hb <;> first | exact ⟨_, rfl, h⟩ | exact (show False from h).elim
def oSome (f : FE) : FO := fun Γ S Rx R => f Γ S Rx (asInt fun i S1 => R (some i) S1)
theorem xo_none : XO X E none oNone := ⟨_, po_none, fun β S w σ Γ Rx R Q hR hG hf hk hx => hk none S w hf hR (.refl _ _)⟩
theorem xo_some (ha : XE X E e f) : XO X E (some e) (oSome f) :=
  let ⟨_, p, s⟩ := ha.ex
  ⟨_, po_some p, fun β S w σ Γ Rx R Q hR hG hf hk hx => s β S w σ Γ Rx _ _ hR hG hf (fun b S1 w1 v h1 R1 l1 d1 => by
    obtain ⟨i, rfl, h2⟩ := asInt_ok h1 d1
    exact ⟨i, rfl, hk _ S1 w1 h2 R1 l1⟩) hx⟩
def cutA {α : Type} (xs : List α) (lo hi : Option Int) : List α := (xs.drop (HT.sIx xs.length 0 lo)).take (HT.sIx xs.length xs.length hi - HT.sIx xs.length 0 lo)
def gSl (b : B) (lo hi : Option Int) (S : Sto) (R : RB) : Prop := match b with
  | .fz (.lst ds) => R (.fz (.lst (cutA ds lo hi))) S
  | .fz (.tup ds) => ¬ (HT.sIx ds.length 0 lo = 0 ∧ HT.sIx ds.length ds.length hi = ds.length) ∧ R (.fz (.tup (cutA ds lo hi))) S
  | .fz (.str z) => z.length ≤ sizeLine ∧ R (.fz (.str (cutS z lo hi))) S
  | .mt k => (match S[k]? with
    | some (.lst bs) => asDs bs fun ds => R (.fz (.lst (cutA ds lo hi))) S
    | _ => False)
  | _ => False
def rSlA (K : PySem.W.Frag) : V → Option Int → Option Int → Hp → VK → Prop := fun x lo hi H Q => rSlL K x lo hi H Q ∨ rSlT K x lo hi H Q ∨ rSlS x lo hi H Q
theorem sl_all : SlR X (rSlA X.K) := sl_list.or (sl_tup.or sl_str)
theorem DenL.cut {K : PySem.W.Frag} {F : Hp} {ds : List D} {vs : List V} (h : DenL K F ds vs) (lo hi : Option Int) : DenL K F (cutA ds lo hi) (cutV vs lo hi) := by
  unfold cutA cutV
  rw [h.length]
  exact (h.drop _).take _
theorem asDs_eq {bs : List B} {k : List D → Prop} (h : asDs bs k) : ∃ ds, bs = ds.map .fz ∧ k ds := by
  induction bs generalizing k with
  | nil => exact ⟨[], rfl, h⟩
  | cons b bs ih =>
    cases b with
    | mt k => exact (show False from h).elim
    | fz d =>
      obtain ⟨ds, e, h2⟩ := ih (k := fun ds => k (d :: ds)) h
      exact ⟨d :: ds, by rw [e]; rfl, h2⟩
theorem snd_sl {K : PySem.W.Frag} {β : Base} {S : Sto} {w : Wd} {b : B} {v : V} {lo hi : Option Int} {R : RB} {Q : VK} (hR : Rel K β S w) (hb : DenB K S.length w b v) (hg : gSl b lo hi S R) (hk : KOk K β S.length w R Q) : rSlA K v lo hi w.H Q := by
  cases b with
  | mt k =>
    obtain ⟨_, rfl⟩ := hb
    obtain ⟨bs, e1, h1⟩ := cell_lst (f := fun bs => asDs bs fun ds => R (.fz (.lst (cutA ds lo hi))) S) hg
    obtain ⟨vs, h3, h4⟩ := hR.cellL e1
    obtain ⟨ds, rfl, h2⟩ := asDs_eq h1
    have h5 := h4.fz
    exact .inl ⟨_, vs, rfl, SqL.of h3, fun p hp => hk.newL hR h2 (h5.cut lo hi) hp⟩
  | fz y =>
    have hb : Den K w.F y v := hb
    cases hb with
    | lst h3 h4 => exact .inl ⟨_, _, rfl, SqL.of (hR.fr _ _ h3), fun p hp => hk.newL hR hg (h4.cut lo hi) hp⟩
    | tup h3 h4 => exact .inr (.inl ⟨_, _, rfl, sqT_same hR.fr h3, by rw [← h4.length]; exact hg.1, fun p hp => hk.newT hR hg.2 (h4.cut lo hi) hp⟩)
    | str z => exact .inr (.inr ⟨z, rfl, hg.1, hk.fz hR hg.2 (.str _)⟩)
    | _ => exact (show False from hg).elim
def eSl (f : FE) (lo hi : FO) : FE := fun Γ S Rx R => f Γ S Rx fun b S1 => lo Γ S1 Rx fun l S2 => hi Γ S2 Rx fun h S3 => gSl b l h S3 R
theorem xsl {lo hi : Option Expr} {p2 : Pos} {fl fh : FO} (ha : XE X E e f) (hl : XO X E lo fl) (hh : XO X E hi fh) : XE X E (.Subscript e (.Slice lo hi none p2) pos) (eSl f fl fh) :=
  let ⟨_, p, s⟩ := ha.ex; let ⟨_, q, t⟩ := hl.ex; let ⟨_, r, u⟩ := hh.ex
  ⟨_, pe_slice sl_all p q r, fun β S w σ Γ Rx R Q hR hG hf hk hx => s β S w σ Γ Rx _ _ hR hG hf (fun b S1 w1 v h1 R1 l1 d1 =>
    t β S1 w1 σ Γ Rx _ _ R1 (hG.later l1) h1 (fun l S2 w2 h2 R2 l2 => u β S2 w2 σ Γ Rx _ _ R2 (hG.later (l1.trans l2)) h2 (fun h S3 w3 h3 R3 l3 => snd_sl R3 (d1.later (l2.trans l3)) h3 (hk.later ((l1.trans l2).trans l3))) (hx.later (l1.trans l2))) (hx.later l1)) hx⟩
/-! ### built-in functions -/
def eCall (g : GL) (fr : FA) : FE := fun Γ S Rx R => fr Γ S Rx fun bs S1 => g bs S1 R
theorem snd_call {K : PySem.W.Frag} {t : TA} {r : List V → Hp → VK → Prop} {g : GL} (s : SndA K E t fr) (hg : SndL K r g) : SndE K E (tCB r t) (eCall g fr) := fun β S w σ Γ Rx R Q hR hG hf hk hx =>
  s β S w σ Γ Rx _ _ hR hG hf (fun bs S1 w1 vs h1 R1 l1 d1 => hg β S1 w1 bs vs R Q R1 d1 h1 (hk.later l1)) hx
variable {x : Str} {p0 : Pos} {id T : String} {r : List V → Hp → VK → Prop} {g : GL}
theorem xcallB (hc : CallR X (.builtin id) r) (hs : SndL X.K r g) (hg : Gl X x) (hm : X.mg x = none) (hv : bootBuiltins x = some (.builtin id)) (ha : XA X E (e :: es) fr) (hn : x ≠ "__name__" := by decide) (hdb : (x == ("__debug__" : Str)) = false := by decide)
    (he : starEach (e :: es) X.env = (false, eval e X.env) :: starEach es X.env := by rfl) (hpl : (backTo pos (starEach es X.env)).any (·.1) = false := by rfl) : XE X E (.Call (.Name x p0) (e :: es) [] pos) (eCall g fr) :=
  let ⟨_, p, s⟩ := ha.ex; ⟨_, pe_callB hc hg hm hv p hn hdb he hpl, snd_call s hs⟩
theorem xcallTy (hc : CallR X (.type T) r) (hs : SndL X.K r g) (hg : Gl X x) (hm : X.mg x = none) (hv : bootBuiltins x = some (.type T)) (ha : XA X E (e :: es) fr) (hn : x ≠ "__name__" := by decide) (hdb : (x == ("__debug__" : Str)) = false := by decide)
    (he : starEach (e :: es) X.env = (false, eval e X.env) :: starEach es X.env := by rfl) (hpl : (backTo pos (starEach es X.env)).any (·.1) = false := by rfl) : XE X E (.Call (.Name x p0) (e :: es) [] pos) (eCall g fr) :=
  let ⟨_, p, s⟩ := ha.ex; ⟨_, pe_callTy hc hg hm hv p hn hdb he hpl, snd_call s hs⟩
def gLen : GL := fun bs S R => match bs with
  | [.fz (.lst ds)] => R (.fz (.int ds.length)) S
  | [.fz (.tup ds)] => R (.fz (.int ds.length)) S
  | [.fz (.str z)] => z.length ≤ sizeLine ∧ R (.fz (.int z.length)) S
  | [.mt k] => (match S[k]? with
    | some (.lst bs) => R (.fz (.int bs.length)) S
    | _ => False)
  | _ => False
theorem snd_len {K : PySem.W.Frag} : SndL K (fun xs H Q => ∃ x n, xs = [x] ∧ LenV K x H n ∧ Q (.int n) H) gLen := fun β S w bs vs R Q hR hb hg hk => by
  cases hb with
  | nil => exact (show False from hg).elim
  | @cons b v bs vs hb ht =>
    cases ht with
    | cons _ _ => cases b with
      | mt k => exact (show False from hg).elim
      | fz d => cases d <;> exact (show False from hg).elim
    | nil =>
      cases b with
      | mt k =>
        obtain ⟨_, rfl⟩ := hb
        obtain ⟨bs, e1, h1⟩ := cell_lst (f := fun bs => R (.fz (.int bs.length)) S) hg
        obtain ⟨vs, h3, h4⟩ := hR.cellL e1
        exact ⟨_, _, rfl, .inl ⟨vs, SqL.of h3, rfl⟩, hk.fz hR (by rw [← h4.length]; exact h1) (.int _)⟩
      | fz d =>
        have hb : Den K w.F d v := hb
        cases hb with
        | lst h3 h4 => exact ⟨_, _, rfl, .inl ⟨_, SqL.of (hR.fr _ _ h3), rfl⟩, hk.fz hR (by rw [← h4.length]; exact hg) (.int _)⟩
        | tup h3 h4 => exact ⟨_, _, rfl, .inr ⟨_, sqT_same hR.fr h3, rfl⟩, hk.fz hR (by rw [← h4.length]; exact hg) (.int _)⟩
        | str z => exact ⟨_, _, rfl, ⟨hg.1, rfl⟩, hk.fz hR hg.2 (.int _)⟩
        | _ => exact (show False from hg).elim
end
end PL
namespace PL
open PySem L2
/-! ### another entry -/
section
variable {K : PySem.W.Frag} {β : Base} {S S' : Sto} {w w' : Wd}
open Classical
/-- the entry here: all but the living cells is to stay -/
noncomputable def reb (S : Sto) (w : Wd) : Base := ⟨fun a => if ∃ k c, S[k]? = some c ∧ c ≠ Cell.dead ∧ w.m k = a then none else w.H a, w.F, w.m, S.length⟩
theorem reb_live {k : Nat} {c : Cell} (h : S[k]? = some c) (hd : c ≠ .dead) : (reb S w).H0 (w.m k) = none := if_pos ⟨k, c, h, hd, rfl⟩
theorem reb_some {a : Addr} {o : HO} (h : (reb S w).H0 a = some o) : w.H a = some o ∧ ∀ k c, S[k]? = some c → c ≠ .dead → w.m k ≠ a := by
  unfold reb at h
  by_cases z : ∃ k c, S[k]? = some c ∧ c ≠ Cell.dead ∧ w.m k = a
  · have h : (if ∃ k c, S[k]? = some c ∧ c ≠ Cell.dead ∧ w.m k = a then none else w.H a) = some o := h
    rw [if_pos z] at h
    cases h
  · have h : (if ∃ k c, S[k]? = some c ∧ c ≠ Cell.dead ∧ w.m k = a then none else w.H a) = some o := h
    rw [if_neg z] at h
    exact ⟨h, fun k c h1 h2 h3 => z ⟨k, c, h1, h2, h3⟩⟩
theorem reb_of {a : Addr} {o : HO} (h : w.H a = some o) (n : ∀ k c, S[k]? = some c → c ≠ .dead → w.m k ≠ a) : (reb S w).H0 a = some o :=
  (if_neg fun ⟨k, c, h1, h2, h3⟩ => n k c h1 h2 h3).trans h
theorem Rel.reb (R : Rel K β S w) : Rel K (reb S w) S w :=
  ⟨R.fr, fun a o h => (reb_some h).1, .refl _, fun a o h => .inl h, fun _ _ => rfl, Nat.le_refl _, fun k c h hd => let L := R.live k c h hd; ⟨L.nf, reb_live h hd, L.ok⟩, R.inj⟩
theorem reb_none (R : Rel K β S w) {a : Addr} (h : (PL.reb S w).H0 a = none) : β.H0 a = none := by
  by_cases z : ∃ k c, S[k]? = some c ∧ c ≠ Cell.dead ∧ w.m k = a
  · obtain ⟨k, c, h1, h2, rfl⟩ := z
    exact (R.live k c h1 h2).n0
  · have h : (if ∃ k c, S[k]? = some c ∧ c ≠ Cell.dead ∧ w.m k = a then none else w.H a) = none := h
    rw [if_neg z] at h
    exact R.keep.free h
theorem Rel.unreb (R : Rel K β S w) (R' : Rel K (PL.reb S w) S' w') : Rel K β S' w' ∧ Later S.length w S'.length w' := by
  have l : Later S.length w S'.length w' := ⟨R'.n0, fun k h => R'.m0 k h, R'.f0⟩
  refine ⟨⟨R'.fr, fun a o h => ?_, R.f0.trans R'.f0, fun a o h => ?_, fun k h => (R'.m0 k (Nat.lt_of_lt_of_le h R.n0)).trans (R.m0 k h), Nat.le_trans R.n0 R'.n0, fun k c h hd => ?_, R'.inj⟩, l⟩
  · refine R'.keep a o (reb_of (R.keep _ _ h) fun k c h1 h2 e => ?_)
    rw [← e, (R.live k c h1 h2).n0] at h
    cases h
  · rcases R'.fn a o h with q | q
    · exact R.fn a o q
    · exact .inr (reb_none R q)
  · have L := R'.live k c h hd
    exact ⟨L.nf, reb_none R L.n0, L.ok⟩
/-- a thing that nobody knows of changes -/
theorem Rel.updFree (R : Rel K β S w) {D : Addr} {o : HO} (hF : w.F D = none) (h0 : β.H0 D = none) (hl : ∀ k c, S[k]? = some c → c ≠ .dead → w.m k ≠ D) : Rel K β S ⟨w.m, w.F, upd w.H D o⟩ ∧ Later S.length w S.length ⟨w.m, w.F, upd w.H D o⟩ := by
  have lt : Later S.length w S.length ⟨w.m, w.F, upd w.H D o⟩ := ⟨Nat.le_refl _, fun _ _ => rfl, .refl _⟩
  refine ⟨⟨fun b u h => (upd_ne (ne_of_none h hF)).trans (R.fr _ _ h), fun b u h => (upd_ne (ne_of_none h h0)).trans (R.keep _ _ h), R.f0, R.fn, R.m0, R.n0, fun k c h hd => ?_, R.inj⟩, lt⟩
  have L := R.live k c h hd
  exact ⟨L.nf, L.n0, L.ok.later lt (upd_ne (hl k c h hd))⟩
theorem Rel.freshL (R : Rel K β S w) {D : Addr} (h : w.H D = none) : ∀ k c, S[k]? = some c → c ≠ .dead → w.m k ≠ D := fun k c h1 h2 => by
  obtain ⟨o, ho⟩ := (R.live k c h1 h2).ok.some h2
  exact ne_of_none ho h
end
/-! ### statements -/
structure EndsP where
  nx : Ev → Sto → Prop
  rt : B → Sto → Prop
  xe : XP
  bk : Ev → Sto → Prop := fun _ _ => False
  ct : Ev → Sto → Prop := fun _ _ => False
abbrev FS := Ev → Sto → EndsP → Prop
structure EndsOk (K : PySem.W.Frag) (E : XK) (β : Base) (P : EndsP) (D : Ends) : Prop where
  nx : ∀ Γ S w σ, P.nx Γ S → Rel K β S w → EvOk K S.length w Γ σ → D.nx σ w.H
  rt : ∀ b S w v, P.rt b S → Rel K β S w → DenB K S.length w b v → D.rt v w.H
  xe : ∀ C fs S w d vs, P.xe C fs S → Rel K β S w → w.F d = some (.xd vs) → DenF K w.F fs vs → E (.ref (clsAt K C)) (some d) w.H
  bk : ∀ Γ S w σ, P.bk Γ S → Rel K β S w → EvOk K S.length w Γ σ → D.bk σ w.H
  ct : ∀ Γ S w σ, P.ct Γ S → Rel K β S w → EvOk K S.length w Γ σ → D.ct σ w.H
theorem EndsOk.x {K : PySem.W.Frag} {E : XK} {β : Base} {P : EndsP} {D : Ends} (h : EndsOk K E β P D) {n : Nat} {w : Wd} : XOk K E β n w P.xe := fun C fs S' w' d vs r R _ hd hf => h.xe C fs S' w' d vs r R hd hf
def SndS (K : PySem.W.Frag) (E : XK) (t : TS) (f : FS) : Prop := ∀ β S w σ Γ P D, Rel K β S w → EvOk K S.length w Γ σ → f Γ S P → EndsOk K E β P D → t D σ w.H
structure XS (X : Cx) (E : XK) (st : Stmt) (f : FS) : Prop where
  ex : ∃ t, PS X st t ∧ SndS X.K E t f
structure XSs (X : Cx) (E : XK) (st : List Stmt) (f : FS) : Prop where
  ex : ∃ t, PSs X st t ∧ SndS X.K E t f
abbrev FG := B → Ev → Sto → (Ev → Sto → Prop) → Prop
/-- a target: the slots that it stores -/
def SndG (K : PySem.W.Frag) (t : TG) (g : FG) (is : List Nat) : Prop := ∀ β S w σ Γ b v R (Q : St → Hp → Prop), Rel K β S w → EvOk K S.length w Γ σ → DenB K S.length w b v → g b Γ S R →
  (∀ Γ' S' w' σ', R Γ' S' → Rel K β S' w' → Later S.length w S'.length w' → EvOk K S'.length w' Γ' σ' → (∀ vs : List Nat, (∀ i ∈ is, i ∈ vs) → wipe σ' vs = wipe σ vs) → Q σ' w'.H) → t v σ w.H Q
structure XG (X : Cx) (tg : Expr) (g : FG) (is : List Nat) : Prop where
  ex : ∃ t, PG X tg t ∧ SndG X.K t g is
section
variable {X : Cx} {E : XK} {st : Stmt} {rest : List Stmt} {f u : FS} {e : Expr} {fe : FE} {pos : Pos}
def sNext : FS := fun Γ S P => P.nx Γ S
def sSeq (f u : FS) : FS := fun Γ S P => f Γ S { P with nx := fun Γ1 S1 => u Γ1 S1 P }
theorem xss_nil : XSs X E [] sNext := ⟨_, pss_nil, fun β S w σ Γ P D hR hG hf hk => hk.nx Γ S w σ hf hR hG⟩
theorem xss_cons (h : XS X E st f) (hr : XSs X E rest u) : XSs X E (st :: rest) (sSeq f u) :=
  let ⟨_, p, s⟩ := h.ex; let ⟨_, q, r⟩ := hr.ex
  ⟨_, pss_cons p q, fun β S w σ Γ P D hR hG hf hk => s β S w σ Γ _ _ hR hG hf ⟨fun Γ1 S1 w1 σ1 h1 R1 G1 => r β S1 w1 σ1 Γ1 P D R1 G1 h1 hk, hk.rt, hk.xe, hk.bk, hk.ct⟩⟩
theorem xss_one (h : XS X E st f) : XSs X E [st] f := let ⟨_, p, s⟩ := h.ex; ⟨_, pss_one p, s⟩
def sBrk : FS := fun Γ S P => P.bk Γ S
def sCnt : FS := fun Γ S P => P.ct Γ S
theorem xs_pass : XS X E (.Pass pos) sNext := ⟨_, ps_pass, fun β S w σ Γ P D hR hG hf hk => hk.nx Γ S w σ hf hR hG⟩
theorem xs_break : XS X E (.Break pos) sBrk := ⟨_, ps_break, fun β S w σ Γ P D hR hG hf hk => hk.bk Γ S w σ hf hR hG⟩
theorem xs_cont : XS X E (.Continue pos) sCnt := ⟨_, ps_continue, fun β S w σ Γ P D hR hG hf hk => hk.ct Γ S w σ hf hR hG⟩
theorem xs_doc {z j pos'} : XS X E (.Expr (.Constant (.str z) j pos) pos') sNext := ⟨_, ps_doc, fun β S w σ Γ P D hR hG hf hk => hk.nx Γ S w σ hf hR hG⟩
def sExpr (fe : FE) : FS := fun Γ S P => fe Γ S P.xe fun _ S1 => P.nx Γ S1
theorem xs_expr (he : XE X E e fe) (hs : swapsWith e none pos.line X.env = pure false := by rfl) : XS X E (.Expr e pos) (sExpr fe) :=
  let ⟨_, p, s⟩ := he.ex
  ⟨_, ps_expr p hs, fun β S w σ Γ P D hR hG hf hk => s β S w σ Γ _ _ _ hR hG hf (fun b S1 w1 v h1 R1 l1 d1 => hk.nx Γ S1 w1 σ h1 R1 (hG.later l1)) hk.x⟩
def sRet (fe : FE) : FS := fun Γ S P => fe Γ S P.xe P.rt
theorem xs_ret (he : XE X E e fe) : XS X E (.Return (some e) pos) (sRet fe) :=
  let ⟨_, p, s⟩ := he.ex
  ⟨_, ps_ret p, fun β S w σ Γ P D hR hG hf hk => s β S w σ Γ _ _ _ hR hG hf (fun b S1 w1 v h1 R1 l1 d1 => hk.rt b S1 w1 v h1 R1 d1) hk.x⟩
def sRetN : FS := fun _ S P => P.rt (.fz .non) S
theorem xs_retN : XS X E (.Return none pos) sRetN := ⟨_, ps_retN, fun β S w σ Γ P D hR hG hf hk => hk.rt _ S w .non hf hR .non⟩
def sIf (c : FT) (f u : FS) : FS := fun Γ S P => c Γ S P.xe fun k S1 => cnd k (f Γ S1 P) (u Γ S1 P)
theorem xs_if {c : Expr} {a b : List Stmt} {fc : FT} (hc : XT X E c fc) (ha : XSs X E a f) (hb : XSs X E b u) : XS X E (.If c a b pos) (sIf fc f u) :=
  let ⟨_, o, r⟩ := hc.ex; let ⟨_, p, s⟩ := ha.ex; let ⟨_, q, t⟩ := hb.ex
  ⟨_, ps_if o p q, fun β S w σ Γ P D hR hG hf hk => r β S w σ Γ _ _ _ hR hG hf (fun k S1 w1 h1 R1 l1 => by
    cases k with
    | true => exact s β S1 w1 σ Γ P D R1 (hG.later l1) h1 hk
    | false => exact t β S1 w1 σ Γ P D R1 (hG.later l1) h1 hk) hk.x⟩
/-- code that is never come to -/
def sNever : FS := fun _ _ _ => False
theorem xs_never : XS X E st sNever := ⟨_, ps_never, fun β S w σ Γ P D hR hG hf hk => hf⟩
theorem xss_never {sts : List Stmt} : XSs X E sts sNever := ⟨_, pss_never, fun β S w σ Γ P D hR hG hf hk => hf⟩
/-! targets -/
theorem wipe_set {σ : St} {i : Nat} {x : Option V} : ∀ {vs : List Nat}, i ∈ vs → wipe (σ.set i x) vs = wipe σ vs
  | [], h => by cases h
  | v :: vs, h => by
    unfold wipe
    by_cases hi : i ∈ vs
    · rw [wipe_set hi]
    · have e : i = v := by
        rcases List.mem_cons.mp h with e | e
        · exact e
        · exact absurd e hi
      subst e
      have go : ∀ vs : List Nat, i ∉ vs → wipe (σ.set i x) vs = (wipe σ vs).set i x := by
        intro vs
        induction vs with
        | nil => intro _; rfl
        | cons v vs ih =>
          intro hn
          have h1 : i ≠ v := fun e => hn (e ▸ List.mem_cons_self)
          have h2 : i ∉ vs := fun e => hn (List.mem_cons_of_mem _ e)
          show (wipe (σ.set i x) vs).set v none = ((wipe σ vs).set v none).set i x
          rw [ih h2, List.set_comm _ _ h1]
      rw [go vs hi, List.set_set]
def gN (i : Nat) : FG := fun b Γ S R => R (Γ.set i (some b)) S
theorem xg_name {tg : Expr} {i : Nat} (h : PG X tg (gName i)) : XG X tg (gN i) [i] := ⟨_, h, fun β S w σ Γ b v R Q hR hG hb hg hk => hk _ S w _ hg hR (.refl _ _) (hG.set i hb) fun vs hm => wipe_set (hm i List.mem_cons_self)⟩
abbrev FGs := List D → Ev → Sto → (Ev → Sto → Prop) → Prop
def SndGs (K : PySem.W.Frag) (t : TGs) (g : FGs) (is : List Nat) : Prop := ∀ β S w σ Γ ds vs R (Q : St → Hp → Prop), Rel K β S w → EvOk K S.length w Γ σ → DenL K w.F ds vs → g ds Γ S R →
  (∀ Γ' S' w' σ', R Γ' S' → Rel K β S' w' → Later S.length w S'.length w' → EvOk K S'.length w' Γ' σ' → (∀ vs : List Nat, (∀ i ∈ is, i ∈ vs) → wipe σ' vs = wipe σ vs) → Q σ' w'.H) → t vs σ w.H Q
structure XGs (X : Cx) (ts : List Expr) (g : FGs) (is : List Nat) : Prop where
  ex : ∃ t, PGs X ts t ∧ SndGs X.K t g is
def gsN : FGs := fun ds Γ S R => match ds with
  | [] => R Γ S
  | _ => False
def gsC (g : FG) (gs : FGs) : FGs := fun ds Γ S R => match ds with
  | d :: ds => g (.fz d) Γ S fun Γ1 S1 => gs ds Γ1 S1 R
  | [] => False
theorem xgs_nil : XGs X [] gsN [] := ⟨_, pgs_nil, fun β S w σ Γ ds vs R Q hR hG hb hg hk => by
  cases hb with
  | nil => exact ⟨rfl, hk Γ S w σ hg hR (.refl _ _) hG fun _ _ => rfl⟩
  | cons _ _ => exact (show False from hg).elim⟩
theorem xgs_cons {es : List Expr} {g : FG} {gs : FGs} {is js : List Nat} (h1 : XG X e g is) (h2 : XGs X es gs js)
    (hs : (assignEach (e :: es) X.env).map (·.2) = assign e X.env :: (assignEach es X.env).map (·.2) := by rfl) : XGs X (e :: es) (gsC g gs) (is ++ js) :=
  let ⟨_, p, s⟩ := h1.ex; let ⟨_, q, t⟩ := h2.ex
  ⟨_, pgs_cons p q hs, fun β S w σ Γ ds vs R Q hR hG hb hg hk => by
    cases hb with
    | nil => exact (show False from hg).elim
    | cons hd hl => exact ⟨_, _, rfl, s β S w σ Γ (.fz _) _ _ _ hR hG hd hg fun Γ1 S1 w1 σ1 h1 R1 l1 G1 z1 => t β S1 w1 σ1 Γ1 _ _ R _ R1 G1 (DenL.mono l1.F hl) h1 fun Γ2 S2 w2 σ2 h2 R2 l2 G2 z2 =>
        hk Γ2 S2 w2 σ2 h2 R2 (l1.trans l2) G2 fun vs hm => (z2 vs fun i hi => hm i (List.mem_append_right _ hi)).trans (z1 vs fun i hi => hm i (List.mem_append_left _ hi))⟩⟩
/-- a tuple for good -/
def gT (n : Nat) (gs : FGs) : FG := fun b Γ S R => match b with
  | .fz (.tup ds) => ds.length = n ∧ gs ds Γ S R
  | _ => False
theorem xg_tup {es : List Expr} {k : Nat} {gs : FGs} {is : List Nat} {n : Nat} (hc : X.calm = true) (h : XGs X es gs is)
    (hn : (assignEach es X.env).length = n := by rfl) (hst : (assignEach es X.env).findIdx? (·.1) = none := by rfl) : XG X (.Tuple es k pos) (gT n gs) is :=
  let ⟨_, p, s⟩ := h.ex
  ⟨_, pg_tup hc p hn hst, fun β S w σ Γ b v R Q hR hG hb hg hk => by
    cases b with
    | mt k => exact (show False from hg).elim
    | fz d =>
      have hb : Den X.K w.F d v := hb
      cases hb with
      | tup h1 l => exact ⟨_, _, rfl, sqT_same hR.fr h1, l.length.symm.trans hg.1, s β S w σ Γ _ _ R Q hR hG l hg.2 hk⟩
      | _ => exact (show False from hg).elim⟩
def sAsg (fe : FE) (g : FG) : FS := fun Γ S P => fe Γ S P.xe fun b S1 => g b Γ S1 P.nx
theorem xs_asg {tg : Expr} {g : FG} {is : List Nat} (he : XE X E e fe) (hg : XG X tg g is) (hs : swapsWithSole [tg] e pos.line X.env = pure false := by rfl) (hw : swappedStores [tg] e X.env = pure none := by rfl)
    (h1 : (assignEach [tg] X.env).map (·.2) = [assign tg X.env] := by rfl) : XS X E (.Assign [tg] e pos) (sAsg fe g) :=
  let ⟨_, p, s⟩ := he.ex; let ⟨_, q, t⟩ := hg.ex
  ⟨_, ps_asg p q hs hw h1, fun β S w σ Γ P D hR hG hf hk => s β S w σ Γ _ _ _ hR hG hf (fun b S1 w1 v h1 R1 l1 d1 => t β S1 w1 σ Γ b v _ _ R1 (hG.later l1) d1 h1 fun Γ2 S2 w2 σ2 h2 R2 l2 G2 _ => hk.nx Γ2 S2 w2 σ2 h2 R2 G2) hk.x⟩
theorem xs_set {i : Nat} {x : Str} {pos' : Pos} (hN : X.N.Nodup) (hi : X.N[i]? = some x) (hx : Loc X.env.scope x) (he : XE X E e fe) (hs : swapsWith e (some (.Name x pos')) pos.line X.env = pure false := by rfl)
    (hf : X.fn x = true ∨ X.env.scope.names.lookup x = some .local := by first | exact .inl rfl | exact .inr rfl | assumption) : XS X E (.Assign [.Name x pos'] e pos) (sAsg fe (gN i)) :=
  let ⟨_, p, s⟩ := he.ex
  ⟨_, ps_set hN hi hx p hs hf, fun β S w σ Γ P D hR hG hf hk => s β S w σ Γ _ _ _ hR hG hf (fun b S1 w1 v h1 R1 l1 d1 => hk.nx _ S1 w1 _ h1 R1 ((hG.later l1).set i d1)) hk.x⟩
/-- a, b = x, y -/
def sPar (i j : Nat) (fa : FA) : FS := fun Γ S P => fa Γ S P.xe fun bs S1 => match bs with
  | [b, c] => P.nx ((Γ.set i (some b)).set j (some c)) S1
  | _ => False
theorem xs_par {i j : Nat} {a b : Expr} {ps : Stmt} {fa : FA} (h : ∀ {ta : TA}, PA X [a, b] ta → PS X ps (tPar i j ta)) (ha : XA X E [a, b] fa) : XS X E ps (sPar i j fa) :=
  let ⟨_, p, s⟩ := ha.ex
  ⟨_, h p, fun β S w σ Γ P D hR hG hf hk => s β S w σ Γ _ _ _ hR hG hf (fun bs S1 w1 vs h1 R1 l1 d1 => by
    cases d1 with
    | nil => exact (show False from h1).elim
    | cons a1 t1 => cases t1 with
      | nil => exact (show False from h1).elim
      | cons a2 t2 => cases t2 with
        | nil => exact ⟨_, _, rfl, hk.nx _ S1 w1 _ h1 R1 (((hG.later l1).set i a1).set j a2)⟩
        | cons _ _ => exact (show False from h1).elim) hk.x⟩
/-- name op= e -/
def sAug (i : Nat) (fe : FE) (g : G2) : FS := fun Γ S P => match Γ[i]? with
  | some (some b) => fe Γ S P.xe fun c S1 => g b c S1 fun d S2 => P.nx (Γ.set i (some d)) S2
  | _ => False
theorem xs_aug {i : Nat} {x : Str} {op : Operator} {ti : TIp} {g : G2} {pos' : Pos} (hN : X.N.Nodup) (hi : X.N[i]? = some x) (hx : Loc X.env.scope x) (he : XE X E e fe) (ho : PIp X op ti) (hg : Snd2 X.K ti g)
    (hf : X.fn x = true ∨ X.env.scope.names.lookup x = some .local := by first | exact .inl rfl | exact .inr rfl | assumption) : XS X E (.AugAssign (.Name x pos') op e pos) (sAug i fe g) :=
  let ⟨_, p, s⟩ := he.ex
  ⟨_, ps_aug hN hi hx p ho hf, fun β S w σ Γ P D hR hG hf hk => by
    unfold sAug at hf
    cases hb : Γ[i]? with
    | none => rw [hb] at hf; exact hf.elim
    | some o =>
      cases o with
      | none => rw [hb] at hf; exact hf.elim
      | some b =>
        rw [hb] at hf
        obtain ⟨v, h1, h2⟩ := hG.at_ i b hb
        exact ⟨v, h1, s β S w σ Γ _ _ _ hR hG hf (fun c S1 w1 u h3 R1 l1 d1 => hg β S1 w1 b c v u _ _ R1 (h2.later l1) d1 h3 fun d S2 w2 z h4 R2 l2 d2 => hk.nx _ S2 w2 _ h4 R2 ((hG.later (l1.trans l2)).set i d2)) hk.x⟩⟩
/-! while -/
def sWhile (c : FT) (f : FS) : FS := fun Γ S P => ∃ W : Nat → Ev → Sto → Prop, (∃ m, W m Γ S) ∧ ∀ m Γ S, W m Γ S → c Γ S P.xe fun k S1 => cnd k (f Γ S1 { P with nx := fun Γ' S' => ∃ m', m' < m ∧ W m' Γ' S', ct := fun Γ' S' => ∃ m', m' < m ∧ W m' Γ' S', bk := P.nx }) (P.nx Γ S1)
theorem xs_while {c : Expr} {body : List Stmt} {fc : FT} (hp : PassesOwn (model X.prog X.w) X.A X.env X.xe) (hc : XT X E c fc) (hb : XSs X E body f) : XS X E (.While c body [] pos) (sWhile fc f) :=
  let ⟨_, o, r⟩ := hc.ex; let ⟨_, p, s⟩ := hb.ex
  ⟨_, ps_while hp o p, fun β S w σ Γ P D hR hG hf hk => by
    obtain ⟨W, ⟨m, h0⟩, turn⟩ := hf
    refine ⟨fun m σ H => ∃ Γ S w, w.H = H ∧ W m Γ S ∧ Rel X.K β S w ∧ EvOk X.K S.length w Γ σ, ⟨m, Γ, S, w, rfl, h0, hR, hG⟩, ?_⟩
    rintro m σ _ ⟨Γ, S, w, rfl, hW, hR, hG⟩
    refine r β S w σ Γ _ _ _ hR hG (turn m Γ S hW) (fun k S1 w1 h1 R1 l1 => ?_) hk.x
    cases k with
    | false => exact hk.nx Γ S1 w1 σ h1 R1 (hG.later l1)
    | true =>
      refine ⟨fun σ' H' => ∃ Γ' S' w', w'.H = H' ∧ (∃ m', m' < m ∧ W m' Γ' S') ∧ Rel X.K β S' w' ∧ EvOk X.K S'.length w' Γ' σ', fun σ' H' ⟨Γ', S', w', e, ⟨m', lt, hW'⟩, q⟩ => ⟨m', lt, Γ', S', w', e, hW', q⟩, ?_⟩
      have again : ∀ Γ' S' (w' : Wd) σ', (∃ m', m' < m ∧ W m' Γ' S') → Rel X.K β S' w' → EvOk X.K S'.length w' Γ' σ' → ∃ Γ2 S2 w2, w2.H = w'.H ∧ (∃ m', m' < m ∧ W m' Γ2 S2) ∧ Rel X.K β S2 w2 ∧ EvOk X.K S2.length w2 Γ2 σ' := fun Γ' S' w' σ' q R' G' => ⟨Γ', S', w', rfl, q, R', G'⟩
      exact s β S1 w1 σ Γ _ _ R1 (hG.later l1) h1 ⟨again, hk.rt, hk.xe, hk.nx, again⟩⟩
/-! ### what is walked: items for good -/
abbrev FI := Ev → Sto → XP → (List D → Sto → Prop) → Prop
/-- things may be new, nothing else -/
def NewW (w w2 : Wd) : Prop := (∀ D o, w.H D = some o → w2.H D = some o) ∧ ∀ D o, w2.F D = some o → w.F D = some o ∨ w.H D = none
theorem NewW.refl (w : Wd) : NewW w w := ⟨fun _ _ h => h, fun _ _ h => .inl h⟩
/-- .. at each turn: what comes -/
structure ItOk (K : PySem.W.Frag) (β : Base) (ds : List D) (J : It) (n : Nat) (w : Wd) : Prop where
  go : ∀ S' w', Rel K β S' w' → Later n w S'.length w' → ∀ (i : Nat) (d : D), ds[i]? = some d → J.go i w'.H ∧ ∀ x H', J.yld i w'.H x H' → ∃ w2, w2.H = H' ∧ Rel K β S' w2 ∧ Later S'.length w' S'.length w2 ∧ NewW w' w2 ∧ Den K w2.F d x
  stop : ∀ S' w', Rel K β S' w' → Later n w S'.length w' → ∀ i : Nat, ds.length ≤ i → J.stop i w'.H
def SndI (K : PySem.W.Frag) (E : XK) (t : TI) (f : FI) : Prop := ∀ β S w σ Γ Rx R (Q : It → Hp → Prop), Rel K β S w → EvOk K S.length w Γ σ → f Γ S Rx R →
  (∀ ds S' w' J, R ds S' → Rel K β S' w' → Later S.length w S'.length w' → ds.length ≤ sizeLine → ItOk K β ds J S'.length w' → Q J w'.H) → XOk K E β S.length w Rx → t σ w.H Q
structure XI (X : Cx) (E : XK) (tg iter : Expr) (f : FI) : Prop where
  ex : ∃ t, PI X tg iter t ∧ SndI X.K E t f
variable {tg : Expr}
/-- a list for good -/
def iLst (fe : FE) : FI := fun Γ S Rx R => fe Γ S Rx fun b S1 => match b with
  | .fz (.lst ds) => R ds S1
  | _ => False
def iTp (fe : FE) : FI := fun Γ S Rx R => fe Γ S Rx fun b S1 => match b with
  | .fz (.tup ds) => R ds S1
  | _ => False
theorem get_lt {α : Type} {xs : List α} {i : Nat} {x : α} (h : xs[i]? = some x) : i < xs.length := by
  by_cases z : i < xs.length
  · exact z
  · rw [List.getElem?_eq_none (Nat.le_of_not_lt z)] at h
    cases h
end
end PL
namespace PL
open PySem L2
section
variable {X : Cx} {E : XK} {e : Expr} {fe : FE} {pos : Pos} {tg : Expr}
/-- the lengths of what comes -/
def tSz (K : PySem.W.Frag) (t : TE) : TE := fun σ H Q => t σ H fun x H1 => (∀ a xs, x = .ref a → SqL K H1 a xs → xs.length ≤ sizeLine) → (∀ a xs, x = .ref a → SqT K H1 a xs → xs.length ≤ sizeLine) → Q x H1
theorem pe_sz {t : TE} (h : PE X e t) : PE X e (tSz X.K t) := ⟨fun pins s σ H Q I hw => thn (h.run pins s σ H _ I hw) fun v s1 ⟨x, H1, I1, r1, q1⟩ =>
  ⟨x, H1, I1, r1, q1 (fun a xs _ h => let ⟨_, _, _, z⟩ := I1.list h; z) (fun a xs _ h => let ⟨_, _, _, z⟩ := I1.tuple h; z)⟩⟩
/-- .. of what comes, as a premise of what follows -/
def SndZ (K : PySem.W.Frag) (E : XK) (t : TE) (f : FE) : Prop :=
  ∀ β S w σ Γ Rx R (Q : VK), Rel K β S w → EvOk K S.length w Γ σ → f Γ S Rx R → (∀ b S' w' v, R b S' → Rel K β S' w' → Later S.length w S'.length w' → DenB K S'.length w' b v → (∀ ds, b = .fz (.lst ds) → ds.length ≤ sizeLine) → (∀ ds, b = .fz (.tup ds) → ds.length ≤ sizeLine) → Q v w'.H) → XOk K E β S.length w Rx → tSz K t σ w.H Q
theorem sndZ {K : PySem.W.Frag} {t : TE} {f : FE} (s : SndE K E t f) : SndZ K E t f := fun β S w σ Γ Rx R Q hR hG hf hk hx =>
  s β S w σ Γ Rx _ _ hR hG hf (fun b S1 w1 v h1 R1 l1 d1 z1 z2 => hk b S1 w1 v h1 R1 l1 d1 (fun ds e => by
      subst e
      cases (show Den K w1.F _ v from d1) with
      | lst h2 h3 => rw [h3.length]; exact z1 _ _ rfl (SqL.of (R1.fr _ _ h2))) fun ds e => by
      subst e
      cases (show Den K w1.F _ v from d1) with
      | tup h2 h3 => rw [h3.length]; exact z2 _ _ rfl (sqT_same R1.fr h2)) hx
/-! ### what is walked -/
theorem it_list {K : PySem.W.Frag} {β : Base} {n : Nat} {w : Wd} {a : Addr} {ds : List D} {vs : List V} (h : w.F a = some (.lst vs)) (l : DenL K w.F ds vs) : ItOk K β ds (Itl K a) n w where
  go := fun S' w' R' l' i d hd => by
    have h1 := SqL.of (K := K) (R'.fr _ _ (l'.F _ _ h))
    obtain ⟨v, hv, dv⟩ := (DenL.mono l'.F l).getD hd
    exact ⟨⟨vs, v, h1, hv⟩, fun x H' ⟨e, y⟩ => by
      have e2 : x = v := Option.some.inj ((y vs h1).symm.trans hv)
      subst e2
      exact ⟨w', e.symm, R', .refl _ _, NewW.refl _, dv⟩⟩
  stop := fun S' w' R' l' i hi => ⟨vs, SqL.of (R'.fr _ _ (l'.F _ _ h)), by rw [← l.length]; exact hi⟩
theorem it_tup {K : PySem.W.Frag} {β : Base} {n : Nat} {w : Wd} {a : Addr} {ds : List D} {vs : List V} (h : SqT K w.F a vs) (l : DenL K w.F ds vs) : ItOk K β ds (Itt K a) n w where
  go := fun S' w' R' l' i d hd => by
    have h1 := sqT_same R'.fr (sqT_same l'.F h)
    obtain ⟨v, hv, dv⟩ := (DenL.mono l'.F l).getD hd
    exact ⟨⟨vs, v, h1, hv⟩, fun x H' ⟨e, y⟩ => by
      have e2 : x = v := Option.some.inj ((y vs h1).symm.trans hv)
      subst e2
      exact ⟨w', e.symm, R', .refl _ _, NewW.refl _, dv⟩⟩
  stop := fun S' w' R' l' i hi => ⟨vs, sqT_same R'.fr (sqT_same l'.F h), by rw [← l.length]; exact hi⟩
theorem xi_list (he : XE X E e fe) : XI X E tg e (iLst fe) :=
  let ⟨_, p, s⟩ := he.ex
  ⟨_, pi_list (pe_sz p), fun β S w σ Γ Rx R Q hR hG hf hk hx => sndZ s β S w σ Γ Rx _ _ hR hG hf (fun b S1 w1 v h1 R1 l1 d1 z1 z2 => by
    cases b with
    | mt k => exact (show False from h1).elim
    | fz d =>
      have d1 : Den X.K w1.F d v := d1
      cases d1 with
      | lst h2 h3 => exact ⟨_, rfl, ⟨_, SqL.of (R1.fr _ _ h2)⟩, hk _ S1 w1 _ h1 R1 l1 (z1 _ rfl) (it_list h2 h3)⟩
      | _ => exact (show False from h1).elim) hx⟩
theorem xi_tup (he : XE X E e fe) : XI X E tg e (iTp fe) :=
  let ⟨_, p, s⟩ := he.ex
  ⟨_, pi_tup (pe_sz p), fun β S w σ Γ Rx R Q hR hG hf hk hx => sndZ s β S w σ Γ Rx _ _ hR hG hf (fun b S1 w1 v h1 R1 l1 d1 z1 z2 => by
    cases b with
    | mt k => exact (show False from h1).elim
    | fz d =>
      have d1 : Den X.K w1.F d v := d1
      cases d1 with
      | tup h2 h3 => exact ⟨_, rfl, ⟨_, sqT_same R1.fr h2⟩, hk _ S1 w1 _ h1 R1 l1 (z2 _ rfl) (it_tup h2 h3)⟩
      | _ => exact (show False from h1).elim) hx⟩
/-- the signs of a text -/
def chars (z : Str) : List D := z.cps.toList.map fun c => .str ⟨#[c]⟩
def iTxt (fe : FE) : FI := fun Γ S Rx R => fe Γ S Rx fun b S1 => match b with
  | .fz (.str z) => z.length ≤ sizeLine ∧ R (chars z) S1
  | _ => False
theorem chars_at {z : Str} {i : Nat} {d : D} (h : (chars z)[i]? = some d) : ∃ c, z.cps[i]? = some c ∧ d = .str ⟨#[c]⟩ := by
  unfold chars at h
  rw [List.getElem?_map, Array.getElem?_toList] at h
  cases e : z.cps[i]? with
  | none => rw [e] at h; cases h
  | some c => rw [e] at h; cases h; exact ⟨c, rfl, rfl⟩
theorem chars_len {z : Str} : (chars z).length = z.cps.size := by
  unfold chars
  rw [List.length_map, Array.length_toList]
theorem xi_str (he : XE X E e fe) : XI X E tg e (iTxt fe) :=
  let ⟨_, p, s⟩ := he.ex
  ⟨_, pi_str p, fun β S w σ Γ Rx R Q hR hG hf hk hx => s β S w σ Γ Rx _ _ hR hG hf (fun b S1 w1 v h1 R1 l1 d1 => by
    cases b with
    | mt k => exact (show False from h1).elim
    | fz d =>
      have d1 : Den X.K w1.F d v := d1
      cases d1 with
      | str z =>
        refine ⟨z, rfl, hk _ S1 w1 _ h1.2 R1 l1 (by rw [chars_len]; exact h1.1) ⟨fun S' w' R' l' i d hd => ?_, fun S' w' R' l' i hi => by rw [chars_len] at hi; exact hi⟩⟩
        obtain ⟨c, hc, rfl⟩ := chars_at hd
        refine ⟨?_, fun x H' ⟨e, c', hc', ex⟩ => ⟨w', e.symm, R', .refl _ _, NewW.refl _, ?_⟩⟩
        · show i < z.cps.size
          by_cases q : i < z.cps.size
          · exact q
          · rw [Array.getElem?_eq_none (Nat.le_of_not_lt q)] at hc
            cases hc
        · rw [ex, show c' = c from Option.some.inj (hc'.symm.trans hc)]
          exact .str _
      | _ => exact (show False from h1).elim) hx⟩
/-- lo, lo + 1, .. -/
def rangeD (lo : Int) (n : Nat) : List D := (List.range n).map fun k => .int (lo + (k : Nat))
theorem range_at {lo : Int} {n i : Nat} {d : D} (h : (rangeD lo n)[i]? = some d) : i < n ∧ d = .int (lo + i) := by
  unfold rangeD at h
  rw [List.getElem?_map] at h
  by_cases q : i < n
  · rw [List.getElem?_range q] at h
    cases h
    exact ⟨q, rfl⟩
  · rw [List.getElem?_eq_none (by rw [List.length_range]; omega)] at h
    cases h
theorem range_len {lo : Int} {n : Nat} : (rangeD lo n).length = n := by
  unfold rangeD
  rw [List.length_map, List.length_range]
theorem it_range {K : PySem.W.Frag} {β : Base} {n : Nat} {w : Wd} {lo : Int} {k : Nat} : ItOk K β (rangeD lo k) (Itr lo k) n w where
  go := fun S' w' R' l' i d hd => by
    obtain ⟨hi, rfl⟩ := range_at hd
    exact ⟨hi, fun x H' ⟨e, ex⟩ => ⟨w', e.symm, R', .refl _ _, NewW.refl _, by rw [ex]; exact .int _⟩⟩
  stop := fun S' w' R' l' i hi => by rw [range_len] at hi; exact hi
variable {fa : FA} {a b : Expr} {p0 : Pos}
def iRng1P (fa : FA) : FI := fun Γ S Rx R => fa Γ S Rx fun bs S1 => match bs with
  | [.fz (.int j)] => (-(2 ^ 62) ≤ j ∧ j ≤ sizeLine) ∧ R (rangeD 0 j.toNat) S1
  | _ => False
def iRng2P (fa : FA) : FI := fun Γ S Rx R => fa Γ S Rx fun bs S1 => match bs with
  | [.fz (.int i), .fz (.int j)] => (-(2 ^ 62) ≤ i ∧ i < 2 ^ 62 ∧ -(2 ^ 62) ≤ j ∧ j < 2 ^ 62 ∧ j - i ≤ sizeLine) ∧ R (rangeD i (j - i).toNat) S1
  | _ => False
theorem DenBL.one {K : PySem.W.Frag} {n : Nat} {w : Wd} {vs : List V} {b : B} (h : DenBL K n w [b] vs) : ∃ v, vs = [v] ∧ DenB K n w b v := by
  cases h with
  | cons h t => cases t; exact ⟨_, rfl, h⟩
theorem DenBL.two {K : PySem.W.Frag} {n : Nat} {w : Wd} {vs : List V} {b c : B} (h : DenBL K n w [b, c] vs) : ∃ v u, vs = [v, u] ∧ DenB K n w b v ∧ DenB K n w c u := by
  cases h with
  | cons h t => obtain ⟨u, rfl, h2⟩ := t.one; exact ⟨_, u, rfl, h, h2⟩
theorem denInt {K : PySem.W.Frag} {n : Nat} {w : Wd} {i : Int} {v : V} (h : DenB K n w (.fz (.int i)) v) : v = .int i := by
  cases (show Den K w.F (.int i) v from h); rfl
theorem line62 : (sizeLine : Int) < 2 ^ 62 := by rw [sizeLine_eq]; decide
theorem xi_range1 (hg : Gl X "range") (hm : X.mg "range" = none) (ha : XA X E [a] fa) (hs : starEach [a] X.env = [(false, eval a X.env)] := by rfl) : XI X E tg (.Call (.Name "range" p0) [a] [] pos) (iRng1P fa) :=
  let ⟨_, p, s⟩ := ha.ex
  ⟨_, pi_range1 hg hm p hs, fun β S w σ Γ Rx R Q hR hG hf hk hx => s β S w σ Γ Rx _ _ hR hG hf (fun bs S1 w1 vs h1 R1 l1 d1 => by
    match bs, h1, d1 with
    | [.fz (.int j)], h1, d1 =>
      obtain ⟨v, rfl, hv⟩ := d1.one
      have e := denInt hv
      subst e
      have l62 := line62
      obtain ⟨⟨j1, j2⟩, h2⟩ := h1
      exact ⟨j, rfl, j1, by omega, hk _ S1 w1 _ h2 R1 l1 (by rw [range_len]; omega) it_range⟩) hx⟩
theorem xi_range2 (hg : Gl X "range") (hm : X.mg "range" = none) (ha : XA X E [a, b] fa) (hs : starEach [a, b] X.env = [(false, eval a X.env), (false, eval b X.env)] := by rfl) (hs2 : starEach [b] X.env = [(false, eval b X.env)] := by rfl) : XI X E tg (.Call (.Name "range" p0) [a, b] [] pos) (iRng2P fa) :=
  let ⟨_, p, s⟩ := ha.ex
  ⟨_, pi_range2 hg hm p hs hs2, fun β S w σ Γ Rx R Q hR hG hf hk hx => s β S w σ Γ Rx _ _ hR hG hf (fun bs S1 w1 vs h1 R1 l1 d1 => by
    match bs, h1, d1 with
    | [.fz (.int i), .fz (.int j)], h1, d1 =>
      obtain ⟨v, u, rfl, hv, hu⟩ := d1.two
      have e := denInt hv
      subst e
      have e := denInt hu
      subst e
      obtain ⟨⟨j1, j2, j3, j4, j5⟩, h2⟩ := h1
      exact ⟨i, j, rfl, ⟨j1, j2, j3, j4⟩, hk _ S1 w1 _ h2 R1 l1 (by rw [range_len]; omega) it_range⟩) hx⟩
/-- the items with their numbers -/
def enumD : Nat → List D → List D
  | _, [] => []
  | n, d :: ds => .tup [.int (n : Nat), d] :: enumD (n + 1) ds
theorem enum_len : ∀ (n : Nat) (ds : List D), (enumD n ds).length = ds.length
  | _, [] => rfl
  | n, _ :: ds => congrArg (· + 1) (enum_len (n + 1) ds)
theorem enum_at : ∀ {n : Nat} {ds : List D} {i : Nat} {x : D}, (enumD n ds)[i]? = some x → ∃ d, ds[i]? = some d ∧ x = .tup [.int ((n + i : Nat) : Int), d]
  | _, [], i, _, h => by unfold enumD at h; cases h
  | n, d :: ds, 0, _, h => by unfold enumD at h; cases h; exact ⟨d, rfl, rfl⟩
  | n, d :: ds, i + 1, _, h => by
    unfold enumD at h
    obtain ⟨d', h1, h2⟩ := enum_at (n := n + 1) (ds := ds) (i := i) h
    exact ⟨d', h1, by rw [h2]; congr 4; omega⟩
/-- a new pair at a turn -/
theorem new_pair {K : PySem.W.Frag} {β : Base} {S : Sto} {w : Wd} (R : Rel K β S w) {T : Addr} {x y : V} {d e : D} (hT : w.H T = none) (hd : Den K w.F d x) (he : Den K w.F e y) :
    ∃ w2 : Wd, w2.H = upd w.H T (.tup [x, y]) ∧ Rel K β S w2 ∧ Later S.length w S.length w2 ∧ NewW w w2 ∧ Den K w2.F (.tup [d, e]) (.ref T) := by
  obtain ⟨R2, l2⟩ := R.newF hT (.tup [x, y])
  exact ⟨_, rfl, R2, l2, ⟨fun D o q => (upd_ne (ne_of_none q hT)).trans q, fun D o q => by
    by_cases e : D = T
    · subst e; exact .inr hT
    · exact .inl ((upd_ne e).symm.trans q)⟩, .tup (SqT.of upd_same) (.cons (Den.mono l2.F hd) (.cons (Den.mono l2.F he) .nil))⟩
def iEnumP (fa : FA) : FI := fun Γ S Rx R => fa Γ S Rx fun bs S1 => match bs with
  | [.fz (.lst ds)] => R (enumD 0 ds) S1
  | _ => False
/-- lengths of arguments -/
def tSzA (K : PySem.W.Frag) (t : TA) : TA := fun σ H Q => t σ H fun vs H1 => (∀ a xs, V.ref a ∈ vs → SqL K H1 a xs → xs.length ≤ sizeLine) → (∀ a xs, V.ref a ∈ vs → SqT K H1 a xs → xs.length ≤ sizeLine) → Q vs H1
theorem pa_sz {es : List Expr} {t : TA} (h : PA X es t) : PA X es (tSzA X.K t) := ⟨fun pos pins s σ H Q I hw => thn (h.run pos pins s σ H _ I hw) fun v s1 ⟨x, H1, I1, r1, q1⟩ =>
  ⟨x, H1, I1, r1, q1 (fun a xs _ h => let ⟨_, _, _, z⟩ := I1.list h; z) (fun a xs _ h => let ⟨_, _, _, z⟩ := I1.tuple h; z)⟩⟩
theorem xi_enum {elts : List Expr} {kk : Nat} {tpos : Pos} (hg : Gl X "enumerate") (hm : X.mg "enumerate" = none) (ha : XA X E [a] fa) (hs : starEach [a] X.env = [(false, eval a X.env)] := by rfl) : XI X E (.Tuple elts kk tpos) (.Call (.Name "enumerate" p0) [a] [] pos) (iEnumP fa) :=
  let ⟨_, p, s⟩ := ha.ex
  ⟨_, pi_enum hg hm (pa_sz p) hs, fun β S w σ Γ Rx R Q hR hG hf hk hx => s β S w σ Γ Rx _ _ hR hG hf (fun bs S1 w1 vs h1 R1 l1 d1 z1 z2 => by
    match bs, h1, d1 with
    | [.fz (.lst ds)], h1, d1 =>
      obtain ⟨v, rfl, hv⟩ := d1.one
      cases (show Den X.K w1.F (.lst ds) v from hv) with
      | @lst q _ vs h2 h3 =>
        refine ⟨_, _, rfl, SqL.of (R1.fr _ _ h2), hk _ S1 w1 _ h1 R1 l1 (by rw [enum_len, h3.length]; exact z1 _ _ List.mem_cons_self (SqL.of (R1.fr _ _ h2))) ⟨fun S' w' R' l' i d hd => ?_, fun S' w' R' l' i hi => ⟨vs, SqL.of (R'.fr _ _ (l'.F _ _ h2)), by rw [enum_len] at hi; rw [← h3.length]; exact hi⟩⟩⟩
        have h4 := SqL.of (K := X.K) (R'.fr _ _ (l'.F _ _ h2))
        obtain ⟨d', hd', rfl⟩ := enum_at hd
        obtain ⟨v, hv, dv⟩ := (DenL.mono l'.F h3).getD hd'
        refine ⟨⟨vs, v, h4, hv⟩, fun x H' ⟨T, x', e1, e2, e3, y⟩ => ?_⟩
        have e4 : x' = v := Option.some.inj ((y vs h4).symm.trans hv)
        subst e1 e3 e4
        rw [Nat.zero_add]
        exact new_pair R' e2 (.int _) dv) hx⟩
/-- pairs -/
def zipD : List D → List D → List D
  | d :: ds, e :: es => .tup [d, e] :: zipD ds es
  | _, _ => []
theorem zip_at : ∀ {ds es : List D} {i : Nat} {x : D}, (zipD ds es)[i]? = some x → ∃ d e, ds[i]? = some d ∧ es[i]? = some e ∧ x = .tup [d, e]
  | [], _, _, _, h => by unfold zipD at h; cases h
  | _ :: _, [], _, _, h => by unfold zipD at h; cases h
  | d :: ds, e :: es, 0, _, h => by unfold zipD at h; cases h; exact ⟨d, e, rfl, rfl, rfl⟩
  | d :: ds, e :: es, i + 1, _, h => by unfold zipD at h; exact zip_at (ds := ds) (es := es) (i := i) h
theorem zip_len : ∀ (ds es : List D), (zipD ds es).length = min ds.length es.length
  | [], _ => by unfold zipD; exact (Nat.zero_min _).symm
  | _ :: _, [] => by unfold zipD; exact (Nat.min_zero _).symm
  | d :: ds, e :: es => by unfold zipD; rw [List.length_cons, List.length_cons, List.length_cons, zip_len ds es]; omega
def iZipP (fa : FA) : FI := fun Γ S Rx R => fa Γ S Rx fun bs S1 => match bs with
  | [.fz (.lst ds), .fz (.lst es)] => R (zipD ds es) S1
  | [.fz (.tup ds), .fz (.tup es)] => R (zipD ds es) S1
  | _ => False
theorem xi_zip {elts : List Expr} {kk : Nat} {tpos : Pos} (hg : Gl X "zip") (hm : X.mg "zip" = none) (ha : XA X E [a, b] fa) (hs : starEach [a, b] X.env = (false, eval a X.env) :: starEach [b] X.env := by rfl) (hpl : (backTo pos (starEach [b] X.env)).any (·.1) = false := by rfl) :
    XI X E (.Tuple elts kk tpos) (.Call (.Name "zip" p0) [a, b] [] pos) (iZipP fa) :=
  let ⟨_, p, s⟩ := ha.ex
  ⟨_, RZ.pi_zipA hg hm (pa_sz p) hs hpl, fun β S w σ Γ Rx R Q hR hG hf hk hx => s β S w σ Γ Rx _ _ hR hG hf (fun bs S1 w1 vs h1 R1 l1 d1 z1 z2 => by
    match bs, h1, d1 with
    | [.fz (.lst ds), .fz (.lst es)], h1, d1 =>
      obtain ⟨v, u, rfl, hv, hu⟩ := d1.two
      cases (show Den X.K w1.F (.lst ds) v from hv) with
      | @lst q _ vs h2 h3 =>
        cases (show Den X.K w1.F (.lst es) u from hu) with
        | @lst q' _ us h4 h5 =>
          refine ⟨_, _, _, _, rfl, .inl ⟨SqL.of (R1.fr _ _ h2), SqL.of (R1.fr _ _ h4), hk _ S1 w1 _ h1 R1 l1 (by rw [zip_len, h3.length]; have := z1 _ _ List.mem_cons_self (SqL.of (R1.fr _ _ h2)); omega) ⟨fun S' w' R' l' i d hd => ?_, fun S' w' R' l' i hi => ⟨vs, us, SqL.of (R'.fr _ _ (l'.F _ _ h2)), SqL.of (R'.fr _ _ (l'.F _ _ h4)), by rw [zip_len] at hi; rw [← h3.length, ← h5.length]; omega⟩⟩⟩⟩
          have h6 := SqL.of (K := X.K) (R'.fr _ _ (l'.F _ _ h2))
          have h7 := SqL.of (K := X.K) (R'.fr _ _ (l'.F _ _ h4))
          obtain ⟨d', e', hd', he', rfl⟩ := zip_at hd
          obtain ⟨v, hv, dv⟩ := (DenL.mono l'.F h3).getD hd'
          obtain ⟨u, hu, du⟩ := (DenL.mono l'.F h5).getD he'
          refine ⟨⟨vs, us, v, u, h6, h7, hv, hu⟩, fun x H' ⟨T, x', y', e1, e2, e3, y1, y2⟩ => ?_⟩
          have e4 : x' = v := Option.some.inj ((y1 vs h6).symm.trans hv)
          have e5 : y' = u := Option.some.inj ((y2 us h7).symm.trans hu)
          subst e1 e3 e4 e5
          exact new_pair R' e2 dv du
    | [.fz (.tup ds), .fz (.tup es)], h1, d1 =>
      obtain ⟨v, u, rfl, hv, hu⟩ := d1.two
      cases (show Den X.K w1.F (.tup ds) v from hv) with
      | @tup q _ vs h2 h3 =>
        cases (show Den X.K w1.F (.tup es) u from hu) with
        | @tup q' _ us h4 h5 =>
          refine ⟨_, _, _, _, rfl, .inr ⟨sqT_same R1.fr h2, sqT_same R1.fr h4, hk _ S1 w1 _ h1 R1 l1 (by rw [zip_len, h3.length]; have := z2 _ _ List.mem_cons_self (sqT_same R1.fr h2); omega) ⟨fun S' w' R' l' i d hd => ?_, fun S' w' R' l' i hi => ⟨vs, us, sqT_same R'.fr (sqT_same l'.F h2), sqT_same R'.fr (sqT_same l'.F h4), by rw [zip_len] at hi; rw [← h3.length, ← h5.length]; omega⟩⟩⟩⟩
          have h6 := sqT_same R'.fr (sqT_same l'.F h2)
          have h7 := sqT_same R'.fr (sqT_same l'.F h4)
          obtain ⟨d', e', hd', he', rfl⟩ := zip_at hd
          obtain ⟨v, hv, dv⟩ := (DenL.mono l'.F h3).getD hd'
          obtain ⟨u, hu, du⟩ := (DenL.mono l'.F h5).getD he'
          refine ⟨⟨vs, us, v, u, h6, h7, hv, hu⟩, fun x H' ⟨T, x', y', e1, e2, e3, y1, y2⟩ => ?_⟩
          have e4 : x' = v := Option.some.inj ((y1 vs h6).symm.trans hv)
          have e5 : y' = u := Option.some.inj ((y2 us h7).symm.trans hu)
          subst e1 e3 e4 e5
          exact new_pair R' e2 dv du) hx⟩
/-! ### for -/
def forW (g : FG) (f : FS) : List D → Ev → Sto → EndsP → Prop
  | [], Γ, S, P => P.nx Γ S
  | d :: ds, Γ, S, P => g (.fz d) Γ S fun Γ1 S1 => f Γ1 S1 { P with nx := fun Γ2 S2 => forW g f ds Γ2 S2 P, ct := fun Γ2 S2 => forW g f ds Γ2 S2 P, bk := P.nx }
def sFor (fi : FI) (g : FG) (f : FS) : FS := fun Γ S P => fi Γ S P.xe fun ds S1 => forW g f ds Γ S1 P
theorem drop_at {α : Type} {xs : List α} {i : Nat} {x : α} {r : List α} (h : xs.drop i = x :: r) : xs[i]? = some x ∧ xs.drop (i + 1) = r := by
  refine ⟨?_, ?_⟩
  · have := List.getElem?_drop (xs := xs) (i := i) (j := 0)
    rw [h, Nat.add_zero] at this
    exact this.symm
  · rw [← List.drop_drop, h]
    rfl
theorem xs_for {iter : Expr} {body : List Stmt} {fi : FI} {g : FG} {f : FS} {is : List Nat} (hp : PassesOwn (model X.prog X.w) X.A X.env X.xe) (hc : X.calm = true) (hi : XI X E tg iter fi) (hg : XG X tg g is) (hb : XSs X E body f)
    (hs : ∀ x, foldedSetIterable iter X.env x = pure x := by intro _; rfl) : XS X E (.For tg iter body [] pos) (sFor fi g f) :=
  let ⟨_, o, r⟩ := hi.ex; let ⟨_, p, s⟩ := hg.ex; let ⟨_, q, t⟩ := hb.ex
  ⟨_, ps_for hp hc o p q hs, fun β S w σ Γ P De hR hG hf hk => r β S w σ Γ _ _ _ hR hG hf (fun ds S1 w1 J h1 R1 l1 _ it => by
    refine ⟨fun i m σ H => m = ds.length - i ∧ i ≤ ds.length ∧ ∃ Γ S w, w.H = H ∧ Rel X.K β S w ∧ EvOk X.K S.length w Γ σ ∧ Later S1.length w1 S.length w ∧ forW g f (ds.drop i) Γ S P, ⟨ds.length, rfl, Nat.zero_le _, Γ, S1, w1, rfl, R1, hG.later l1, .refl _ _, h1⟩, ?_⟩
    rintro i m σ _ ⟨rfl, hi, Γ, S, w, rfl, hR, hG, l, h⟩
    cases hd : ds.drop i with
    | nil =>
      rw [hd] at h
      have hle : ds.length ≤ i := by
        have := congrArg List.length hd
        rw [List.length_drop] at this
        have z : ([] : List D).length = 0 := rfl
        omega
      exact .inl ⟨it.stop S w hR l i hle, hk.nx Γ S w σ h hR hG⟩
    | cons d r =>
      rw [hd] at h
      obtain ⟨hx, hr⟩ := drop_at hd
      obtain ⟨go, y⟩ := it.go S w hR l i d hx
      have hlt := get_lt hx
      have again : ∀ Γ' S' (w' : Wd) σ', (Later S1.length w1 S'.length w' ∧ forW g f r Γ' S' P) → Rel X.K β S' w' → EvOk X.K S'.length w' Γ' σ' → ∃ Γ2 S2 w2, w2.H = w'.H ∧ Rel X.K β S2 w2 ∧ EvOk X.K S2.length w2 Γ2 σ' ∧ Later S1.length w1 S2.length w2 ∧ forW g f r Γ2 S2 P :=
        fun Γ' S' w' σ' ⟨q1, q2⟩ R' G' => ⟨Γ', S', w', rfl, R', G', q1, q2⟩
      refine .inr ⟨go, fun σ' H' => ∃ Γ2 S2 w2, w2.H = H' ∧ Rel X.K β S2 w2 ∧ EvOk X.K S2.length w2 Γ2 σ' ∧ Later S1.length w1 S2.length w2 ∧ forW g f r Γ2 S2 P, fun σ' H' ⟨Γ2, S2, w2, q1, q2, q3, q4, q5⟩ => ⟨ds.length - (i + 1), by omega, rfl, hlt, Γ2, S2, w2, q1, q2, q3, q4, by rw [hr]; exact q5⟩, fun x H' hy => ?_⟩
      obtain ⟨w2, rfl, R2, l2, _, d2⟩ := y x H' hy
      have h : g (.fz d) Γ S fun Γ1 S1 => f Γ1 S1 { P with nx := fun Γ2 S2 => forW g f r Γ2 S2 P, ct := fun Γ2 S2 => forW g f r Γ2 S2 P, bk := P.nx } := h
      refine s β S w2 σ Γ (.fz d) x _ _ R2 (hG.later l2) d2 h fun Γ3 S3 w3 σ3 h3 R3 l3 G3 _ => ?_
      -- the body, from an entry of its own: what is for good stays
      have back : ∀ {S' : Sto} {w' : Wd}, Rel X.K (reb S3 w3) S' w' → Rel X.K β S' w' ∧ Later S1.length w1 S'.length w' := fun R' => by
        obtain ⟨a1, a2⟩ := R3.unreb R'
        exact ⟨a1, ((l.trans l2).trans l3).trans a2⟩
      exact t (reb S3 w3) S3 w3 σ3 Γ3 _ _ R3.reb G3 h3 ⟨fun Γ' S' w' σ' q R' G' => again Γ' S' w' σ' ⟨(back R').2, q⟩ (back R').1 G', fun b S' w' v q R' d => hk.rt b S' w' v q (back R').1 d,
        fun C fs S' w' d vs q R' z1 z2 => hk.xe C fs S' w' d vs q (back R').1 z1 z2, fun Γ' S' w' σ' q R' G' => hk.nx Γ' S' w' σ' q (back R').1 G', fun Γ' S' w' σ' q R' G' => again Γ' S' w' σ' ⟨(back R').2, q⟩ (back R').1 G'⟩) hk.x⟩
end
end PL
namespace PL
open PySem L2
/-! ### one reading for all contexts -/
theorem allE {ι : Type} {Xf : ι → Cx} {K : PySem.W.Frag} {E : XK} {e : Expr} {f : FE} (hK : ∀ c, (Xf c).K = K) (h : ∀ c, XE (Xf c) E e f) : ∃ t, (∀ c, PE (Xf c) e t) ∧ SndE K E t f := by
  have h' : ∀ c, ∃ t, PE (Xf c) e t ∧ SndE K E t f := fun c => by
    have q := (h c).ex
    rw [hK c] at q
    exact q
  exact ⟨fun σ H Q => ∀ c, (h' c).choose σ H Q, fun c => ⟨fun pins s σ H Q I hw => (h' c).choose_spec.1.run pins s σ H Q I (hw c)⟩, fun β S w σ Γ Rx R Q hR hG hf hk hx c => (h' c).choose_spec.2 β S w σ Γ Rx R Q hR hG hf hk hx⟩
theorem allG {ι : Type} {Xf : ι → Cx} {K : PySem.W.Frag} {tg : Expr} {g : FG} {is : List Nat} (hK : ∀ c, (Xf c).K = K) (h : ∀ c, XG (Xf c) tg g is) : ∃ t, (∀ c, PG (Xf c) tg t) ∧ SndG K t g is := by
  have h' : ∀ c, ∃ t, PG (Xf c) tg t ∧ SndG K t g is := fun c => by
    have q := (h c).ex
    rw [hK c] at q
    exact q
  exact ⟨fun v σ H Q => ∀ c, (h' c).choose v σ H Q, fun c => ⟨fun pins s σ H v u Q I r hw => (h' c).choose_spec.1.run pins s σ H v u Q I r (hw c)⟩, fun β S w σ Γ b v R Q hR hG hb hg hk c => (h' c).choose_spec.2 β S w σ Γ b v R Q hR hG hb hg hk⟩
/-- the tests of a comprehension -/
structure XIfs (X : Cx) (ifs : List Expr) (f : FT) : Prop where
  ex : ∃ t, PTs X ifs t ∧ SndT X.K (fun _ _ _ => False) t f
def tYesP : FT := fun _ S _ R => R true S
theorem xifs_nil {X : Cx} : XIfs X [] tYesP := ⟨_, pts_nil, fun β S w σ Γ Rx R Q hR hG hf hk hx => hk true S w hf hR (.refl _ _)⟩
theorem xifs_one {X : Cx} {c : Expr} {f : FT} (h : XT X (fun _ _ _ => False) c f) : XIfs X [c] f := let ⟨_, p, s⟩ := h.ex; ⟨_, pts_one p, s⟩
theorem allIf {ι : Type} {Xf : ι → Cx} {K : PySem.W.Frag} {ifs : List Expr} {f : FT} (hK : ∀ c, (Xf c).K = K) (h : ∀ c, XIfs (Xf c) ifs f) : ∃ t, (∀ c, PTs (Xf c) ifs t) ∧ SndT K (fun _ _ _ => False) t f := by
  have h' : ∀ c, ∃ t, PTs (Xf c) ifs t ∧ SndT K (fun _ _ _ => False) t f := fun c => by
    have q := (h c).ex
    rw [hK c] at q
    exact q
  exact ⟨fun σ H Q => ∀ c, (h' c).choose σ H Q, fun c => ⟨fun pins s σ H Q I hw => (h' c).choose_spec.1.run pins s σ H Q I (hw c)⟩, fun β S w σ Γ Rx R Q hR hG hf hk hx c => (h' c).choose_spec.2 β S w σ Γ Rx R Q hR hG hf hk hx⟩
abbrev noX : XP := fun _ _ _ => False
theorem xok_no {K : PySem.W.Frag} {E : XK} {β : Base} {n : Nat} {w : Wd} : XOk K E β n w noX := fun _ _ _ _ _ _ h => h.elim
/-! ### comprehensions -/
def lcW (g : FG) (ft : FT) (fe : FE) (Γ0 : Ev) : List D → List B → Sto → (List B → Sto → Prop) → Prop
  | [], acc, S, R => R acc S
  | d :: ds, acc, S, R => g (.fz d) Γ0 S fun Γ1 S1 => ft Γ1 S1 noX fun k S2 => cnd k (fe Γ1 S2 noX fun b S3 => lcW g ft fe Γ0 ds (acc ++ [b]) S3 R) (lcW g ft fe Γ0 ds acc S2 R)
def eLc (fi : FI) (g : FG) (ft : FT) (fe : FE) (is : List Nat) : FE := fun Γ S Rx R => fi Γ S Rx fun ds S1 => lcW g ft fe (EvWipe Γ is) ds [] S1 fun out S2 => asDs out fun os => R (.fz (.lst os)) S2
/-- .. the list will change -/
def eLcM (fi : FI) (g : FG) (ft : FT) (fe : FE) (is : List Nat) : FE := fun Γ S Rx R => fi Γ S Rx fun ds S1 => lcW g ft fe (EvWipe Γ is) ds [] S1 fun out S2 => R (.mt S2.length) (S2 ++ [.lst out])
theorem wipe_in (σ : St) (i : Nat) : ∀ {vs : List Nat}, i ∈ vs → (wipe σ vs).set i none = wipe σ vs
  | [], h => by cases h
  | v :: vs, h => by
    show ((wipe σ vs).set v none).set i none = (wipe σ vs).set v none
    by_cases e : i = v
    · rw [e, List.set_set]
    · have h2 : i ∈ vs := (List.mem_cons.mp h).resolve_left e
      rw [List.set_comm none none (Ne.symm e), wipe_in σ i h2]
theorem wipe_sub (σ : St) (vs : List Nat) : ∀ us : List Nat, (∀ i ∈ us, i ∈ vs) → wipe (wipe σ vs) us = wipe σ vs
  | [], _ => rfl
  | u :: us, h => by
    show (wipe (wipe σ vs) us).set u none = wipe σ vs
    rw [wipe_sub σ vs us fun i hi => h i (List.mem_cons_of_mem _ hi), wipe_in σ u (h u List.mem_cons_self)]
section
variable {K : PySem.W.Frag} {β : Base} {S : Sto} {w : Wd}
theorem Rel.adoptF (R : Rel K β S w) {D : Addr} {o : HO} (hD : w.H D = some o) (hF : w.F D = none) (h0 : β.H0 D = none) (hl : ∀ k c, S[k]? = some c → c ≠ .dead → w.m k ≠ D) :
    Rel K β S ⟨w.m, upd w.F D o, w.H⟩ ∧ Later S.length w S.length ⟨w.m, upd w.F D o, w.H⟩ := by
  have lt : Later S.length w S.length ⟨w.m, upd w.F D o, w.H⟩ := ⟨Nat.le_refl _, fun _ _ => rfl, fun b u h => (upd_ne (ne_of_none h hF)).trans h⟩
  refine ⟨⟨fun b u h => ?_, R.keep, fun b u h => lt.F _ _ (R.f0 _ _ h), fun b u h => ?_, R.m0, R.n0, fun k c h hd => ?_, R.inj⟩, lt⟩
  · by_cases e : b = D
    · subst e
      have h : upd w.F b o b = some u := h
      rw [upd_same] at h
      exact h ▸ hD
    · exact R.fr _ _ ((upd_ne e).symm.trans h)
  · by_cases e : b = D
    · subst e; exact .inr h0
    · exact R.fn _ _ ((upd_ne e).symm.trans h)
  · have L := R.live k c h hd
    exact ⟨(upd_ne (hl k c h hd)).trans L.nf, L.n0, L.ok.later lt rfl⟩
theorem Rel.adoptC (R : Rel K β S w) {D : Addr} {c : Cell} (hc : CellOk K S.length w D c) (hd : c ≠ .dead) (hF : w.F D = none) (h0 : β.H0 D = none) (hl : ∀ k c, S[k]? = some c → c ≠ .dead → w.m k ≠ D) :
    Rel K β (S ++ [c]) ⟨fun k => if k = S.length then D else w.m k, w.F, w.H⟩ ∧ Later S.length w (S ++ [c]).length ⟨fun k => if k = S.length then D else w.m k, w.F, w.H⟩ := by
  have lt : Later S.length w (S ++ [c]).length ⟨fun k => if k = S.length then D else w.m k, w.F, w.H⟩ :=
    ⟨by rw [List.length_append]; exact Nat.le_add_right _ _, fun k h => if_neg (Nat.ne_of_lt h), .refl _⟩
  have get : ∀ {k : Nat} {c' : Cell}, (S ++ [c])[k]? = some c' → (k < S.length ∧ S[k]? = some c') ∨ (k = S.length ∧ c' = c) := fun {k c'} h => by
    by_cases e : k < S.length
    · rw [List.getElem?_append_left e] at h
      exact .inl ⟨e, h⟩
    · rw [List.getElem?_append_right (Nat.le_of_not_lt e)] at h
      by_cases e2 : k - S.length = 0
      · rw [e2] at h
        cases h
        exact .inr ⟨by omega, rfl⟩
      · rw [List.getElem?_eq_none (by simp only [List.length_cons, List.length_nil]; omega)] at h
        cases h
  refine ⟨⟨R.fr, R.keep, R.f0, R.fn, fun k h => (if_neg (Nat.ne_of_lt (Nat.lt_of_lt_of_le h R.n0))).trans (R.m0 k h), Nat.le_trans R.n0 lt.le, fun k c' h hc' => ?_, fun i j ci cj hi hj di dj e => ?_⟩, lt⟩
  · rcases get h with ⟨e, h⟩ | ⟨e, rfl⟩
    · have L := R.live k c' h hc'
      have em : (if k = S.length then D else w.m k) = w.m k := if_neg (Nat.ne_of_lt e)
      show Live K _ _ _ (if k = S.length then D else w.m k) c'
      rw [em]
      exact ⟨L.nf, L.n0, L.ok.later lt rfl⟩
    · have em : (if k = S.length then D else w.m k) = D := if_pos e
      show Live K _ _ _ (if k = S.length then D else w.m k) c'
      rw [em]
      exact ⟨hF, h0, hc.later lt rfl⟩
  · have e : (if i = S.length then D else w.m i) = (if j = S.length then D else w.m j) := e
    rcases get hi with ⟨li, hi'⟩ | ⟨li, _⟩ <;> rcases get hj with ⟨lj, hj'⟩ | ⟨lj, _⟩
    · rw [if_neg (Nat.ne_of_lt li), if_neg (Nat.ne_of_lt lj)] at e
      exact R.inj i j ci cj hi' hj' di dj e
    · rw [if_neg (Nat.ne_of_lt li), if_pos lj] at e
      exact absurd e (hl i ci hi' di)
    · rw [if_pos li, if_neg (Nat.ne_of_lt lj)] at e
      exact absurd e.symm (hl j cj hj' dj)
    · exact li.trans lj.symm
end
section
variable {X : Cx} {E : XK} {e elt tg iter : Expr} {ifs : List Expr} {scope : Scope} {own : List (Str × Nat)} {fi : FI} {g : FG} {ft : FT} {fe : FE} {pos : Pos} {is : List Nat}
/-- the list's walk; fin: what becomes of the new list -/
theorem lc_snd {K : PySem.W.Frag} {E : XK} {wi : TI} {tgt : TG} {tt : TT} {te : TE} {vs : List Nat} {fin : List B → Sto → RB → Prop}
    (hi : SndI K E wi fi) (hg : SndG K tgt g is) (hin : ∀ i ∈ is, i ∈ vs) (ht : SndT K (fun _ _ _ => False) tt ft) (he : SndE K (fun _ _ _ => False) te fe)
    (hfin : ∀ β S w out R Q D us, Rel K β S w → fin out S R → DenBL K S.length w out us → w.H D = some (.lst us) → w.F D = none → β.H0 D = none → (∀ k c, S[k]? = some c → c ≠ .dead → w.m k ≠ D) → KOk K β S.length w R Q → Q (.ref D) w.H) :
    SndE K E (tLc wi tgt tt te vs) (fun Γ S Rx R => fi Γ S Rx fun ds S1 => lcW g ft fe (EvWipe Γ vs) ds [] S1 fun out S2 => fin out S2 R) := fun β S w σ Γ Rx R Q hR hG hf hk hx =>
  hi β S w σ Γ Rx _ _ hR hG hf (fun ds S1 w1 J h1 R1 l1 zs it D hD => by
    have G1 := (hG.later l1).wipe vs
    obtain ⟨R2, l2⟩ := R1.updFree (o := .lst []) (R1.fr.free hD) (R1.keep.free hD) (R1.freshL hD)
    refine ⟨fun i m H => m = ds.length - i ∧ i ≤ ds.length ∧ ∃ S w acc us, w.H = H ∧ Rel K β S w ∧ Later S1.length w1 S.length w ∧ w.H D = some (.lst us) ∧ DenBL K S.length w acc us ∧ w.F D = none ∧ β.H0 D = none ∧ (∀ k c, S[k]? = some c → c ≠ .dead → w.m k ≠ D) ∧ acc.length ≤ i ∧ lcW g ft fe (EvWipe Γ vs) (ds.drop i) acc S fun out S2 => fin out S2 R,
      ⟨ds.length, rfl, Nat.zero_le _, S1, _, [], [], rfl, R2, l2, upd_same, .nil, R1.fr.free hD, R1.keep.free hD, R1.freshL hD, Nat.le_refl _, h1⟩, ?_⟩
    rintro i m _ ⟨rfl, hi, S, w, acc, us, rfl, hR, l, hw, hacc, hF, h0, hl, hn, h⟩
    cases hd : ds.drop i with
    | nil =>
      rw [hd] at h
      have hle : ds.length ≤ i := by
        have := congrArg List.length hd
        rw [List.length_drop] at this
        have z : ([] : List PL.D).length = 0 := rfl
        omega
      exact .inl ⟨it.stop S w hR l i hle, hfin β S w acc R Q D us hR h hacc hw hF h0 hl (hk.later (l1.trans l))⟩
    | cons d r =>
      rw [hd] at h
      obtain ⟨hx, hr⟩ := drop_at hd
      obtain ⟨go, y⟩ := it.go S w hR l i d hx
      have hlt := get_lt hx
      refine .inr ⟨go, fun H' => ∃ S w acc us, w.H = H' ∧ Rel K β S w ∧ Later S1.length w1 S.length w ∧ w.H D = some (.lst us) ∧ DenBL K S.length w acc us ∧ w.F D = none ∧ β.H0 D = none ∧ (∀ k c, S[k]? = some c → c ≠ .dead → w.m k ≠ D) ∧ acc.length ≤ i + 1 ∧ lcW g ft fe (EvWipe Γ vs) r acc S fun out S2 => fin out S2 R,
        fun H' ⟨S, w, acc, us, q1, q2, q3, q4, q5, q6, q7, q8, q9, q10⟩ => ⟨ds.length - (i + 1), by omega, rfl, hlt, S, w, acc, us, q1, q2, q3, q4, q5, q6, q7, q8, q9, by rw [hr]; exact q10⟩, fun x H' hy => ?_⟩
      obtain ⟨w2, rfl, R2, l2, sm, d2⟩ := y x H' hy
      have hw2 := sm.1 _ _ hw
      have hF2 : w2.F D = none := by
        cases q : w2.F D with
        | none => rfl
        | some o =>
          rcases sm.2 D o q with z | z
          · rw [hF] at z; cases z
          · rw [hw] at z; cases z
      have hl2 : ∀ k c, S[k]? = some c → c ≠ .dead → w2.m k ≠ D := fun k c h1 h2 e => by
        rw [l2.m k (get_lt h1)] at e
        exact hl k c h1 h2 e
      have G2 := ((hG.later (l1.trans l)).later l2).wipe vs
      have kept : ∀ {S' : Sto} {w' : Wd}, Rel K (reb S w2) S' w' → w'.H D = some (.lst us) ∧ w'.F D = none ∧ (∀ k c, S'[k]? = some c → c ≠ .dead → w'.m k ≠ D) := fun {S' w'} R' => by
        have hD0 : (reb S w2).H0 D = some (.lst us) := reb_of hw2 hl2
        refine ⟨R'.keep _ _ hD0, ?_, fun k c h1 h2 e => ?_⟩
        · cases q : w'.F D with
          | none => rfl
          | some o =>
            rcases R'.fn D o q with z | z
            · have z : w2.F D = some o := z
              rw [hF2] at z; cases z
            · rw [hD0] at z; cases z
        · have := (R'.live k c h1 h2).n0
          rw [e, hD0] at this
          cases this
      have back : ∀ {S' : Sto} {w' : Wd}, Rel K (reb S w2) S' w' → Rel K β S' w' ∧ Later S.length w S'.length w' := fun R' => by
        obtain ⟨a1, a2⟩ := R2.unreb R'
        exact ⟨a1, l2.trans a2⟩
      refine hg (reb S w2) S w2 _ (EvWipe Γ vs) (.fz d) x _ _ R2.reb G2 d2 h fun Γ3 S3 w3 σ3 h3 R3 l3 G3 wp => ⟨(wp vs hin).trans (wipe_sub σ vs vs fun _ h => h), ?_⟩
      refine ht (reb S w2) S3 w3 σ3 Γ3 noX _ _ R3 G3 h3 (fun k S4 w4 h4 R4 l4 => ?_) xok_no
      cases k with
      | false =>
        obtain ⟨k1, k2, k3⟩ := kept R4
        obtain ⟨b1, b2⟩ := back R4
        exact ⟨S4, w4, acc, us, rfl, b1, l.trans b2, k1, hacc.later b2, k2, h0, k3, Nat.le_succ_of_le hn, h4⟩
      | true =>
        refine he (reb S w2) S4 w4 σ3 Γ3 noX _ _ R4 (G3.later l4) h4 (fun b S5 w5 v h5 R5 l5 d5 => ?_) xok_no
        obtain ⟨k1, k2, k3⟩ := kept R5
        obtain ⟨b1, b2⟩ := back R5
        have la := hacc.length
        obtain ⟨R6, l6⟩ := b1.updFree (o := .lst (us ++ [v])) k2 h0 k3
        exact ⟨us, k1, by omega, S5, _, acc ++ [b], us ++ [v], rfl, R6, l.trans (b2.trans l6), upd_same, ((hacc.later b2).later l6).app (.cons (d5.later l6) .nil), k2, h0, k3, by rw [List.length_append]; exact Nat.succ_le_succ hn, h5⟩) hx
abbrev Ctx5 := Shared × Hp × Addr × List (Str × Addr) × List Addr
theorem x_lcG {E : XK} {fin : List B → Sto → RB → Prop} (hc : X.calm = true) (hN : X.N.Nodup) (hi : XI X E tg iter fi) (ok : BlkOk X.N X.env.scope scope own) (hin : ∀ i ∈ is, i ∈ own.map (·.2))
    (hg : ∀ c : Ctx5, XG (X.blk c.1 c.2.1 scope (compEnvC scope c.2.2.2.1 c.2.2.1 X.env) c.2.2.2.2) tg g is)
    (ht : ∀ c : Ctx5, XIfs (X.blk c.1 c.2.1 scope (compEnvC scope c.2.2.2.1 c.2.2.1 X.env) c.2.2.2.2) ifs ft)
    (he : ∀ c : Ctx5, XE (X.blk c.1 c.2.1 scope (compEnvC scope c.2.2.2.1 c.2.2.1 X.env) c.2.2.2.2) (fun _ _ _ => False) elt fe)
    (hfin : ∀ β S w out R Q D us, Rel X.K β S w → fin out S R → DenBL X.K S.length w out us → w.H D = some (.lst us) → w.F D = none → β.H0 D = none → (∀ k c, S[k]? = some c → c ≠ .dead → w.m k ≠ D) → KOk X.K β S.length w R Q → Q (.ref D) w.H)
    (hs : ∀ x, foldedSetIterable iter X.env x = pure x := by intro _; rfl) :
    XE X E (.ListComp elt [⟨tg, iter, ifs, 0⟩] scope pos) (fun Γ S Rx R => fi Γ S Rx fun ds S1 => lcW g ft fe (EvWipe Γ (own.map (·.2))) ds [] S1 fun out S2 => fin out S2 R) :=
  let ⟨_, o, r⟩ := hi.ex
  let ⟨_, p, s⟩ := allG (Xf := fun c : Ctx5 => X.blk c.1 c.2.1 scope (compEnvC scope c.2.2.2.1 c.2.2.1 X.env) c.2.2.2.2) (K := X.K) (fun _ => rfl) hg
  let ⟨_, q, t⟩ := allIf (Xf := fun c : Ctx5 => X.blk c.1 c.2.1 scope (compEnvC scope c.2.2.2.1 c.2.2.1 X.env) c.2.2.2.2) (K := X.K) (fun _ => rfl) ht
  let ⟨_, u, v⟩ := allE (Xf := fun c : Ctx5 => X.blk c.1 c.2.1 scope (compEnvC scope c.2.2.2.1 c.2.2.1 X.env) c.2.2.2.2) (K := X.K) (fun _ => rfl) he
  ⟨_, pe_lc hc hN o ok (fun s H C cl fp => p (s, H, C, cl, fp)) (fun s H C cl fp => q (s, H, C, cl, fp)) (fun s H C cl fp => u (s, H, C, cl, fp)) hs, lc_snd r s hin t v hfin⟩
theorem x_lc (hc : X.calm = true) (hN : X.N.Nodup) (hi : XI X E tg iter fi) (ok : BlkOk X.N X.env.scope scope own) (hin : ∀ i ∈ is, i ∈ own.map (·.2))
    (hg : ∀ c : Ctx5, XG (X.blk c.1 c.2.1 scope (compEnvC scope c.2.2.2.1 c.2.2.1 X.env) c.2.2.2.2) tg g is)
    (ht : ∀ c : Ctx5, XIfs (X.blk c.1 c.2.1 scope (compEnvC scope c.2.2.2.1 c.2.2.1 X.env) c.2.2.2.2) ifs ft)
    (he : ∀ c : Ctx5, XE (X.blk c.1 c.2.1 scope (compEnvC scope c.2.2.2.1 c.2.2.1 X.env) c.2.2.2.2) (fun _ _ _ => False) elt fe)
    (hs : ∀ x, foldedSetIterable iter X.env x = pure x := by intro _; rfl) : XE X E (.ListComp elt [⟨tg, iter, ifs, 0⟩] scope pos) (eLc fi g ft fe (own.map (·.2))) :=
  x_lcG (fin := fun out S2 R => asDs out fun os => R (.fz (.lst os)) S2) hc hN hi ok hin hg ht he (fun β S w out R Q D us hR h hacc hw hF h0 hl hk => by
    obtain ⟨os, h2, h3⟩ := asDs_ok h hacc
    obtain ⟨R2, l2⟩ := hR.adoptF hw hF h0 hl
    exact hk _ S ⟨w.m, upd w.F D (.lst us), w.H⟩ (.ref D) h2 R2 l2 (Den.lst (vs := us) upd_same (DenL.mono l2.F h3))) hs
theorem x_lcM (hc : X.calm = true) (hN : X.N.Nodup) (hi : XI X E tg iter fi) (ok : BlkOk X.N X.env.scope scope own) (hin : ∀ i ∈ is, i ∈ own.map (·.2))
    (hg : ∀ c : Ctx5, XG (X.blk c.1 c.2.1 scope (compEnvC scope c.2.2.2.1 c.2.2.1 X.env) c.2.2.2.2) tg g is)
    (ht : ∀ c : Ctx5, XIfs (X.blk c.1 c.2.1 scope (compEnvC scope c.2.2.2.1 c.2.2.1 X.env) c.2.2.2.2) ifs ft)
    (he : ∀ c : Ctx5, XE (X.blk c.1 c.2.1 scope (compEnvC scope c.2.2.2.1 c.2.2.1 X.env) c.2.2.2.2) (fun _ _ _ => False) elt fe)
    (hs : ∀ x, foldedSetIterable iter X.env x = pure x := by intro _; rfl) : XE X E (.ListComp elt [⟨tg, iter, ifs, 0⟩] scope pos) (eLcM fi g ft fe (own.map (·.2))) :=
  x_lcG (fin := fun out S2 R => R (.mt S2.length) (S2 ++ [.lst out])) hc hN hi ok hin hg ht he (fun β S w out R Q D us hR h hacc hw hF h0 hl hk => by
    obtain ⟨R2, l2⟩ := hR.adoptC (c := .lst out) ⟨us, hw, hacc⟩ (by intro z; cases z) hF h0 hl
    exact hk _ _ ⟨fun k => if k = S.length then D else w.m k, w.F, w.H⟩ (.ref D) h R2 l2 ⟨by rw [List.length_append]; exact Nat.lt_succ_self _, congrArg V.ref (if_pos rfl).symm⟩) hs
end
end PL
namespace PL
open PySem L2
/-! ### defs -/
/-- what a def does: the arguments, the cells, what is wanted of an exception, of the value -/
abbrev FW := List B → Sto → XP → RB → Prop
/-- the promise of a def that may raise; of one that does not -/
def spX (K : PySem.W.Frag) (W : FW) : Sp := fun vs H Q E => ∃ β S w bs Rx R, w.H = H ∧ Rel K β S w ∧ DenBL K S.length w bs vs ∧ W bs S Rx R ∧ KOk K β S.length w R Q ∧ XOk K E β S.length w Rx
def spP (K : PySem.W.Frag) (W : FW) : Sp := fun vs H Q _ => ∃ β S w bs R, w.H = H ∧ Rel K β S w ∧ DenBL K S.length w bs vs ∧ W bs S noX R ∧ KOk K β S.length w R Q
/-- a def of n parameters and m further names -/
def defW (n m : Nat) (f : FS) : FW := fun bs S Rx R => bs.length = n ∧ f (bs.map some ++ List.replicate m none) S { nx := fun _ S' => R (.fz .non) S', rt := R, xe := Rx }
theorem start_ok {K : PySem.W.Frag} {n : Nat} {w : Wd} {N : List Str} {m : Nat} : ∀ {bs : List B} {vs : List V}, DenBL K n w bs vs → N.length = bs.length + m → EvOk K n w (bs.map some ++ List.replicate m none) (L2.start N vs) := fun {bs vs} h hN => by
  refine ⟨?_, fun i b e => ?_⟩
  · unfold L2.start
    rw [List.length_append, List.length_map, List.length_replicate, List.length_append, List.length_map, List.length_replicate, h.length]
    have := h.length
    omega
  · by_cases hi : i < bs.length
    · rw [List.getElem?_append_left (by rw [List.length_map]; exact hi), List.getElem?_map] at e
      cases hb : bs[i]? with
      | none => rw [hb] at e; cases e
      | some b' =>
        rw [hb] at e
        cases e
        obtain ⟨v, h1, h2⟩ := h.get hb
        refine ⟨v, ?_, h2⟩
        unfold L2.start
        rw [List.getElem?_append_left (by rw [List.length_map, ← h.length]; exact hi), List.getElem?_map, h1]
        rfl
    · rw [List.getElem?_append_right (by rw [List.length_map]; omega), List.getElem?_replicate] at e
      split at e <;> cases e
section
variable {P : Program} {w : World} {K : PySem.W.Frag} {mg : Str → Option Value} {base : Heap}
theorem okP {x qual : Str} {st : Stmt} {f : Addr} {fd : FuncData} {N ps : List Str} {k n m : Nat} {fb : FS} (F : Fun K x qual st f fd) (S : FnScope N ps (defScope st)) (hn : ps.length = n) (hm : N.length = n + m)
    (hbody : ∀ (cdv : Value) (A : Around) (outer : List Env) (s : Shared) (H : Hp) (E : XK), Room k (A.deeper (PyProof.Rows.envOfC qual (defScope st) s.heap.objs.size f cdv)) → XSs (cxOf CX0 P w K mg base N qual (defScope st) f cdv A outer s H E).nox E0 (defBody st) fb) :
    FnOk P w K mg base CX0 (k + 1) f fd ps (spP K (defW n m fb)) :=
  F.ok S (fun vs H Q E ⟨β, S, w, bs, R, _, _, hb, hW, _⟩ => by rw [← hb.length, hW.1, hn]) fun cdv A outer s H vs Q E hr ⟨β, S, w1, bs, R, e, hR, hb, hW, hk⟩ => by
    obtain ⟨t, p, q⟩ := (hbody cdv A outer s H E hr).ex
    subst e
    have RR := hR.reb
    have back : ∀ {S' : Sto} {w' : Wd}, Rel K (reb S w1) S' w' → Rel K β S' w' ∧ Later S.length w1 S'.length w' := fun R' => hR.unreb R'
    exact ⟨t, p, q (reb S w1) S w1 _ _ _ _ RR (start_ok hb (by rw [hW.1]; exact hm)) hW.2 ⟨fun Γ S' w' σ h R' _ => hk _ S' w' .non h (back R').1 (back R').2 .non, fun b S' w' v h R' d => hk b S' w' v h (back R').1 (back R').2 d,
      fun C fs S' w' d vs h => h.elim, fun _ _ _ _ h => h.elim, fun _ _ _ _ h => h.elim⟩⟩
theorem okX {x qual : Str} {st : Stmt} {f : Addr} {fd : FuncData} {N ps : List Str} {k n m : Nat} {fb : FS} (F : Fun K x qual st f fd) (S : FnScope N ps (defScope st)) (hn : ps.length = n) (hm : N.length = n + m)
    (hbody : ∀ (cdv : Value) (A : Around) (outer : List Env) (s : Shared) (H : Hp) (E : XK), Room k (A.deeper (PyProof.Rows.envOfC qual (defScope st) s.heap.objs.size f cdv)) → XSs (cxOf (L2.CX P w) P w K mg base N qual (defScope st) f cdv A outer s H E) E (defBody st) fb) :
    FnOk P w K mg base (L2.CX P w) (k + 1) f fd ps (spX K (defW n m fb)) :=
  F.okX S (fun vs H Q E ⟨β, S, w, bs, Rx, R, _, _, hb, hW, _⟩ => by rw [← hb.length, hW.1, hn]) fun cdv A outer s H vs Q E hr ⟨β, S, w1, bs, Rx, R, e, hR, hb, hW, hk, hx⟩ => by
    obtain ⟨t, p, q⟩ := (hbody cdv A outer s H E hr).ex
    subst e
    have RR := hR.reb
    have back : ∀ {S' : Sto} {w' : Wd}, Rel K (reb S w1) S' w' → Rel K β S' w' ∧ Later S.length w1 S'.length w' := fun R' => hR.unreb R'
    exact ⟨t, p, q (reb S w1) S w1 _ _ _ _ RR (start_ok hb (by rw [hW.1]; exact hm)) hW.2 ⟨fun Γ S' w' σ h R' _ => hk _ S' w' .non h (back R').1 (back R').2 .non, fun b S' w' v h R' d => hk b S' w' v h (back R').1 (back R').2 d,
      fun C fs S' w' d vs h R' z1 z2 => hx C fs S' w' d vs h (back R').1 (back R').2 z1 z2, fun _ _ _ _ h => h.elim, fun _ _ _ _ h => h.elim⟩⟩
/-- a def that may raise, where it does not -/
theorem calmX {f : Addr} {fd : FuncData} {ps : List Str} {k : Nat} {W : FW} (F : FnOk P w K mg base (L2.CX P w) k f fd ps (spX K W)) : FnOk P w K mg base CX0 k f fd ps (spP K W) where
  len := fun vs H Q E ⟨β, S, w, bs, R, e, hR, hb, hW, hk⟩ => F.len vs H Q E0 ⟨β, S, w, bs, noX, R, e, hR, hb, hW, hk, xok_no⟩
  run := fun A outer s H args us vs Q E hr e0 hb hv ⟨β, S, w, bs, R, e, hR, hb', hW, hk⟩ => codeAny_mono (F.run A outer s H args us vs Q E0 hr e0 hb hv ⟨β, S, w, bs, noX, R, e, hR, hb', hW, hk, xok_no⟩) fun r s' q => by
    cases r with
    | ok fl => cases fl <;> exact q
    | error e =>
      obtain ⟨_, _, _, _, _, _, _, _, _, _, _, _, z⟩ := (show L2.CX P _ outer H s E0 e s' from q)
      exact z.elim
end
/-! ### calls -/
/-- of arguments for good; what the def makes is for good -/
def gPure (W : FW) (dds : List D) : List B → Sto → XP → RB → Prop := fun bs S Rx R => asDs bs fun ds => W ((ds ++ dds).map B.fz) [] (fun C fs _ => Rx C fs S) fun b _ => match b with
  | .fz d => R (.fz d) S
  | .mt _ => False
/-- .. what it makes is a list that will change -/
def gPureM (W : FW) (dds : List D) : List B → Sto → XP → RB → Prop := fun bs S Rx R => asDs bs fun ds => W ((ds ++ dds).map B.fz) [] (fun C fs _ => Rx C fs S) fun b S1 => match b with
  | .mt j => (match S1[j]? with
    | some (.lst cs) => asDs cs fun _ => R (.mt S.length) (S ++ [.lst cs])
    | _ => False)
  | .fz _ => False
/-- .. with all cells -/
def gAll (W : FW) (dds : List D) : List B → Sto → XP → RB → Prop := fun bs S Rx R => W (bs ++ dds.map B.fz) S Rx R
abbrev GW := List B → Sto → XP → RB → Prop
def SndW (K : PySem.W.Frag) (W : FW) (dvs : List V) (g : GW) : Prop := ∀ β S w bs vs Rx R Q E, Rel K β S w → DenBL K S.length w bs vs → g bs S Rx R → KOk K β S.length w R Q → XOk K E β S.length w Rx → spX K W (vs ++ dvs) w.H Q E
theorem asDs_den {K : PySem.W.Frag} {n : Nat} {w : Wd} {bs : List B} {vs : List V} {k : List D → Prop} (h : asDs bs k) (hb : DenBL K n w bs vs) : ∃ ds, k ds ∧ DenL K w.F ds vs := asDs_ok h hb
theorem Rel.drop {K : PySem.W.Frag} {β : Base} {S : Sto} {w : Wd} (R : Rel K β S w) : Rel K (PL.reb [] w) [] w := by
  refine ⟨R.fr, fun a o h => (reb_some h).1, .refl _, fun a o h => .inl h, fun _ _ => rfl, Nat.le_refl _, fun k c h => (by cases h), fun i j ci cj h => (by cases h)⟩
/-- behind a call that was handed nothing that changes -/
theorem Rel.undrop {K : PySem.W.Frag} {β : Base} {S S' : Sto} {w w' : Wd} (R : Rel K β S w) (R' : Rel K (PL.reb [] w) S' w') : Rel K β S ⟨w.m, w'.F, w'.H⟩ ∧ Later S.length w S.length ⟨w.m, w'.F, w'.H⟩ ∧ ∀ j c, S'[j]? = some c → c ≠ .dead → w.H (w'.m j) = none := by
  have sm : Same w.H w'.H := fun a o h => R'.keep a o (reb_of h fun k c h => by cases h)
  have hn : ∀ {a : Addr}, (PL.reb [] w).H0 a = none → w.H a = none := fun {a} h => by
    cases q : w.H a with
    | none => rfl
    | some o => rw [reb_of q fun k c h => by cases h] at h; cases h
  have lt : Later S.length w S.length ⟨w.m, w'.F, w'.H⟩ := ⟨Nat.le_refl _, fun _ _ => rfl, R'.f0⟩
  refine ⟨⟨R'.fr, fun a o h => sm _ _ (R.keep _ _ h), R.f0.trans R'.f0, fun a o h => ?_, R.m0, R.n0, fun k c h hd => ?_, R.inj⟩, lt, fun j c h hd => hn (R'.live j c h hd).n0⟩
  · rcases R'.fn a o h with q | q
    · exact R.fn a o q
    · exact .inr (R.keep.free (hn q))
  · have L := R.live k c h hd
    obtain ⟨o, ho⟩ := L.ok.some hd
    refine ⟨?_, L.n0, L.ok.later lt ((sm _ _ ho).trans ho.symm)⟩
    cases q : w'.F (w.m k) with
    | none => rfl
    | some u =>
      rcases R'.fn _ _ q with z | z
      · have z : w.F (w.m k) = some u := z
        rw [L.nf] at z; cases z
      · rw [hn z] at ho; cases ho
theorem DenL.den {K : PySem.W.Frag} {F : Hp} : ∀ {dds : List D} {dvs : List V}, Paired (fun d v => ∀ F, Den K F d v) dds dvs → DenL K F dds dvs
  | _, _, .nil => .nil
  | _, _, .cons h t => .cons (h F) (DenL.den t)
theorem snd_pure {K : PySem.W.Frag} {W : FW} {dds : List D} {dvs : List V} (hd : Paired (fun d v => ∀ F, Den K F d v) dds dvs) : SndW K W dvs (gPure W dds) := fun β S w bs vs Rx R Q E hR hb hg hk hx => by
  obtain ⟨ds, h, dl⟩ := asDs_den hg hb
  refine ⟨_, [], w, _, _, _, rfl, hR.drop, (DenL.app dl (DenL.den hd)).bz, h, fun b S' w' v q R' l' d => ?_, fun C fs S' w' d vs q R' l' z1 z2 => ?_⟩
  · cases b with
    | mt _ => exact (show False from q).elim
    | fz x =>
      obtain ⟨R2, l2, _⟩ := hR.undrop R'
      exact hk _ S ⟨w.m, w'.F, w'.H⟩ v q R2 l2 d
  · obtain ⟨R2, l2, _⟩ := hR.undrop R'
    exact hx C fs S ⟨w.m, w'.F, w'.H⟩ d vs q R2 l2 z1 z2
theorem snd_pureM {K : PySem.W.Frag} {W : FW} {dds : List D} {dvs : List V} (hd : Paired (fun d v => ∀ F, Den K F d v) dds dvs) : SndW K W dvs (gPureM W dds) := fun β S w bs vs Rx R Q E hR hb hg hk hx => by
  obtain ⟨ds, h, dl⟩ := asDs_den hg hb
  refine ⟨_, [], w, _, _, _, rfl, hR.drop, (DenL.app dl (DenL.den hd)).bz, h, fun b S' w' v q R' l' d => ?_, fun C fs S' w' d vs q R' l' z1 z2 => ?_⟩
  · cases b with
    | fz _ => exact (show False from q).elim
    | mt j =>
      obtain ⟨R2, l2, fr⟩ := hR.undrop R'
      obtain ⟨_, rfl⟩ := (show j < S'.length ∧ v = .ref (w'.m j) from d)
      obtain ⟨cs, e1, h1⟩ := cell_lst (f := fun cs => asDs cs fun _ => R (.mt S.length) (S ++ [.lst cs])) q
      obtain ⟨us, h3, h4⟩ := R'.cellL e1
      obtain ⟨es, rfl, h2⟩ := asDs_eq h1
      have L := R'.live j _ e1 (by intro z; cases z)
      have wn := fr j _ e1 (by intro z; cases z)
      obtain ⟨R3, l3⟩ := R2.adoptC (D := w'.m j) (c := .lst (es.map .fz)) ⟨us, h3, DenL.bz (w := ⟨w.m, w'.F, w'.H⟩) h4.fz⟩ (by intro z; cases z) L.nf (hR.keep.free wn) fun k c h1 h2 e => by
        obtain ⟨o, ho⟩ := (hR.live k c h1 h2).ok.some h2
        have e : w.m k = w'.m j := e
        rw [e, wn] at ho
        cases ho
      exact hk _ _ ⟨fun k => if k = S.length then w'.m j else w.m k, w'.F, w'.H⟩ (.ref (w'.m j)) h2 R3 (l2.trans l3) ⟨by rw [List.length_append]; exact Nat.lt_succ_self _, congrArg V.ref (if_pos rfl).symm⟩
  · obtain ⟨R2, l2, _⟩ := hR.undrop R'
    exact hx C fs S ⟨w.m, w'.F, w'.H⟩ d vs q R2 l2 z1 z2
theorem snd_all {K : PySem.W.Frag} {W : FW} {dds : List D} {dvs : List V} (hd : Paired (fun d v => ∀ F, Den K F d v) dds dvs) : SndW K W dvs (gAll W dds) := fun β S w bs vs Rx R Q E hR hb hg hk hx =>
  ⟨β, S, w, _, Rx, R, rfl, hR, hb.app (DenL.den hd).bz, hg, hk, hx⟩
/-- .. where nothing is raised -/
theorem SndW.calm {K : PySem.W.Frag} {W : FW} {dvs : List V} {g : GW} (h : SndW K W dvs g) (hW : ∀ bs S Rx R, W bs S Rx R → W bs S noX R := by intros; assumption) {β : Base} {S : Sto} {w : Wd} {bs : List B} {vs : List V} {R : RB} {Q : VK} {E : XK} (hR : Rel K β S w) (hb : DenBL K S.length w bs vs) (hg : g bs S noX R) (hk : KOk K β S.length w R Q) : spX K W (vs ++ dvs) w.H Q E :=
  h β S w bs vs noX R Q E hR hb hg hk xok_no
end PL
namespace PL
open PySem L2
section
variable {X : Cx} {E : XK} {a b c e o : Expr} {es : List Expr} {fa fb fc f fo fe : FE} {fr : FA} {pos p0 : Pos} {CX : CXT} {k : Nat} {C g : Addr} {cn : Str} {fd : FuncData} {ps : List Str} {dvs : List V} {ds : List Value} {x m : Str} {W : FW} {gw : GW}
def SndW0 (K : PySem.W.Frag) (W : FW) (dvs : List V) (g : GW) : Prop := ∀ β S w bs vs R Q E, Rel K β S w → DenBL K S.length w bs vs → g bs S noX R → KOk K β S.length w R Q → spP K W (vs ++ dvs) w.H Q E
theorem snd_pure0 {K : PySem.W.Frag} {W : FW} {dds : List D} {dvs : List V} (hd : Paired (fun d v => ∀ F, Den K F d v) dds dvs) : SndW0 K W dvs (gPure W dds) := fun β S w bs vs R Q E hR hb hg hk => by
  obtain ⟨ds, h, dl⟩ := asDs_den hg hb
  refine ⟨_, [], w, _, _, rfl, hR.drop, (DenL.app dl (DenL.den hd)).bz, h, fun b S' w' v q R' l' d => ?_⟩
  cases b with
  | mt _ => exact (show False from q).elim
  | fz x =>
    obtain ⟨R2, l2, _⟩ := hR.undrop R'
    exact hk _ S ⟨w.m, w'.F, w'.H⟩ v q R2 l2 d
theorem snd_pureM0 {K : PySem.W.Frag} {W : FW} {dds : List D} {dvs : List V} (hd : Paired (fun d v => ∀ F, Den K F d v) dds dvs) : SndW0 K W dvs (gPureM W dds) := fun β S w bs vs R Q E hR hb hg hk => by
  obtain ⟨ds, h, dl⟩ := asDs_den hg hb
  refine ⟨_, [], w, _, _, rfl, hR.drop, (DenL.app dl (DenL.den hd)).bz, h, fun b S' w' v q R' l' d => ?_⟩
  cases b with
  | fz _ => exact (show False from q).elim
  | mt j =>
    obtain ⟨R2, l2, fr⟩ := hR.undrop R'
    obtain ⟨_, rfl⟩ := (show j < S'.length ∧ v = .ref (w'.m j) from d)
    obtain ⟨cs, e1, h1⟩ := cell_lst (f := fun cs => asDs cs fun _ => R (.mt S.length) (S ++ [.lst cs])) q
    obtain ⟨us, h3, h4⟩ := R'.cellL e1
    obtain ⟨es, rfl, h2⟩ := asDs_eq h1
    have L := R'.live j _ e1 (by intro z; cases z)
    have wn := fr j _ e1 (by intro z; cases z)
    obtain ⟨R3, l3⟩ := R2.adoptC (D := w'.m j) (c := .lst (es.map .fz)) ⟨us, h3, DenL.bz (w := ⟨w.m, w'.F, w'.H⟩) h4.fz⟩ (by intro z; cases z) L.nf (hR.keep.free wn) fun k c h1 h2 e => by
      obtain ⟨o, ho⟩ := (hR.live k c h1 h2).ok.some h2
      have e : w.m k = w'.m j := e
      rw [e, wn] at ho
      cases ho
    exact hk _ _ ⟨fun k => if k = S.length then w'.m j else w.m k, w'.F, w'.H⟩ (.ref (w'.m j)) h2 R3 (l2.trans l3) ⟨by rw [List.length_append]; exact Nat.lt_succ_self _, congrArg V.ref (if_pos rfl).symm⟩
theorem snd_all0 {K : PySem.W.Frag} {W : FW} {dds : List D} {dvs : List V} (hd : Paired (fun d v => ∀ F, Den K F d v) dds dvs) : SndW0 K W dvs (gAll W dds) := fun β S w bs vs R Q E hR hb hg hk =>
  ⟨β, S, w, _, R, rfl, hR, hb.app (DenL.den hd).bz, hg, hk⟩
/-! ### f(..) -/
def eCallX (gw : GW) (fr : FA) : FE := fun Γ S Rx R => fr Γ S Rx fun bs S1 => gw bs S1 Rx R
def eCallC (gw : GW) (fr : FA) : FE := fun Γ S Rx R => fr Γ S Rx fun bs S1 => gw bs S1 noX R
theorem snd_callX {K : PySem.W.Frag} {t : TA} (s : SndA K E t fr) (hw : SndW K W dvs gw) : SndE K E (tCall (spX K W) dvs E t) (eCallX gw fr) := fun β S w σ Γ Rx R Q hR hG hf hk hx =>
  s β S w σ Γ Rx _ _ hR hG hf (fun bs S1 w1 vs h1 R1 l1 d1 => hw β S1 w1 bs vs Rx R Q E R1 d1 h1 (hk.later l1) (hx.later l1)) hx
theorem snd_callC {K : PySem.W.Frag} {t : TA} {E' : XK} (s : SndA K E t fr) (hw : SndW0 K W dvs gw) : SndE K E (tCall (spP K W) dvs E' t) (eCallC gw fr) := fun β S w σ Γ Rx R Q hR hG hf hk hx =>
  s β S w σ Γ Rx _ _ hR hG hf (fun bs S1 w1 vs h1 R1 l1 d1 => hw β S1 w1 bs vs R Q E' R1 d1 h1 (hk.later l1)) hx
theorem snd_nil {K : PySem.W.Frag} : SndA K E tNil aNil := fun β S w σ Γ Rx R Q hR hG hf hk hx => hk [] S w [] hf hR (.refl _ _) .nil
theorem xcallX (F : FnOk X.prog X.w X.K X.mg X.base CX k g fd ps (spX X.K W)) (hw : SndW X.K W dvs gw) (hr : Room k X.A) (hg : Gl X x) (hm : X.mg x = some (.ref g)) (hk : PySem.W.keepIn X.K (.ref g) = true) (hb : Binds X.K fd ps ds) (hd : Vals dvs ds) (hx : Passes CX X E) (ha : XA X E (e :: es) fr)
    (hpe : ∀ {t : TA}, PA X (e :: es) t → PE X (.Call (.Name x p0) (e :: es) [] pos) (tCall (spX X.K W) dvs E t)) : XE X E (.Call (.Name x p0) (e :: es) [] pos) (eCallX gw fr) :=
  let ⟨_, p, s⟩ := ha.ex; ⟨_, hpe p, snd_callX s hw⟩
theorem xcallX0 (hw : SndW X.K W dvs gw) (hpe : PE X e (tCall (spX X.K W) dvs E tNil)) : XE X E e (eCallX gw aNil) := ⟨_, hpe, snd_callX snd_nil hw⟩
theorem xcallC (hw : SndW0 X.K W dvs gw) (ha : XA X E es fr) {E' : XK} (hpe : ∀ {t : TA}, PA X es t → PE X e (tCall (spP X.K W) dvs E' t)) : XE X E e (eCallC gw fr) :=
  let ⟨_, p, s⟩ := ha.ex; ⟨_, hpe p, snd_callC s hw⟩
theorem xcallC0 (hw : SndW0 X.K W dvs gw) {E' : XK} (hpe : PE X e (tCall (spP X.K W) dvs E' tNil)) : XE X E e (eCallC gw aNil) := ⟨_, hpe, snd_callC snd_nil hw⟩
/-! ### objects -/
/-- an instance of the class at C, without an attribute m of its own -/
def isIns (C : Str) (m : Str) (b : B) (S : Sto) : Prop := match b with
  | .fz (.ins C' fs) => C' = C ∧ fs.lookup m = none
  | .mt k => (match S[k]? with
    | some (.ins C' fs) => C' = C ∧ fs.lookup m = none
    | _ => False)
  | _ => False
theorem DenF.look {K : PySem.W.Frag} {F : Hp} {m : Str} : ∀ {fs : List (Str × D)} {vs : List (Str × V)}, DenF K F fs vs → (∀ d, fs.lookup m = some d → ∃ v, vs.lookup m = some v ∧ Den K F d v) ∧ (fs.lookup m = none → vs.lookup m = none)
  | _, _, .nil => ⟨fun d h => (by cases h), fun _ => rfl⟩
  | _, _, @DenF.cons _ _ n d v fs vs h t => by
    have ih := DenF.look (m := m) t
    cases e : m == n with
    | true => exact ⟨fun d' h' => by
        rw [List.lookup_cons, e] at h'
        cases h'
        exact ⟨v, by rw [List.lookup_cons, e], h⟩, fun h' => by rw [List.lookup_cons, e] at h'; cases h'⟩
    | false => exact ⟨fun d' h' => by
        rw [List.lookup_cons, e] at h'
        obtain ⟨v', h1, h2⟩ := ih.1 d' h'
        exact ⟨v', by rw [List.lookup_cons, e]; exact h1, h2⟩, fun h' => by rw [List.lookup_cons, e] at h' ⊢; exact ih.2 h'⟩
theorem DenBF.look {K : PySem.W.Frag} {n : Nat} {w : Wd} {m : Str} : ∀ {fs : List (Str × B)} {vs : List (Str × V)}, DenBF K n w fs vs → (∀ d, fs.lookup m = some d → ∃ v, vs.lookup m = some v ∧ DenB K n w d v) ∧ (fs.lookup m = none → vs.lookup m = none)
  | _, _, .nil => ⟨fun d h => (by cases h), fun _ => rfl⟩
  | _, _, @DenBF.cons _ _ _ n d v fs vs h t => by
    have ih := DenBF.look (m := m) t
    cases e : m == n with
    | true => exact ⟨fun d' h' => by
        rw [List.lookup_cons, e] at h'
        cases h'
        exact ⟨v, by rw [List.lookup_cons, e], h⟩, fun h' => by rw [List.lookup_cons, e] at h'; cases h'⟩
    | false => exact ⟨fun d' h' => by
        rw [List.lookup_cons, e] at h'
        obtain ⟨v', h1, h2⟩ := ih.1 d' h'
        exact ⟨v', by rw [List.lookup_cons, e]; exact h1, h2⟩, fun h' => by rw [List.lookup_cons, e] at h' ⊢; exact ih.2 h'⟩
theorem cell_ins {S : Sto} {k : Nat} {f : Str → List (Str × B) → Prop} (h : match S[k]? with
    | some (.ins C fs) => f C fs
    | _ => False) : ∃ C fs, S[k]? = some (.ins C fs) ∧ f C fs := by
  cases hc : S[k]? with
  | none => rw [hc] at h; exact h.elim
  | some cl =>
    rw [hc] at h
    cases cl with
    | ins C fs => exact ⟨C, fs, rfl, h⟩
    | _ => exact (show False from h).elim
theorem isIns_ok {K : PySem.W.Frag} {β : Base} {S : Sto} {w : Wd} {b : B} {v : V} (hR : Rel K β S w) (hb : DenB K S.length w b v) (h : isIns cn m b S) : ∃ a dx fs, v = .ref a ∧ w.H a = some (.ins (clsAt K cn) dx fs) ∧ fs.lookup m = none := by
  cases b with
  | fz d =>
    have hb : Den K w.F d v := hb
    cases hb with
    | ins h1 h2 =>
      obtain ⟨rfl, h3⟩ := h
      exact ⟨_, _, _, rfl, hR.fr _ _ h1, h2.look.2 h3⟩
    | _ => exact (show False from h).elim
  | mt k =>
    obtain ⟨_, rfl⟩ := hb
    obtain ⟨C', fs, e1, rfl, h3⟩ := cell_ins (f := fun C' fs => C' = cn ∧ fs.lookup m = none) h
    obtain ⟨dx, vs, h4, h5⟩ := hR.cellI e1
    exact ⟨_, dx, vs, rfl, h4, h5.look.2 h3⟩
def eMethX (C : Str) (m : Str) (gw : GW) (fo : FE) (fr : FA) : FE := fun Γ S Rx R => fo Γ S Rx fun b S1 => isIns C m b S1 ∧ fr Γ S1 Rx fun bs S2 => gw (b :: bs) S2 Rx R
def eMethC (C : Str) (m : Str) (gw : GW) (fo : FE) (fr : FA) : FE := fun Γ S Rx R => fo Γ S Rx fun b S1 => isIns C m b S1 ∧ fr Γ S1 Rx fun bs S2 => gw (b :: bs) S2 noX R
theorem snd_methX {K : PySem.W.Frag} {to : TE} {t : TA} (so : SndE K E to fo) (s : SndA K E t fr) (hw : SndW K W dvs gw) : SndE K E (tMeth (clsAt K cn) m (spX K W) dvs E to t) (eMethX cn m gw fo fr) := fun β S w σ Γ Rx R Q hR hG hf hk hx =>
  so β S w σ Γ Rx _ _ hR hG hf (fun b S1 w1 v h1 R1 l1 d1 => by
    obtain ⟨h0, h1⟩ := h1
    obtain ⟨a, dx, fs, rfl, h2, h3⟩ := isIns_ok R1 d1 h0
    exact ⟨a, dx, fs, rfl, h2, h3, s β S1 w1 σ Γ Rx _ _ R1 (hG.later l1) h1 (fun bs S2 w2 vs h4 R2 l2 d2 => hw β S2 w2 (b :: bs) (.ref a :: vs) Rx R Q E R2 (.cons (d1.later l2) d2) h4 (hk.later (l1.trans l2)) (hx.later (l1.trans l2))) (hx.later l1)⟩) hx
theorem snd_methC {K : PySem.W.Frag} {to : TE} {t : TA} {E' : XK} (so : SndE K E to fo) (s : SndA K E t fr) (hw : SndW0 K W dvs gw) : SndE K E (tMeth (clsAt K cn) m (spP K W) dvs E' to t) (eMethC cn m gw fo fr) := fun β S w σ Γ Rx R Q hR hG hf hk hx =>
  so β S w σ Γ Rx _ _ hR hG hf (fun b S1 w1 v h1 R1 l1 d1 => by
    obtain ⟨h0, h1⟩ := h1
    obtain ⟨a, dx, fs, rfl, h2, h3⟩ := isIns_ok R1 d1 h0
    exact ⟨a, dx, fs, rfl, h2, h3, s β S1 w1 σ Γ Rx _ _ R1 (hG.later l1) h1 (fun bs S2 w2 vs h4 R2 l2 d2 => hw β S2 w2 (b :: bs) (.ref a :: vs) R Q E' R2 (.cons (d1.later l2) d2) h4 (hk.later (l1.trans l2))) (hx.later l1)⟩) hx
theorem xmethX (hw : SndW X.K W dvs gw) (ho : XE X E o fo) (ha : XA X E es fr) (hpe : ∀ {to : TE} {t : TA}, PE X o to → PA X es t → PE X e (tMeth (clsAt X.K cn) m (spX X.K W) dvs E to t)) : XE X E e (eMethX cn m gw fo fr) :=
  let ⟨_, q, u⟩ := ho.ex; let ⟨_, p, s⟩ := ha.ex; ⟨_, hpe q p, snd_methX u s hw⟩
theorem xmethX0 (hw : SndW X.K W dvs gw) (ho : XE X E o fo) (hpe : ∀ {to : TE}, PE X o to → PE X e (tMeth (clsAt X.K cn) m (spX X.K W) dvs E to tNil)) : XE X E e (eMethX cn m gw fo aNil) :=
  let ⟨_, q, u⟩ := ho.ex; ⟨_, hpe q, snd_methX u snd_nil hw⟩
theorem xmethC {E' : XK} (hw : SndW0 X.K W dvs gw) (ho : XE X E o fo) (ha : XA X E es fr) (hpe : ∀ {to : TE} {t : TA}, PE X o to → PA X es t → PE X e (tMeth (clsAt X.K cn) m (spP X.K W) dvs E' to t)) : XE X E e (eMethC cn m gw fo fr) :=
  let ⟨_, q, u⟩ := ho.ex; let ⟨_, p, s⟩ := ha.ex; ⟨_, hpe q p, snd_methC u s hw⟩
theorem xmethC0 {E' : XK} (hw : SndW0 X.K W dvs gw) (ho : XE X E o fo) (hpe : ∀ {to : TE}, PE X o to → PE X e (tMeth (clsAt X.K cn) m (spP X.K W) dvs E' to tNil)) : XE X E e (eMethC cn m gw fo aNil) :=
  let ⟨_, q, u⟩ := ho.ex; ⟨_, hpe q, snd_methC u snd_nil hw⟩
/-- a property -/
def isObj (C : Str) (b : B) (S : Sto) : Prop := match b with
  | .fz (.ins C' _) => C' = C
  | .mt k => (match S[k]? with
    | some (.ins C' _) => C' = C
    | _ => False)
  | _ => False
theorem isObj_ok {K : PySem.W.Frag} {β : Base} {S : Sto} {w : Wd} {b : B} {v : V} (hR : Rel K β S w) (hb : DenB K S.length w b v) (h : isObj cn b S) : ∃ a dx fs, v = .ref a ∧ w.H a = some (.ins (clsAt K cn) dx fs) := by
  cases b with
  | fz d =>
    have hb : Den K w.F d v := hb
    cases hb with
    | ins h1 h2 => exact ⟨_, _, _, rfl, (show _ = cn from h) ▸ hR.fr _ _ h1⟩
    | _ => exact (show False from h).elim
  | mt k =>
    obtain ⟨_, rfl⟩ := hb
    obtain ⟨C', fs, e1, rfl⟩ := cell_ins (f := fun C' fs => C' = cn) h
    obtain ⟨dx, vs, h4, h5⟩ := hR.cellI e1
    exact ⟨_, dx, vs, rfl, h4⟩
def eProp (C : Str) (gw : GW) (fo : FE) : FE := fun Γ S Rx R => fo Γ S Rx fun b S1 => isObj C b S1 ∧ gw [b] S1 noX R
theorem xprop {E' : XK} (hw : SndW0 X.K W dvs gw) (ho : XE X E o fo) (hpe : ∀ {to : TE}, PE X o to → PE X e (tProp (clsAt X.K cn) (spP X.K W) dvs E' to)) : XE X E e (eProp cn gw fo) :=
  let ⟨_, q, u⟩ := ho.ex
  ⟨_, hpe q, fun β S w σ Γ Rx R Q hR hG hf hk hx => u β S w σ Γ Rx _ _ hR hG hf (fun b S1 w1 v h1 R1 l1 d1 => by
    obtain ⟨h0, h1⟩ := h1
    obtain ⟨a, dx, fs, rfl, h2⟩ := isObj_ok R1 d1 h0
    exact ⟨a, dx, fs, rfl, h2, hw β S1 w1 [b] [.ref a] R Q E' R1 (.cons d1 .nil) h1 (hk.later l1)⟩) hx⟩
/-- o.f -/
def gFld (C : Str) (m : Str) : G1 := fun b S R => match b with
  | .fz (.ins C' fs) => C' = C ∧ optK (fs.lookup m) fun d => R (.fz d) S
  | .mt k => (match S[k]? with
    | some (.ins C' fs) => C' = C ∧ optK (fs.lookup m) fun b => R b S
    | _ => False)
  | _ => False
theorem gFld_ok {K : PySem.W.Frag} {β : Base} {S : Sto} {w : Wd} {b : B} {v : V} {R : RB} (hR : Rel K β S w) (hb : DenB K S.length w b v) (h : gFld cn m b S R) : ∃ a dx fs u c, v = .ref a ∧ w.H a = some (.ins (clsAt K cn) dx fs) ∧ fs.lookup m = some u ∧ DenB K S.length w c u ∧ R c S := by
  cases b with
  | fz d =>
    have hb : Den K w.F d v := hb
    cases hb with
    | ins h1 h2 =>
      obtain ⟨rfl, h3⟩ := h
      obtain ⟨d, e, h4⟩ := optK_ok h3
      obtain ⟨u, h5, h6⟩ := h2.look.1 d e
      exact ⟨_, _, _, u, .fz d, rfl, hR.fr _ _ h1, h5, h6, h4⟩
    | _ => exact (show False from h).elim
  | mt k =>
    obtain ⟨_, rfl⟩ := hb
    obtain ⟨C', fs, e1, rfl, h3⟩ := cell_ins (f := fun C' fs => C' = cn ∧ optK (fs.lookup m) fun b => R b S) h
    obtain ⟨dx, vs, h4, h5⟩ := hR.cellI e1
    obtain ⟨d, e, h7⟩ := optK_ok h3
    obtain ⟨u, h8, h9⟩ := h5.look.1 d e
    exact ⟨_, dx, vs, u, d, rfl, h4, h8, h9, h7⟩
theorem xfld (hc : clsAt X.K cn = C) (hC : Cls X.K C) (hN : NoAttr X.K C m) (he : XE X E e fe) (hb : attributeBase e m X.env (eval e X.env) = eval e X.env) : XE X E (.Attribute e m pos) (eUn (gFld cn m) fe) :=
  let ⟨_, p, s⟩ := he.ex
  ⟨_, pe_fld p hb, fun β S w σ Γ Rx R Q hR hG hf hk hx => s β S w σ Γ Rx _ _ hR hG hf (fun b S1 w1 v h1 R1 l1 d1 => by
    obtain ⟨a, dx, fs, u, c, rfl, h2, h3, h4, h5⟩ := gFld_ok R1 d1 h1
    exact ⟨a, C, dx, fs, u, rfl, hc ▸ h2, hC, hN, h3, hk c S1 w1 u h5 R1 l1 h4⟩) hx⟩
/-- o.f = e, o a cell -/
def putB (f : Str) (v : B) : List (Str × B) → List (Str × B)
  | [] => [(f, v)]
  | (g, x) :: r => if g = f then (g, v) :: r else (g, x) :: putB f v r
theorem DenBF.put {K : PySem.W.Frag} {n : Nat} {w : Wd} {m : Str} {b : B} {v : V} (h : DenB K n w b v) : ∀ {fs : List (Str × B)} {vs : List (Str × V)}, DenBF K n w fs vs → DenBF K n w (putB m b fs) (putF m v vs)
  | _, _, .nil => .cons h .nil
  | _, _, @DenBF.cons _ _ _ n d v fs vs h1 t => by
    unfold putB putF
    by_cases e : n = m
    · rw [if_pos e, if_pos e]; exact .cons h t
    · rw [if_neg e, if_neg e]; exact .cons h1 (DenBF.put h t)
theorem DenBF.length {K : PySem.W.Frag} {n : Nat} {w : Wd} : ∀ {ds : List (Str × B)} {vs : List (Str × V)}, DenBF K n w ds vs → ds.length = vs.length
  | _, _, .nil => rfl
  | _, _, .cons _ t => congrArg (· + 1) (DenBF.length t)
def sFldP (C : Str) (m : Str) (fo fv : FE) : FS := fun Γ S P => fv Γ S P.xe fun c S1 => fo Γ S1 P.xe fun b S2 => match b with
  | .mt k => (match S2[k]? with
    | some (.ins C' fs) => (C' = C ∧ fs.length < 1000) ∧ P.nx Γ (S2.set k (.ins C' (putB m c fs)))
    | _ => False)
  | _ => False
theorem xs_fld {value : Expr} {fv : FE} {pos' : Pos} (hc : clsAt X.K cn = C) (hC : Cls X.K C) (hN : NoAttr X.K C m) (ho : XE X E o fo) (hv : XE X E value fv) (hs : swapsWith value (some (.Attribute o m pos')) pos.line X.env = pure false) : XS X E (.Assign [.Attribute o m pos'] value pos) (sFldP cn m fo fv) :=
  let ⟨_, p, s⟩ := ho.ex; let ⟨_, q, t⟩ := hv.ex
  ⟨_, ps_fld p q hs, fun β S w σ Γ P De hR hG hf hk => t β S w σ Γ _ _ _ hR hG hf (fun c S1 w1 u h1 R1 l1 d1 => s β S1 w1 σ Γ _ _ _ R1 (hG.later l1) h1 (fun b S2 w2 v h2 R2 l2 d2 => by
    cases b with
    | fz _ => exact (show False from h2).elim
    | mt k =>
      obtain ⟨_, rfl⟩ := d2
      obtain ⟨C', fs, e1, ⟨rfl, h3⟩, h4⟩ := cell_ins (f := fun C' fs => (C' = cn ∧ fs.length < 1000) ∧ P.nx Γ (S2.set k (.ins C' (putB m c fs)))) h2
      obtain ⟨dx, vs, h5, h6⟩ := R2.cellI e1
      have lt : Later S2.length w2 S2.length ⟨w2.m, w2.F, upd w2.H (w2.m k) (.ins C dx (putF m u vs))⟩ := ⟨Nat.le_refl _, fun _ _ => rfl, .refl _⟩
      obtain ⟨R3, l3⟩ := R2.setC e1 (by intro z; cases z) (o := .ins C dx (putF m u vs)) (c' := .ins C' (putB m c fs)) ⟨dx, _, by rw [hc]; exact upd_same, (h6.later lt).put ((d1.later l2).later lt)⟩
      exact ⟨_, C, dx, vs, rfl, hc ▸ h5, hC, hN, by rw [← h6.length]; exact h3, hk.nx Γ _ _ σ h4 R3 (hG.later ((l1.trans l2).trans l3))⟩) hk.x) hk.x⟩
/-! ### C(..): an object for good -/
def asFs : List (Str × B) → (List (Str × D) → Prop) → Prop
  | [], k => k []
  | (n, .fz d) :: bs, k => asFs bs fun ds => k ((n, d) :: ds)
  | _ :: _, _ => False
theorem asFs_ok {K : PySem.W.Frag} {n : Nat} {w : Wd} : ∀ {bs : List (Str × B)} {vs : List (Str × V)} {k : List (Str × D) → Prop}, asFs bs k → DenBF K n w bs vs → ∃ ds, k ds ∧ DenF K w.F ds vs
  | [], _, _, h, .nil => ⟨[], h, .nil⟩
  | (n, .fz d) :: bs, _, _, h, .cons h1 t => by
    obtain ⟨ds, h2, h3⟩ := asFs_ok (bs := bs) h t
    exact ⟨(n, d) :: ds, h2, .cons h1 h3⟩
  | (_, .mt _) :: _, _, _, h, _ => (show False from h).elim
def gMake (C : Str) (W : FW) (dds : List D) : GW := fun bs S Rx R => asDs bs fun ds => W (.mt 0 :: (ds ++ dds).map B.fz) [.ins C []] (fun C fs _ => Rx C fs S) fun b S1 => match b with
  | .fz .non => (match (S1[0]? : Option Cell) with
    | some (.ins C' fs) => asFs fs fun fds => R (.fz (.ins C' fds)) S
    | _ => False)
  | _ => False
theorem make_start {K : PySem.W.Frag} {β : Base} {S : Sto} {w : Wd} (hR : Rel K β S w) {y dx : Addr} (hy : w.H y = none) (hx : w.H dx = none) (ne : dx ≠ y) :
    Rel K (reb [] w) [.ins cn []] ⟨fun _ => y, w.F, upd (upd w.H dx (.own y)) y (.ins (clsAt K cn) dx [])⟩ := by
  have sm : Same w.H (upd (upd w.H dx (.own y)) y (.ins (clsAt K cn) dx [])) := fun a o h => (upd_ne (ne_of_none h hy)).trans ((upd_ne (ne_of_none h hx)).trans h)
  refine ⟨fun a o h => sm _ _ (hR.fr _ _ h), fun a o h => sm _ _ (reb_some h).1, .refl _, fun a o h => .inl h, fun k h => absurd h (Nat.not_lt_zero _), Nat.zero_le _, fun k c h hd => ?_, fun i j ci cj hi hj _ _ _ => ?_⟩
  · cases k with
    | zero =>
      cases h
      refine ⟨hR.fr.free hy, ?_, dx, [], upd_same, .nil⟩
      show (reb [] w).H0 y = none
      cases q : (reb [] w).H0 y with
      | none => rfl
      | some o => rw [(reb_some q).1] at hy; cases hy
    | succ k => cases h
  · cases i with
    | zero => cases j with
      | zero => rfl
      | succ j => cases hj
    | succ i => cases hi
theorem Rel.unmake {K : PySem.W.Frag} {β : Base} {S S' : Sto} {w w' : Wd} (R : Rel K β S w) (R' : Rel K (PL.reb [] w) S' w') : Rel K β S ⟨w.m, w'.F, w'.H⟩ ∧ Later S.length w S.length ⟨w.m, w'.F, w'.H⟩ ∧ ∀ j c, S'[j]? = some c → c ≠ .dead → w.H (w'.m j) = none := R.undrop R'
theorem snd_make {K : PySem.W.Frag} {t : TA} {dds : List D} (hd : Paired (fun d v => ∀ F, Den K F d v) dds dvs) (s : SndA K E t fr) : SndE K E (tMake (clsAt K cn) (spX K W) dvs E t) (eCallX (gMake cn W dds) fr) := fun β S w σ Γ Rx R Q hR hG hf hk hx =>
  s β S w σ Γ Rx _ _ hR hG hf (fun bs S1 w1 vs h1 R1 l1 d1 y dx hy hdx ne => by
    obtain ⟨ds, h, dl⟩ := asDs_den h1 d1
    have sm : Same w1.F w1.F := .refl _
    refine ⟨_, _, ⟨fun _ => y, w1.F, upd (upd w1.H dx (.own y)) y (.ins (clsAt K cn) dx [])⟩, _, _, _, rfl, make_start R1 hy hdx ne, .cons (b := .mt 0) ⟨Nat.zero_lt_one, rfl⟩ (DenL.bz (w := ⟨fun _ => y, w1.F, upd (upd w1.H dx (.own y)) y (.ins (clsAt K cn) dx [])⟩) (DenL.app dl (DenL.den hd))), h, fun b S' w' v q R' l' d => ?_, fun C fs S' w' d vs q R' l' z1 z2 => ?_⟩
    · cases b with
      | mt _ => exact (show False from q).elim
      | fz x =>
        cases x with
        | non =>
          cases (show Den K w'.F .non v from d)
          refine ⟨rfl, ?_⟩
          obtain ⟨C', fs, e1, h3⟩ := cell_ins (f := fun C' fs => asFs fs fun fds => R (.fz (.ins C' fds)) S1) q
          obtain ⟨R2, l2, fr⟩ := R1.undrop R'
          obtain ⟨dx', us, h4, h5⟩ := R'.cellI e1
          obtain ⟨fds, h6, h7⟩ := asFs_ok h3 h5
          have em : w'.m 0 = y := l'.m 0 Nat.zero_lt_one
          rw [em] at h4
          have L := R'.live 0 _ e1 (by intro z; cases z)
          rw [em] at L
          obtain ⟨R3, l3⟩ := R2.adoptF (D := y) (o := .ins (clsAt K C') dx' us) h4 L.nf (R1.keep.free hy) fun k c h1 h2 e => by
            obtain ⟨o, ho⟩ := (R1.live k c h1 h2).ok.some h2
            have e : w1.m k = y := e
            rw [e, hy] at ho
            cases ho
          exact (hk.later l1) _ S1 ⟨w1.m, upd w'.F y (.ins (clsAt K C') dx' us), w'.H⟩ (.ref y) h6 R3 (l2.trans l3) (Den.ins upd_same (DenF.mono l3.F h7))
        | _ => exact (show False from q).elim
    · obtain ⟨R2, l2, _⟩ := R1.undrop R'
      exact (hx.later l1) C fs S1 ⟨w1.m, w'.F, w'.H⟩ d vs q R2 l2 z1 z2) hx
theorem xmake {dds : List D} (hd : Paired (fun d v => ∀ F, Den X.K F d v) dds dvs) (ha : XA X E es fr) (hpe : ∀ {t : TA}, PA X es t → PE X e (tMake (clsAt X.K cn) (spX X.K W) dvs E t)) : XE X E e (eCallX (gMake cn W dds) fr) :=
  let ⟨_, p, s⟩ := ha.ex; ⟨_, hpe p, snd_make hd s⟩
theorem xmake0 {dds : List D} (hd : Paired (fun d v => ∀ F, Den X.K F d v) dds dvs) (hpe : PE X e (tMake (clsAt X.K cn) (spX X.K W) dvs E tNil)) : XE X E e (eCallX (gMake cn W dds) aNil) := ⟨_, hpe, snd_make hd snd_nil⟩
theorem make_coreC {K : PySem.W.Frag} {E' : XK} {dds : List D} (hd : Paired (fun d v => ∀ F, Den K F d v) dds dvs) {β : Base} {S1 : Sto} {w1 : Wd} {bs : List B} {vs : List V} {R : RB} {Q : VK} (R1 : Rel K β S1 w1) (d1 : DenBL K S1.length w1 bs vs) (h1 : gMake cn W dds bs S1 noX R) (hk : KOk K β S1.length w1 R Q) {y dx : Addr} (hy : w1.H y = none) (hdx : w1.H dx = none) (ne : dx ≠ y) :
    spP K W (.ref y :: (vs ++ dvs)) (upd (upd w1.H dx (.own y)) y (.ins (clsAt K cn) dx [])) (fun v H2 => v = .non ∧ Q (.ref y) H2) E' := by
  obtain ⟨ds, h, dl⟩ := asDs_den h1 d1
  refine ⟨_, _, ⟨fun _ => y, w1.F, upd (upd w1.H dx (.own y)) y (.ins (clsAt K cn) dx [])⟩, _, _, rfl, make_start R1 hy hdx ne, .cons (b := .mt 0) ⟨Nat.zero_lt_one, rfl⟩ (DenL.bz (w := ⟨fun _ => y, w1.F, upd (upd w1.H dx (.own y)) y (.ins (clsAt K cn) dx [])⟩) (DenL.app dl (DenL.den hd))), h, fun b S' w' v q R' l' d => ?_⟩
  cases b with
  | mt _ => exact (show False from q).elim
  | fz x =>
    cases x with
    | non =>
      cases (show Den K w'.F .non v from d)
      refine ⟨rfl, ?_⟩
      obtain ⟨C', fs, e1, h3⟩ := cell_ins (f := fun C' fs => asFs fs fun fds => R (.fz (.ins C' fds)) S1) q
      obtain ⟨R2, l2, fr⟩ := R1.undrop R'
      obtain ⟨dx', us, h4, h5⟩ := R'.cellI e1
      obtain ⟨fds, h6, h7⟩ := asFs_ok h3 h5
      have em : w'.m 0 = y := l'.m 0 Nat.zero_lt_one
      rw [em] at h4
      have L := R'.live 0 _ e1 (by intro z; cases z)
      rw [em] at L
      obtain ⟨R3, l3⟩ := R2.adoptF (D := y) (o := .ins (clsAt K C') dx' us) h4 L.nf (R1.keep.free hy) fun k c h1 h2 e => by
        obtain ⟨o, ho⟩ := (R1.live k c h1 h2).ok.some h2
        have e : w1.m k = y := e
        rw [e, hy] at ho
        cases ho
      exact hk _ S1 ⟨w1.m, upd w'.F y (.ins (clsAt K C') dx' us), w'.H⟩ (.ref y) h6 R3 (l2.trans l3) (Den.ins upd_same (DenF.mono l3.F h7))
    | _ => exact (show False from q).elim
theorem snd_makeC {K : PySem.W.Frag} {t : TA} {E' : XK} {dds : List D} (hd : Paired (fun d v => ∀ F, Den K F d v) dds dvs) (s : SndA K E t fr) : SndE K E (tMake (clsAt K cn) (spP K W) dvs E' t) (eCallC (gMake cn W dds) fr) := fun β S w σ Γ Rx R Q hR hG hf hk hx =>
  s β S w σ Γ Rx _ _ hR hG hf (fun bs S1 w1 vs h1 R1 l1 d1 y dx hy hdx ne => make_coreC hd R1 d1 h1 (hk.later l1) hy hdx ne) hx
theorem xmakeC {E' : XK} {dds : List D} (hd : Paired (fun d v => ∀ F, Den X.K F d v) dds dvs) (ha : XA X E es fr) (hpe : ∀ {t : TA}, PA X es t → PE X e (tMake (clsAt X.K cn) (spP X.K W) dvs E' t)) : XE X E e (eCallC (gMake cn W dds) fr) :=
  let ⟨_, p, s⟩ := ha.ex; ⟨_, hpe p, snd_makeC hd s⟩
theorem xmakeC0 {E' : XK} {dds : List D} (hd : Paired (fun d v => ∀ F, Den X.K F d v) dds dvs) (hpe : PE X e (tMake (clsAt X.K cn) (spP X.K W) dvs E' tNil)) : XE X E e (eCallC (gMake cn W dds) aNil) := ⟨_, hpe, snd_makeC hd snd_nil⟩
end
end PL
namespace PL
open PySem L2
section
variable {K : PySem.W.Frag}
/-! ### isinstance -/
/-- by a table: the answer for a value and a class -/
def IsaOk (K : PySem.W.Frag) (ι : D → D → Option Bool) : Prop := ∀ (F H : Hp) (x : D) (v : V), Same F H → Den K F x v → ∀ c0 b0, ι x c0 = some b0 → ∃ t, TyX K H v t ∧ ∀ (c : D) (u : V) (b : Bool), Den K F c u → ι x c = some b → ∃ cu, ClsV u cu ∧ PySem.W.kitOne K t cu = some b
def gIsi (ι : D → D → Option Bool) : GL := fun bs S R => match bs with
  | [.fz x, .fz c] => optK (ι x c) fun b => R (.fz (.bl b)) S
  | _ => False
theorem snd_isi {ι : D → D → Option Bool} (hι : IsaOk K ι) : SndL K (rIsi K) (gIsi ι) := fun β S w bs vs R Q hR hb hg hk => by
  match bs, hg, hb with
  | [.fz x, .fz c], hg, hb =>
    obtain ⟨v, u, rfl, h1, h2⟩ := hb.two
    obtain ⟨b, e, h3⟩ := optK_ok hg
    obtain ⟨t, q2, q⟩ := hι w.F w.H x v hR.fr h1 c b e
    obtain ⟨cu, q1, q3⟩ := q c u b h2 e
    exact ⟨v, u, t, cu, b, rfl, q1, q2, q3, hk.fz hR h3 (.bl _)⟩
/-- .. several classes, in a tuple that is written there -/
def anyIs (ι : D → D → Option Bool) (x : D) : List D → Option Bool
  | [] => some false
  | c :: cs => match ι x c with
    | some true => some true
    | some false => anyIs ι x cs
    | none => none
theorem kitAny_nil' {t : Value} : PySem.W.kitAny K t [] = some false := by first | rfl | simp [PySem.W.kitAny]
/-- names of the built-in types -/
def tyName : D → Option String
  | .non => some "NoneType" | .bl _ => some "bool" | .int _ => some "int" | .str _ => some "str" | .lst _ => some "list" | .tup _ => some "tuple" | .dic _ => some "dict"
  | _ => none
theorem tyX_of {F H : Hp} {x : D} {v : V} {n : String} (s : Same F H) (h : Den K F x v) (e : tyName x = some n) : TyX K H v (.type n) := by
  cases h with
  | non => cases e; exact .base .non
  | bl b => cases e; exact .base (.bl b)
  | int i => cases e; exact .base (.int i)
  | str z => cases e; exact .base (.str z)
  | lst h1 _ => cases e; exact .base (.lst (s _ _ h1))
  | tup h1 _ =>
    cases e
    rcases h1 with (h1 | ⟨o, h1⟩) | ⟨o, its, k, h1, h2, h3⟩
    · exact .base (.tup (s _ _ h1))
    · exact .fTuple (s _ _ h1)
    · exact .kTuple h1 h2
  | dic h1 _ => cases e; exact .fDict (s _ _ h1)
  | _ => cases e
/-- .. of built-in types alone -/
def isa0 (x c : D) : Option Bool := match c with
  | .ty n => (match tyName x with
    | some t => kitB t n
    | none => none)
  | _ => none
theorem isa0_ok : IsaOk K isa0 := fun F H x v s hx c0 b0 e0 => by
  cases ht : tyName x with
  | none => cases c0 <;> simp only [isa0, ht] at e0 <;> cases e0
  | some t =>
    refine ⟨_, tyX_of s hx ht, fun c u b hc e => ?_⟩
    cases hc with
    | ty n =>
      simp only [isa0, ht] at e
      exact ⟨_, .ty n, kit_ty e⟩
    | _ => cases e
/-! ### in, not in -/
def flatD : D → Bool
  | .non => true | .bl _ => true | .int _ => true | .str _ => true | _ => false
def eqFl : D → D → Bool
  | .non, .non => true
  | .bl a, .bl b => a == b
  | .bl a, .int b => (if a then 1 else 0) == b
  | .int a, .bl b => a == (if b then 1 else 0)
  | .int a, .int b => a == b
  | .str a, .str b => a == b
  | _, _ => false
def inD (x : D) (xs : List D) : Bool := xs.any fun y => eqFl y x
theorem flat_den {F : Hp} {x : D} {v : V} (h : Den K F x v) (f : flatD x = true) : flatV v = true := by
  cases h <;> first | rfl | cases f
theorem eqFl_den {F : Hp} {x y : D} {v u : V} (h : Den K F x v) (h2 : Den K F y u) (f : flatD x = true) (f2 : flatD y = true) : eqV v u = eqFl x y := by
  cases h <;> cases h2 <;> first | rfl | cases f | cases f2
theorem flats_den {F : Hp} : ∀ {xs : List D} {vs : List V}, DenL K F xs vs → xs.all flatD = true → vs.all flatV = true
  | _, _, .nil, _ => rfl
  | _, _, .cons h t, f => by
    rw [List.all_cons, Bool.and_eq_true] at f ⊢
    exact ⟨flat_den h f.1, flats_den t f.2⟩
theorem inD_den {F : Hp} {x : D} {v : V} (h : Den K F x v) (f : flatD x = true) : ∀ {xs : List D} {vs : List V}, DenL K F xs vs → xs.all flatD = true → inV v vs = inD x xs
  | _, _, .nil, _ => rfl
  | _, _, @DenL.cons _ _ y u ds us h1 t, g => by
    rw [List.all_cons, Bool.and_eq_true] at g
    have ih := inD_den h f t g.2
    show (eqV u v || us.any fun y => eqV y v) = (eqFl y x || ds.any fun y => eqFl y x)
    rw [eqFl_den h1 h g.1 f]
    exact congrArg _ ih
def gIn (neg : Bool) : G2 := fun b c S R => match b with
  | .fz x => (match c with
    | .fz (.lst xs) => (flatD x = true ∧ xs.all flatD = true) ∧ R (.fz (.bl (neg != inD x xs))) S
    | .fz (.tup xs) => (flatD x = true ∧ xs.all flatD = true) ∧ R (.fz (.bl (neg != inD x xs))) S
    | .mt k => (match S[k]? with
      | some (.lst bs) => asDs bs fun xs => (flatD x = true ∧ xs.all flatD = true) ∧ R (.fz (.bl (neg != inD x xs))) S
      | _ => False)
    | _ => False)
  | _ => False
theorem snd_in {neg : Bool} : Snd2 K (rIn K neg) (gIn neg) := fun β S w b c v u R Q hR hb hc hg hk => by
  have fin : ∀ {x : D} {xs : List D} {a : Addr} {vs : List V}, Den K w.F x v → u = .ref a → (SqL K w.H a vs ∨ SqT K w.H a vs) → DenL K w.F xs vs → (flatD x = true ∧ xs.all flatD = true) ∧ R (.fz (.bl (neg != inD x xs))) S → rIn K neg v u w.H Q := fun {x xs a vs} hx e hs hl h =>
    ⟨a, vs, e, hs, flat_den hx h.1.1, flats_den hl h.1.2, by
      rw [inD_den hx h.1.1 hl h.1.2]
      have q := h.2
      cases neg with
      | false => exact hk.fz hR (by rw [Bool.false_bne] at q; exact q) (.bl _)
      | true => exact hk.fz hR (by rw [Bool.true_bne] at q; exact q) (.bl _)⟩
  cases b with
  | mt k => exact (show False from hg).elim
  | fz x =>
    cases c with
    | mt k =>
      obtain ⟨_, e⟩ := hc
      obtain ⟨bs, e1, h1⟩ := cell_lst (f := fun bs => asDs bs fun xs => (flatD x = true ∧ xs.all flatD = true) ∧ R (.fz (.bl (neg != inD x xs))) S) hg
      obtain ⟨vs, h3, h4⟩ := hR.cellL e1
      obtain ⟨ds, rfl, h2⟩ := asDs_eq h1
      exact fin hb e (.inl (SqL.of h3)) h4.fz h2
    | fz y =>
      have hc : Den K w.F y u := hc
      cases hc with
      | lst h3 h4 => exact fin hb rfl (.inl (SqL.of (hR.fr _ _ h3))) h4 hg
      | tup h3 h4 => exact fin hb rfl (.inr (sqT_same hR.fr h3)) h4 hg
      | _ => exact (show False from hg).elim
/-! ### list, tuple, str, int .. -/
/-- the items of a list or tuple -/
def seqD (b : B) (S : Sto) (k : List D → Prop) : Prop := match b with
  | .fz (.lst ds) => k ds
  | .fz (.tup ds) => k ds
  | .mt j => (match S[j]? with
    | some (.lst bs) => asDs bs k
    | _ => False)
  | _ => False
theorem seqD_ok {β : Base} {S : Sto} {w : Wd} {b : B} {v : V} {k : List D → Prop} (hR : Rel K β S w) (hb : DenB K S.length w b v) (h : seqD b S k) : ∃ a ds vs, v = .ref a ∧ (SqL K w.H a vs ∨ SqT K w.H a vs) ∧ DenL K w.F ds vs ∧ k ds := by
  cases b with
  | mt j =>
    obtain ⟨_, rfl⟩ := hb
    obtain ⟨bs, e1, h1⟩ := cell_lst (f := fun bs => asDs bs k) h
    obtain ⟨vs, h3, h4⟩ := hR.cellL e1
    obtain ⟨ds, rfl, h2⟩ := asDs_eq h1
    exact ⟨_, ds, vs, rfl, .inl (SqL.of h3), h4.fz, h2⟩
  | fz y =>
    have hb : Den K w.F y v := hb
    cases hb with
    | lst h3 h4 => exact ⟨_, _, _, rfl, .inl (SqL.of (hR.fr _ _ h3)), h4, h⟩
    | tup h3 h4 => exact ⟨_, _, _, rfl, .inr (sqT_same hR.fr h3), h4, h⟩
    | _ => exact (show False from h).elim
def gList : GL := fun bs S R => match bs with
  | [b] => seqD b S fun ds => R (.fz (.lst ds)) S
  | _ => False
/-- .. that will change -/
def gListM : GL := fun bs S R => match bs with
  | [b] => seqD b S fun ds => R (.mt S.length) (S ++ [.lst (ds.map .fz)])
  | _ => False
abbrev rLstOf (K : PySem.W.Frag) : List V → Hp → VK → Prop := fun xs H Q => ∃ p ys, xs = [.ref p] ∧ (SqL K H p ys ∨ SqT K H p ys) ∧ ∀ l, H l = none → Q (.ref l) (upd H l (.lst ys))
theorem snd_list : SndL K (rLstOf K) gList := fun β S w bs vs R Q hR hb hg hk => by
  match bs, hg, hb with
  | [b], hg, hb =>
    obtain ⟨v, rfl, h1⟩ := hb.one
    obtain ⟨a, ds, vs, rfl, h2, h3, h4⟩ := seqD_ok hR h1 hg
    exact ⟨a, vs, rfl, h2, fun l hl => hk.newL hR h4 h3 hl⟩
theorem snd_listM : SndL K (rLstOf K) gListM := fun β S w bs vs R Q hR hb hg hk => by
  match bs, hg, hb with
  | [b], hg, hb =>
    obtain ⟨v, rfl, h1⟩ := hb.one
    obtain ⟨a, ds, vs, rfl, h2, h3, h4⟩ := seqD_ok hR h1 hg
    exact ⟨a, vs, rfl, h2, fun l hl => hk.newM hR h4 (DenL.bz h3) hl⟩
def gTuple : GL := fun bs S R => match bs with
  | [.fz (.lst ds)] => R (.fz (.tup ds)) S
  | [.fz (.tup ds)] => R (.fz (.tup ds)) S
  | [.mt j] => (match S[j]? with
    | some (.lst bs) => asDs bs fun ds => R (.fz (.tup ds)) S
    | _ => False)
  | _ => False
theorem snd_tuple : SndL K (fun xs H Q => ∃ p ys, xs = [.ref p] ∧ ((SqL K H p ys ∧ ∀ l, H l = none → Q (.ref l) (upd H l (.tup ys))) ∨ (SqT K H p ys ∧ Q (.ref p) H))) gTuple := fun β S w bs vs R Q hR hb hg hk => by
  match bs, hg, hb with
  | [.mt j], hg, hb =>
    obtain ⟨v, rfl, h1⟩ := hb.one
    obtain ⟨_, rfl⟩ := h1
    obtain ⟨bs, e1, h1⟩ := cell_lst (f := fun bs => asDs bs fun ds => R (.fz (.tup ds)) S) hg
    obtain ⟨vs, h3, h4⟩ := hR.cellL e1
    obtain ⟨ds, rfl, h2⟩ := asDs_eq h1
    exact ⟨_, vs, rfl, .inl ⟨SqL.of h3, fun l hl => hk.newT hR h2 h4.fz hl⟩⟩
  | [.fz (.lst ds)], hg, hb =>
    obtain ⟨v, rfl, h1⟩ := hb.one
    cases (show Den K w.F (.lst ds) v from h1) with
    | lst h3 h4 => exact ⟨_, _, rfl, .inl ⟨SqL.of (hR.fr _ _ h3), fun l hl => hk.newT hR hg h4 hl⟩⟩
  | [.fz (.tup ds)], hg, hb =>
    obtain ⟨v, rfl, h1⟩ := hb.one
    cases (show Den K w.F (.tup ds) v from h1) with
    | tup h3 h4 => exact ⟨_, _, rfl, .inr ⟨sqT_same hR.fr h3, hk.fz hR hg (.tup h3 h4)⟩⟩
def gStr : GL := fun bs S R => match bs with
  | [.fz (.int i)] => i.natAbs.log2 < 1920 ∧ R (.fz (.str (toString i))) S
  | _ => False
theorem snd_str : SndL K (fun xs H Q => ∃ i, xs = [.int i] ∧ i.natAbs.log2 < 1920 ∧ Q (.str (toString i)) H) gStr := fun β S w bs vs R Q hR hb hg hk => by
  match bs, hg, hb with
  | [.fz (.int i)], hg, hb =>
    obtain ⟨v, rfl, h1⟩ := hb.one
    have e := denInt h1
    subst e
    exact ⟨i, rfl, hg.1, hk.fz hR hg.2 (.str _)⟩
def gInt : GL := fun bs S R => match bs with
  | [.fz (.int i)] => R (.fz (.int i)) S
  | [.fz (.bl b)] => R (.fz (.int (if b then 1 else 0))) S
  | [.fz (.str z)] => z.length ≤ 640 ∧ optK (PySem.intText? z) fun n => R (.fz (.int n)) S
  | _ => False
def rIntA : List V → Hp → VK → Prop := fun xs H Q => ((∃ i, xs = [.int i] ∧ Q (.int i) H) ∨ ∃ k, xs = [.bl k] ∧ Q (.int (if k then 1 else 0)) H) ∨ ∃ a n, xs = [.str a] ∧ PySem.intText? a = some n ∧ a.length ≤ 640 ∧ Q (.int n) H
theorem call_intA {X : Cx} : CallR X (.type "int") rIntA := call_int1.or call_int_str
theorem snd_int : SndL K rIntA gInt := fun β S w bs vs R Q hR hb hg hk => by
  match bs, hg, hb with
  | [.fz (.int i)], hg, hb =>
    obtain ⟨v, rfl, h1⟩ := hb.one
    have e := denInt h1
    subst e
    exact .inl (.inl ⟨i, rfl, hk.fz hR hg (.int _)⟩)
  | [.fz (.bl b)], hg, hb =>
    obtain ⟨v, rfl, h1⟩ := hb.one
    cases (show Den K w.F (.bl b) v from h1)
    exact .inl (.inr ⟨b, rfl, hk.fz hR hg (.int _)⟩)
  | [.fz (.str z)], hg, hb =>
    obtain ⟨v, rfl, h1⟩ := hb.one
    cases (show Den K w.F (.str z) v from h1)
    obtain ⟨n, e, h2⟩ := optK_ok hg.2
    exact .inr ⟨z, n, rfl, e, hg.1, hk.fz hR h2 (.int _)⟩
/-! lists of ints, bools, texts -/
def asInts : List D → (List Int → Prop) → Prop
  | [], k => k []
  | .int i :: ds, k => asInts ds fun is => k (i :: is)
  | _ :: _, _ => False
theorem asInts_ok {F : Hp} : ∀ {ds : List D} {vs : List V} {k : List Int → Prop}, asInts ds k → DenL K F ds vs → ∃ is, vs = is.map V.int ∧ ds = is.map D.int ∧ k is
  | [], _, _, h, .nil => ⟨[], rfl, rfl, h⟩
  | .int i :: ds, _, _, h, .cons h1 t => by
    cases h1
    obtain ⟨is, e1, e2, h2⟩ := asInts_ok (ds := ds) h t
    exact ⟨i :: is, by rw [e1]; rfl, by rw [e2]; rfl, h2⟩
def asBls : List D → (List Bool → Prop) → Prop
  | [], k => k []
  | .bl i :: ds, k => asBls ds fun is => k (i :: is)
  | _ :: _, _ => False
theorem asBls_ok {F : Hp} : ∀ {ds : List D} {vs : List V} {k : List Bool → Prop}, asBls ds k → DenL K F ds vs → ∃ is, vs = is.map V.bl ∧ ds = is.map D.bl ∧ k is
  | [], _, _, h, .nil => ⟨[], rfl, rfl, h⟩
  | .bl i :: ds, _, _, h, .cons h1 t => by
    cases h1
    obtain ⟨is, e1, e2, h2⟩ := asBls_ok (ds := ds) h t
    exact ⟨i :: is, by rw [e1]; rfl, by rw [e2]; rfl, h2⟩
def asStrs : List D → (List Str → Prop) → Prop
  | [], k => k []
  | .str i :: ds, k => asStrs ds fun is => k (i :: is)
  | _ :: _, _ => False
theorem asStrs_ok {F : Hp} : ∀ {ds : List D} {vs : List V} {k : List Str → Prop}, asStrs ds k → DenL K F ds vs → ∃ is, vs = is.map V.str ∧ ds = is.map D.str ∧ k is
  | [], _, _, h, .nil => ⟨[], rfl, rfl, h⟩
  | .str i :: ds, _, _, h, .cons h1 t => by
    cases h1
    obtain ⟨is, e1, e2, h2⟩ := asStrs_ok (ds := ds) h t
    exact ⟨i :: is, by rw [e1]; rfl, by rw [e2]; rfl, h2⟩
theorem asInts_map {is : List Int} {k : List Int → Prop} (h : k is) : asInts (is.map .int) k := by
  induction is generalizing k with
  | nil => exact h
  | cons d ds ih => exact ih (k := fun ds => k (d :: ds)) h
theorem asBls_map {is : List Bool} {k : List Bool → Prop} (h : k is) : asBls (is.map .bl) k := by
  induction is generalizing k with
  | nil => exact h
  | cons d ds ih => exact ih (k := fun ds => k (d :: ds)) h
theorem asStrs_map {is : List Str} {k : List Str → Prop} (h : k is) : asStrs (is.map .str) k := by
  induction is generalizing k with
  | nil => exact h
  | cons d ds ih => exact ih (k := fun ds => k (d :: ds)) h
/-- the items of a list -/
def lstD (b : B) (S : Sto) (k : List D → Prop) : Prop := match b with
  | .fz (.lst ds) => k ds
  | .mt j => (match S[j]? with
    | some (.lst bs) => asDs bs k
    | _ => False)
  | _ => False
theorem lstD_ok {β : Base} {S : Sto} {w : Wd} {b : B} {v : V} {k : List D → Prop} (hR : Rel K β S w) (hb : DenB K S.length w b v) (h : lstD b S k) : ∃ a ds vs, v = .ref a ∧ w.H a = some (.lst vs) ∧ DenL K w.F ds vs ∧ k ds := by
  cases b with
  | mt j =>
    obtain ⟨_, rfl⟩ := hb
    obtain ⟨bs, e1, h1⟩ := cell_lst (f := fun bs => asDs bs k) h
    obtain ⟨vs, h3, h4⟩ := hR.cellL e1
    obtain ⟨ds, rfl, h2⟩ := asDs_eq h1
    exact ⟨_, ds, vs, rfl, h3, h4.fz, h2⟩
  | fz y =>
    have hb : Den K w.F y v := hb
    cases hb with
    | lst h3 h4 => exact ⟨_, _, _, rfl, hR.fr _ _ h3, h4, h⟩
    | _ => exact (show False from h).elim
def gSum : GL := fun bs S R => match bs with
  | [b] => lstD b S fun ds => asInts ds fun is => R (.fz (.int is.sum)) S
  | _ => False
theorem snd_sum : SndL K (rSum K) gSum := fun β S w bs vs R Q hR hb hg hk => by
  match bs, hg, hb with
  | [b], hg, hb =>
    obtain ⟨v, rfl, h1⟩ := hb.one
    obtain ⟨a, ds, vs, rfl, h2, h3, h4⟩ := lstD_ok hR h1 hg
    obtain ⟨is, rfl, rfl, h5⟩ := asInts_ok h4 h3
    exact ⟨a, is, rfl, SqL.of h2, hk.fz hR h5 (.int _)⟩
def gAnyL : GL := fun bs S R => match bs with
  | [b] => lstD b S fun ds => asBls ds fun is => R (.fz (.bl (is.any id))) S
  | _ => False
theorem snd_any : SndL K (rAny K) gAnyL := fun β S w bs vs R Q hR hb hg hk => by
  match bs, hg, hb with
  | [b], hg, hb =>
    obtain ⟨v, rfl, h1⟩ := hb.one
    obtain ⟨a, ds, vs, rfl, h2, h3, h4⟩ := lstD_ok hR h1 hg
    obtain ⟨is, rfl, rfl, h5⟩ := asBls_ok h4 h3
    exact ⟨a, is, rfl, SqL.of h2, hk.fz hR h5 (.bl _)⟩
def gAllL : GL := fun bs S R => match bs with
  | [b] => lstD b S fun ds => asBls ds fun is => R (.fz (.bl (is.all id))) S
  | _ => False
theorem snd_allL : SndL K (rAll K) gAllL := fun β S w bs vs R Q hR hb hg hk => by
  match bs, hg, hb with
  | [b], hg, hb =>
    obtain ⟨v, rfl, h1⟩ := hb.one
    obtain ⟨a, ds, vs, rfl, h2, h3, h4⟩ := lstD_ok hR h1 hg
    obtain ⟨is, rfl, rfl, h5⟩ := asBls_ok h4 h3
    exact ⟨a, is, rfl, SqL.of h2, hk.fz hR h5 (.bl _)⟩
def gMax2 : GL := fun bs S R => match bs with
  | [.fz (.int i), .fz (.int j)] => R (.fz (.int (if j > i then j else i))) S
  | _ => False
def gMin2 : GL := fun bs S R => match bs with
  | [.fz (.int i), .fz (.int j)] => R (.fz (.int (if j < i then j else i))) S
  | _ => False
theorem snd_max2 : SndL K (fun xs H Q => ∃ i j, xs = [.int i, .int j] ∧ Q (.int (if j > i then j else i)) H) gMax2 := fun β S w bs vs R Q hR hb hg hk => by
  match bs, hg, hb with
  | [.fz (.int i), .fz (.int j)], hg, hb =>
    obtain ⟨v, u, rfl, h1, h2⟩ := hb.two
    have e := denInt h1
    subst e
    have e := denInt h2
    subst e
    exact ⟨i, j, rfl, hk.fz hR hg (.int _)⟩
theorem snd_min2 : SndL K (fun xs H Q => ∃ i j, xs = [.int i, .int j] ∧ Q (.int (if j < i then j else i)) H) gMin2 := fun β S w bs vs R Q hR hb hg hk => by
  match bs, hg, hb with
  | [.fz (.int i), .fz (.int j)], hg, hb =>
    obtain ⟨v, u, rfl, h1, h2⟩ := hb.two
    have e := denInt h1
    subst e
    have e := denInt h2
    subst e
    exact ⟨i, j, rfl, hk.fz hR hg (.int _)⟩
/-! ### texts -/
def gJoin (b : B) : GL := fun bs S R => match b, bs with
  | .fz (.str a), [c] => seqD c S fun ds => asStrs ds fun ys => (ys.map (·.length)).sum + ys.length * a.length ≤ 16777216 ∧ R (.fz (.str (Txt.join a ys))) S
  | _, _ => False
theorem snd_join : SndM K (fun x xs H Q => ∃ a p, ∃ ys : List Str, x = .str a ∧ xs = [.ref p] ∧ (SqL K H p (ys.map V.str) ∨ SqT K H p (ys.map V.str)) ∧
    (ys.map (·.length)).sum + ys.length * a.length ≤ 16777216 ∧ Q (.str (Txt.join a ys)) H) gJoin := fun β S w b bs v vs R Q hR hx hb hg hk => by
  match b, bs, hg, hx, hb with
  | .fz (.str a), [c], hg, hx, hb =>
    cases (show Den K w.F (.str a) v from hx)
    obtain ⟨u, rfl, h1⟩ := hb.one
    obtain ⟨p, ds, vs, rfl, h2, h3, h4⟩ := seqD_ok hR h1 hg
    obtain ⟨ys, rfl, rfl, h5⟩ := asStrs_ok h4 h3
    exact ⟨a, p, ys, rfl, rfl, h2, h5.1, hk.fz hR h5.2 (.str _)⟩
/-- {e} -/
def dFmt : D → (D → Prop) → Prop
  | .str y, k => y.length ≤ sizeLine ∧ k (.str y)
  | .int i, k => i.natAbs.log2 < 1920 ∧ k (.str (toString i))
  | _, _ => False
end
section
variable {X : Cx} {E : XK} {a b c e o : Expr} {es : List Expr} {fa fb f fo fe : FE} {fr : FA} {pos p0 : Pos}
theorem xfmt (he : XE X E e fe) : XE X E (.FormattedValue e (-1) none pos) (eUn (gD1 dFmt) fe) :=
  let ⟨_, p, s⟩ := he.ex
  ⟨_, pe_fmt p, fun β S w σ Γ Rx R Q hR hG hf hk hx => s β S w σ Γ Rx _ _ hR hG hf (fun b S1 w1 v h1 R1 l1 d1 => by
    cases b with
    | mt k => exact (show False from h1).elim
    | fz d =>
      have d1 : Den X.K w1.F d v := d1
      cases d1 with
      | str y => exact .inl ⟨y, rfl, h1.1, (hk.later l1).fz R1 h1.2 (.str _)⟩
      | int i => exact .inr ⟨i, rfl, h1.1, (hk.later l1).fz R1 h1.2 (.str _)⟩
      | _ => exact (show False from h1).elim) hx⟩
/-- the parts of an f-text -/
def jsW : List FE → Str → FE
  | [], acc => fun _ S _ R => R (.fz (.str acc)) S
  | f :: fs, acc => fun Γ S Rx R => f Γ S Rx fun b S1 => match b with
    | .fz (.str y) => (acc ++ y).length ≤ sizeLine ∧ jsW fs (acc ++ y) Γ S1 Rx R
    | _ => False
inductive XJ (X : Cx) (E : XK) : List Expr → List FE → Prop where
  | nil : XJ X E [] []
  | cons {e : Expr} {f : FE} {es : List Expr} {fs : List FE} (h : XE X E e f) (r : XJ X E es fs) : XJ X E (e :: es) (f :: fs)
theorem XJ.ex {es : List Expr} {fs : List FE} (h : XJ X E es fs) : ∃ ts, PJ X es ts ∧ ∀ acc β S w σ Γ Rx R (Q : VK), Rel X.K β S w → EvOk X.K S.length w Γ σ → jsW fs acc Γ S Rx R → KOk X.K β S.length w R Q → XOk X.K E β S.length w Rx → tJs ts acc σ w.H fun out H1 => Q (.str out) H1 := by
  induction h with
  | nil => exact ⟨[], .nil, fun acc β S w σ Γ Rx R Q hR hG hf hk hx => hk.fz hR hf (.str _)⟩
  | @cons e f es fs h r ih =>
    obtain ⟨t, p, s⟩ := h.ex
    obtain ⟨ts, q, u⟩ := ih
    refine ⟨t :: ts, .cons p q, fun acc β S w σ Γ Rx R Q hR hG hf hk hx => s β S w σ Γ Rx _ _ hR hG hf (fun b S1 w1 v h1 R1 l1 d1 => ?_) hx⟩
    cases b with
    | mt k => exact (show False from h1).elim
    | fz d =>
      have d1 : Den X.K w1.F d v := d1
      cases d1 with
      | str y => exact ⟨y, rfl, h1.1, u _ β S1 w1 σ Γ Rx R Q R1 (hG.later l1) h1.2 (hk.later l1) (hx.later l1)⟩
      | _ => exact (show False from h1).elim
theorem xjoined {v1 v2 : Expr} {rest : List Expr} {fs : List FE} (h : XJ X E (v1 :: v2 :: rest) fs) : XE X E (.JoinedStr (v1 :: v2 :: rest) pos) (jsW fs Str.empty) :=
  let ⟨_, p, s⟩ := h.ex; ⟨_, pe_joined p, fun β S w σ Γ Rx R Q hR hG hf hk hx => s _ β S w σ Γ Rx R Q hR hG hf hk hx⟩
theorem xjoined1 (he : XE X E e fe) : XE X E (.JoinedStr [e] pos) fe := let ⟨_, p, s⟩ := he.ex; ⟨_, pe_joined1 p, s⟩
/-- the classes of a written tuple -/
inductive XCl (X : Cx) : List Expr → List D → List V → List Value → Prop where
  | nil : XCl X [] [] [] []
  | cons {e : Expr} {d : D} {v : V} {u : Value} {es : List Expr} {ds : List D} {vs : List V} {us : List Value} (h : PE X e (tC v)) (hd : ∀ F, Den X.K F d v) (hc : ClsV v u) (r : XCl X es ds vs us) (hs : starEach (e :: es) X.env = (false, eval e X.env) :: starEach es X.env := by rfl) : XCl X (e :: es) (d :: ds) (v :: vs) (u :: us)
theorem XCl.pa {es : List Expr} {ds : List D} {vs : List V} {us : List Value} (h : XCl X es ds vs us) : PA X es (fun _ H Q => Q vs H) := by
  induction h with
  | nil => exact pa_nil
  | cons h hd hc r hs ih => exact pa_cons h ih hs
theorem XCl.paired {es : List Expr} {ds : List D} {vs : List V} {us : List Value} (h : XCl X es ds vs us) : Paired ClsV vs us := by
  induction h with
  | nil => exact .nil
  | cons h hd hc r hs ih => exact .cons hc ih
theorem XCl.len {es : List Expr} {ds : List D} {vs : List V} {us : List Value} (h : XCl X es ds vs us) : vs.length = ds.length := by
  induction h with
  | nil => rfl
  | cons _ _ _ _ _ ih => exact congrArg (· + 1) ih
theorem clsV_fn {v : V} {a b : Value} (h : ClsV v a) (h' : ClsV v b) : a = b := by
  cases h <;> cases h' <;> rfl
theorem XCl.any {ι : D → D → Option Bool} {es : List Expr} {ds : List D} {vs : List V} {us : List Value} (h : XCl X es ds vs us) {F : Hp} {x : D} {t : Value} (q : ∀ (c : D) (u : V) (b : Bool), Den X.K F c u → ι x c = some b → ∃ cu, ClsV u cu ∧ PySem.W.kitOne X.K t cu = some b) :
    ∀ {b : Bool}, anyIs ι x ds = some b → PySem.W.kitAny X.K t us = some b := by
  induction h with
  | nil => exact fun e => by cases e; exact kitAny_nil'
  | @cons e d v u es ds vs us h hd hc r hs ih =>
    intro b e
    unfold anyIs at e
    cases h1 : ι x d with
    | none => rw [h1] at e; cases e
    | some k =>
      obtain ⟨cu, c1, c2⟩ := q d v k (hd F) h1
      rw [clsV_fn hc c1]
      unfold PySem.W.kitAny
      rw [c2]
      rw [h1] at e
      cases k with
      | true => exact e
      | false => exact ih e
/-- isinstance(e, (C1, C2, ..)) -/
def eIsiT (ι : D → D → Option Bool) (cs : List D) (fe : FE) : FE := fun Γ S Rx R => fe Γ S Rx fun b S1 => (cs.length ≤ 100) ∧ match b with
  | .fz x => optK (anyIs ι x cs) fun k => (∃ c0 b0, ι x c0 = some b0) ∧ R (.fz (.bl k)) S1
  | _ => False
theorem xisiT {ι : D → D → Option Bool} (hι : IsaOk X.K ι) {x : Str} {k1 : Nat} {pt : Pos} {cs : List D} {vs : List V} {us : List Value} (hg : Gl X x) (hm : X.mg x = none) (hv : bootBuiltins x = some (.builtin "isinstance")) (he : XE X E e fe) (hc : XCl X es cs vs us)
    (hn : x ≠ "__name__" := by decide) (hdb : (x == ("__debug__" : Str)) = false := by decide)
    (hst : starEach (e :: [.Tuple es k1 pt]) X.env = (false, eval e X.env) :: starEach [.Tuple es k1 pt] X.env := by rfl) (hst2 : starEach [.Tuple es k1 pt] X.env = (false, eval (.Tuple es k1 pt) X.env) :: starEach [] X.env := by rfl) (hpl : (backTo pos (starEach [.Tuple es k1 pt] X.env)).any (·.1) = false := by rfl) :
    XE X E (.Call (.Name x p0) (e :: [.Tuple es k1 pt]) [] pos) (eIsiT ι cs fe) :=
  let ⟨_, p, s⟩ := he.ex
  ⟨_, pe_callB call_isiT hg hm hv (pa_cons p (pa_cons (pe_tup hc.pa) pa_nil hst2) hst) hn hdb hst hpl, fun β S w σ Γ Rx R Q hR hG hf hk hx => s β S w σ Γ Rx _ _ hR hG hf (fun b S1 w1 v h1 R1 l1 d1 => by
    obtain ⟨hl, h1⟩ := h1
    cases b with
    | mt k => exact (show False from h1).elim
    | fz y =>
      obtain ⟨r, e1, ⟨c0, b0, e0⟩, h2⟩ := optK_ok h1
      have hlen := hc.len
      refine ⟨by rw [hlen]; exact Nat.le_trans hl (by decide), fun tp htp => ?_⟩
      obtain ⟨R2, l2⟩ := R1.newF htp (.tup vs)
      obtain ⟨t, q2, q⟩ := hι _ _ y v R2.fr (Den.mono l2.F d1) c0 b0 e0
      exact ⟨v, tp, vs, t, us, r, rfl, upd_same, hc.paired, q2, hc.any q e1, hk _ S1 _ (.bl r) h2 R2 (l1.trans l2) (.bl r)⟩) hx⟩
/-! ### methods of built-in types -/
def eBM (ty : B → Sto → Prop) (g : B → GL) (fo : FE) (fr : FA) : FE := fun Γ S Rx R => fo Γ S Rx fun b S1 => ty b S1 ∧ fr Γ S1 Rx fun bs S2 => g b bs S2 R
def SndTy (K : PySem.W.Frag) (T : String) (ty : B → Sto → Prop) : Prop := ∀ β S w b v, Rel K β S w → DenB K S.length w b v → ty b S → tyV K T v w.H
def tyL (b : B) (S : Sto) : Prop := match b with
  | .fz (.lst _) => True
  | .mt k => (match S[k]? with
    | some (.lst _) => True
    | _ => False)
  | _ => False
def tyS (b : B) (_ : Sto) : Prop := match b with
  | .fz (.str _) => True
  | _ => False
theorem snd_tyL {K : PySem.W.Frag} : SndTy K "list" tyL := fun β S w b v hR hb h => by
  cases b with
  | mt k =>
    obtain ⟨_, rfl⟩ := hb
    obtain ⟨bs, e1, _⟩ := cell_lst (f := fun _ => True) h
    obtain ⟨vs, h3, _⟩ := hR.cellL e1
    exact .inl ⟨rfl, _, SqL.of h3⟩
  | fz d =>
    have hb : Den K w.F d v := hb
    cases hb with
    | lst h3 _ => exact .inl ⟨rfl, _, SqL.of (hR.fr _ _ h3)⟩
    | _ => exact (show False from h).elim
theorem snd_tyS {K : PySem.W.Frag} : SndTy K "str" tyS := fun β S w b v hR hb h => by
  cases b with
  | mt k => exact (show False from h).elim
  | fz d =>
    have hb : Den K w.F d v := hb
    cases hb with
    | str z => rfl
    | _ => exact (show False from h).elim
variable {T id : String} {name : Str} {r : V → List V → Hp → VK → Prop} {g : B → GL} {ty : B → Sto → Prop} {apos cpos : Pos}
theorem xbm (hs : SndM X.K r g) (ht : SndTy X.K T ty) (ho : XE X E o fo) (ha : XA X E (a :: es) fr) (hpe : ∀ {to : TE} {t : TA}, PE X o to → PA X (a :: es) t → PE X e (tBM X.K T r to t)) : XE X E e (eBM ty g fo fr) :=
  let ⟨_, q, u⟩ := ho.ex; let ⟨_, p, s⟩ := ha.ex
  ⟨_, hpe q p, fun β S w σ Γ Rx R Q hR hG hf hk hx => u β S w σ Γ Rx _ _ hR hG hf (fun b S1 w1 v h1 R1 l1 d1 => ⟨ht β S1 w1 b v R1 d1 h1.1,
    s β S1 w1 σ Γ Rx _ _ R1 (hG.later l1) h1.2 (fun bs S2 w2 vs h2 R2 l2 d2 => hs β S2 w2 b bs v vs R Q R2 (d1.later l2) d2 h2 (hk.later (l1.trans l2))) (hx.later l1)⟩) hx⟩
theorem xbm0 (hs : SndM X.K r g) (ht : SndTy X.K T ty) (ho : XE X E o fo) (hpe : ∀ {to : TE}, PE X o to → PE X e (tBM0 X.K T r to)) : XE X E e (eBM ty g fo aNil) :=
  let ⟨_, q, u⟩ := ho.ex
  ⟨_, hpe q, fun β S w σ Γ Rx R Q hR hG hf hk hx => u β S w σ Γ Rx _ _ hR hG hf (fun b S1 w1 v h1 R1 l1 d1 => ⟨ht β S1 w1 b v R1 d1 h1.1, hs β S1 w1 b [] v [] R Q R1 d1 .nil h1.2 (hk.later l1)⟩) hx⟩
theorem xjoin {xe : Expr} (ho : XE X E o fo) (he : XE X E xe fe) (hpe : ∀ {to te : TE}, PE X o to → PE X xe te → PE X e (tM1 (fun x xs H Q => ∃ a p, ∃ ys : List Str, x = .str a ∧ xs = [.ref p] ∧ (SqL X.K H p (ys.map V.str) ∨ SqT X.K H p (ys.map V.str)) ∧
    (ys.map (·.length)).sum + ys.length * a.length ≤ 16777216 ∧ Q (.str (Txt.join a ys)) H) to te)) : XE X E e (eBM tyS gJoin fo (aCons fe aNil)) :=
  let ⟨_, q, u⟩ := ho.ex; let ⟨_, p, s⟩ := he.ex
  ⟨_, hpe q p, fun β S w σ Γ Rx R Q hR hG hf hk hx => u β S w σ Γ Rx _ _ hR hG hf (fun b S1 w1 v h1 R1 l1 d1 => ⟨by
      cases b with
      | mt k => exact (show False from h1.1).elim
      | fz d =>
        have d1 : Den X.K w1.F d v := d1
        cases d1 with
        | str z => exact ⟨z, rfl⟩
        | _ => exact (show False from h1.1).elim,
    s β S1 w1 σ Γ Rx _ _ R1 (hG.later l1) h1.2 (fun c S2 w2 u h2 R2 l2 d2 => snd_join β S2 w2 b [c] v [u] R Q R2 (d1.later l2) (.cons d2 .nil) h2 (hk.later (l1.trans l2))) (hx.later l1)⟩) hx⟩
end
/-! ### lists that change -/
section
variable {K : PySem.W.Frag}
def gAppend (b : B) : GL := fun bs S R => match b, bs with
  | .mt k, [c] => (match S[k]? with
    | some (.lst xs) => xs.length < sizeLine ∧ R (.fz .non) (S.set k (.lst (xs ++ [c])))
    | _ => False)
  | _, _ => False
theorem later_H {n : Nat} {w : Wd} {H : Hp} : Later n w n ⟨w.m, w.F, H⟩ := ⟨Nat.le_refl _, fun _ _ => rfl, .refl _⟩
theorem KOk.setL {β : Base} {S : Sto} {w : Wd} {R : RB} {Q : VK} {b : B} {v : V} {k : Nat} {xs ys : List B} {us : List V} (hk : KOk K β S.length w R Q) (hR : Rel K β S w) (e : S[k]? = some (.lst xs)) (h : R b (S.set k (.lst ys))) (hd : DenB K S.length w b v) (hy : DenBL K S.length w ys us) : Q v (upd w.H (w.m k) (.lst us)) := by
  obtain ⟨R1, l1⟩ := hR.setC e (by intro z; cases z) (o := .lst us) (c' := .lst ys) ⟨us, upd_same, hy.later later_H⟩
  exact hk b _ _ v h R1 l1 (hd.later l1)
theorem snd_append : SndM K rAppend gAppend := fun β S w b bs v vs R Q hR hx hb hg hk => by
  match b, bs, hg, hx, hb with
  | .mt k, [c], hg, hx, hb =>
    obtain ⟨_, rfl⟩ := hx
    obtain ⟨u, rfl, h1⟩ := hb.one
    obtain ⟨xs, e1, h2⟩ := cell_lst (f := fun xs => xs.length < sizeLine ∧ R (.fz .non) (S.set k (.lst (xs ++ [c])))) hg
    obtain ⟨us, h3, h4⟩ := hR.cellL e1
    exact ⟨_, us, u, rfl, rfl, h3, by rw [← h4.length]; exact h2.1, hk.setL hR e1 h2.2 .non (h4.app (.cons h1 .nil))⟩
def gExtend (b : B) : GL := fun bs S R => match b, bs with
  | .mt k, [.fz (.lst ys)] => (match S[k]? with
    | some (.lst xs) => xs.length + ys.length ≤ sizeLine ∧ R (.fz .non) (S.set k (.lst (xs ++ ys.map .fz)))
    | _ => False)
  | _, _ => False
theorem snd_extend : SndM K rExtend gExtend := fun β S w b bs v vs R Q hR hx hb hg hk => by
  match b, bs, hg, hx, hb with
  | .mt k, [.fz (.lst ys)], hg, hx, hb =>
    obtain ⟨_, rfl⟩ := hx
    obtain ⟨u, rfl, h1⟩ := hb.one
    obtain ⟨xs, e1, h2⟩ := cell_lst (f := fun xs => xs.length + ys.length ≤ sizeLine ∧ R (.fz .non) (S.set k (.lst (xs ++ ys.map .fz)))) hg
    obtain ⟨us, h3, h4⟩ := hR.cellL e1
    cases (show Den K w.F (.lst ys) u from h1) with
    | lst h5 h6 => exact ⟨_, _, us, _, rfl, rfl, h3, hR.fr _ _ h5, by rw [← h4.length, ← h6.length]; exact h2.1, hk.setL hR e1 h2.2 .non (h4.app h6.bz)⟩
def gClear (b : B) : GL := fun bs S R => match b, bs with
  | .mt k, [] => (match S[k]? with
    | some (.lst _) => R (.fz .non) (S.set k (.lst []))
    | _ => False)
  | _, _ => False
theorem snd_clear : SndM K rClear gClear := fun β S w b bs v vs R Q hR hx hb hg hk => by
  match b, bs, hg, hx, hb with
  | .mt k, [], hg, hx, .nil =>
    obtain ⟨_, rfl⟩ := hx
    obtain ⟨xs, e1, h2⟩ := cell_lst (f := fun _ => R (.fz .non) (S.set k (.lst []))) hg
    obtain ⟨us, h3, h4⟩ := hR.cellL e1
    exact ⟨_, us, rfl, rfl, h3, hk.setL hR e1 h2 .non .nil⟩
def gPop (b : B) : GL := fun bs S R => match b, bs with
  | .mt k, [] => (match S[k]? with
    | some (.lst xs) => optK (xs[xs.length - 1]?) fun c => R c (S.set k (.lst xs.dropLast))
    | _ => False)
  | _, _ => False
theorem DenBL.dropLast {n : Nat} {w : Wd} : ∀ {bs : List B} {vs : List V}, DenBL K n w bs vs → DenBL K n w bs.dropLast vs.dropLast
  | _, _, .nil => .nil
  | _, _, .cons _ .nil => .nil
  | _, _, .cons a (.cons b t) => .cons a (DenBL.dropLast (.cons b t))
theorem snd_pop : SndM K rPop gPop := fun β S w b bs v vs R Q hR hx hb hg hk => by
  match b, bs, hg, hx, hb with
  | .mt k, [], hg, hx, .nil =>
    obtain ⟨_, rfl⟩ := hx
    obtain ⟨xs, e1, h2⟩ := cell_lst (f := fun xs => optK (xs[xs.length - 1]?) fun c => R c (S.set k (.lst xs.dropLast))) hg
    obtain ⟨c, e2, h2⟩ := optK_ok h2
    obtain ⟨us, h3, h4⟩ := hR.cellL e1
    obtain ⟨u, h5, h6⟩ := h4.get e2
    exact ⟨_, us, u, rfl, rfl, h3, by rw [← h4.length]; exact h5, hk.setL hR e1 h2 h6 h4.dropLast⟩
/-- a slot's list is for good from here on -/
def sFrz (i : Nat) (f : FS) : FS := fun Γ S P => match Γ[i]? with
  | some (some (.mt k)) => (match S[k]? with
    | some (.lst bs) => asDs bs fun ds => f (Γ.set i (some (.fz (.lst ds)))) (S.set k .dead) P
    | _ => False)
  | _ => False
theorem xs_frz {X : Cx} {E : XK} {sts : List Stmt} {f : FS} {i : Nat} (h : XSs X E sts f) : XSs X E sts (sFrz i f) :=
  let ⟨_, p, s⟩ := h.ex
  ⟨_, p, fun β S w σ Γ P De hR hG hf hk => by
    unfold sFrz at hf
    cases hb : Γ[i]? with
    | none => rw [hb] at hf; exact hf.elim
    | some ob =>
      rw [hb] at hf
      cases ob with
      | none => exact (show False from hf).elim
      | some b =>
        cases b with
        | fz _ => exact (show False from hf).elim
        | mt k =>
          obtain ⟨bs, e1, h1⟩ := cell_lst (f := fun bs => asDs bs fun ds => f (Γ.set i (some (.fz (.lst ds)))) (S.set k .dead) P) hf
          obtain ⟨ds, rfl, h2⟩ := asDs_eq h1
          obtain ⟨vs, h3, h4⟩ := hR.cellL e1
          obtain ⟨R1, l1⟩ := hR.freeze e1 (by intro z; cases z) h3
          obtain ⟨v, h5, h6⟩ := hG.at_ i _ hb
          obtain ⟨_, rfl⟩ := h6
          have G1 := (hG.later l1).set (v := .ref (w.m k)) (b := .fz (.lst ds)) i (Den.lst upd_same (DenL.mono l1.F h4.fz))
          have es : σ.set i (some (.ref (w.m k))) = σ := by
            refine List.ext_getElem? fun j => ?_
            by_cases hj : j = i
            · subst hj
              rw [List.getElem?_set_self (get_lt h5), h5]
            · rw [List.getElem?_set_ne (Ne.symm hj)]
          rw [es] at G1
          exact s β _ ⟨w.m, upd w.F (w.m k) (.lst vs), w.H⟩ σ _ P De R1 G1 h2 hk⟩
end
end PL
namespace PL
open PySem L2
section
variable {X : Cx} {E : XK} {a b c e o : Expr} {es : List Expr} {fa fb fc f fo fe : FE} {fr : FA} {pos p0 apos : Pos} {CX : CXT} {k n : Nat} {C g : Addr} {cn : Str} {fd : FuncData} {ps : List Str} {dvs : List V} {ds : List Value} {x m : Str} {W : FW} {gw : GW} {E' : XK}
/-! the forms of calls -/
theorem xcall (hw : SndW0 X.K W dvs gw) (F : FnOk X.prog X.w X.K X.mg X.base CX k g fd ps (spP X.K W)) (hr : Room k X.A) (hg : Gl X x) (hm : X.mg x = some (.ref g)) (hk : PySem.W.keepIn X.K (.ref g) = true) (hb : Binds X.K fd ps ds) (hd : Vals dvs ds) (hx : Passes CX X E')
    (ha : XA X E (e :: es) fr) (hdb : (x == ("__debug__" : Str)) = false := by decide) (he : starEach (e :: es) X.env = (false, eval e X.env) :: starEach es X.env := by rfl) (hpl : (backTo pos (starEach es X.env)).any (·.1) = false := by rfl) :
    XE X E (.Call (.Name x p0) (e :: es) [] pos) (eCallC gw fr) := xcallC hw ha fun p => pe_call F hr hg hm hk hb hd hx p hdb he hpl
theorem xcall0 (hw : SndW0 X.K W dvs gw) (F : FnOk X.prog X.w X.K X.mg X.base CX k g fd ps (spP X.K W)) (hr : Room k X.A) (hg : Gl X x) (hm : X.mg x = some (.ref g)) (hk : PySem.W.keepIn X.K (.ref g) = true) (hb : Binds X.K fd ps ds) (hd : Vals dvs ds) (hx : Passes CX X E')
    (hdb : (x == ("__debug__" : Str)) = false := by decide) : XE X E (.Call (.Name x p0) [] [] pos) (eCallC gw aNil) := xcallC0 hw (pe_call0 F hr hg hm hk hb hd hx hdb)
theorem xcallR (hw : SndW X.K W dvs gw) (F : FnOk X.prog X.w X.K X.mg X.base CX k g fd ps (spX X.K W)) (hr : Room k X.A) (hg : Gl X x) (hm : X.mg x = some (.ref g)) (hk : PySem.W.keepIn X.K (.ref g) = true) (hb : Binds X.K fd ps ds) (hd : Vals dvs ds) (hx : Passes CX X E)
    (ha : XA X E (e :: es) fr) (hdb : (x == ("__debug__" : Str)) = false := by decide) (he : starEach (e :: es) X.env = (false, eval e X.env) :: starEach es X.env := by rfl) (hpl : (backTo pos (starEach es X.env)).any (·.1) = false := by rfl) :
    XE X E (.Call (.Name x p0) (e :: es) [] pos) (eCallX gw fr) := xcallX F hw hr hg hm hk hb hd hx ha fun p => pe_call F hr hg hm hk hb hd hx p hdb he hpl
theorem xcallR0 (hw : SndW X.K W dvs gw) (F : FnOk X.prog X.w X.K X.mg X.base CX k g fd ps (spX X.K W)) (hr : Room k X.A) (hg : Gl X x) (hm : X.mg x = some (.ref g)) (hk : PySem.W.keepIn X.K (.ref g) = true) (hb : Binds X.K fd ps ds) (hd : Vals dvs ds) (hx : Passes CX X E)
    (hdb : (x == ("__debug__" : Str)) = false := by decide) : XE X E (.Call (.Name x p0) [] [] pos) (eCallX gw aNil) := xcallX0 hw (pe_call0 F hr hg hm hk hb hd hx hdb)
theorem xmeth (hc : clsAt X.K cn = C) (hw : SndW0 X.K W dvs gw) (ho : XE X E o fo) (ha : XA X E (e :: es) fr)
    (hpe : ∀ {to : TE} {t : TA}, PE X o to → PA X (e :: es) t → PE X (.Call (.Attribute o m apos) (e :: es) [] pos) (tMeth C m (spP X.K W) dvs E' to t)) :
    XE X E (.Call (.Attribute o m apos) (e :: es) [] pos) (eMethC cn m gw fo fr) := xmethC (cn := cn) hw ho ha (by rw [hc]; exact hpe)
theorem xmeth0 (hc : clsAt X.K cn = C) (hw : SndW0 X.K W dvs gw) (ho : XE X E o fo)
    (hpe : ∀ {to : TE}, PE X o to → PE X (.Call (.Attribute o m apos) [] [] pos) (tMeth C m (spP X.K W) dvs E' to tNil)) :
    XE X E (.Call (.Attribute o m apos) [] [] pos) (eMethC cn m gw fo aNil) := xmethC0 (cn := cn) hw ho (by rw [hc]; exact hpe)
theorem xmethR (hc : clsAt X.K cn = C) (hw : SndW X.K W dvs gw) (ho : XE X E o fo) (ha : XA X E (e :: es) fr)
    (hpe : ∀ {to : TE} {t : TA}, PE X o to → PA X (e :: es) t → PE X (.Call (.Attribute o m apos) (e :: es) [] pos) (tMeth C m (spX X.K W) dvs E to t)) :
    XE X E (.Call (.Attribute o m apos) (e :: es) [] pos) (eMethX cn m gw fo fr) := xmethX (cn := cn) hw ho ha (by rw [hc]; exact hpe)
theorem xmethR0 (hc : clsAt X.K cn = C) (hw : SndW X.K W dvs gw) (ho : XE X E o fo)
    (hpe : ∀ {to : TE}, PE X o to → PE X (.Call (.Attribute o m apos) [] [] pos) (tMeth C m (spX X.K W) dvs E to tNil)) :
    XE X E (.Call (.Attribute o m apos) [] [] pos) (eMethX cn m gw fo aNil) := xmethX0 (cn := cn) hw ho (by rw [hc]; exact hpe)
theorem xprop' (hc : clsAt X.K cn = C) (hw : SndW0 X.K W dvs gw) (ho : XE X E o fo) (hpe : ∀ {to : TE}, PE X o to → PE X (.Attribute o m pos) (tProp C (spP X.K W) dvs E' to)) : XE X E (.Attribute o m pos) (eProp cn gw fo) :=
  xprop (cn := cn) hw ho (by rw [hc]; exact hpe)
/-! constructors -/
theorem xmk (hc : clsAt X.K cn = C) {dds : List D} (hD : Paired (fun d v => ∀ F, Den X.K F d v) dds dvs) (M : Mk X.K C g) (F : FnOk X.prog X.w X.K X.mg X.base CX k g fd ps (spP X.K W)) (hr : Room (k + 1) X.A) (hg : Gl X x) (hm : X.mg x = some (.ref C)) (hb : Binds X.K fd ps ds) (hd : Vals dvs ds) (hx : Passes CX X E')
    (ha : XA X E (e :: es) fr) (hdb : (x == ("__debug__" : Str)) = false := by decide) (he : starEach (e :: es) X.env = (false, eval e X.env) :: starEach es X.env := by rfl) (hpl : (backTo pos (starEach es X.env)).any (·.1) = false := by rfl) :
    XE X E (.Call (.Name x p0) (e :: es) [] pos) (eCallC (gMake cn W dds) fr) := by
  subst hc
  exact xmakeC hD ha fun p => pe_make M F hr hg hm hb hd hx p hdb he hpl
theorem xmk0 (hc : clsAt X.K cn = C) {dds : List D} (hD : Paired (fun d v => ∀ F, Den X.K F d v) dds dvs) (M : Mk X.K C g) (F : FnOk X.prog X.w X.K X.mg X.base CX k g fd ps (spP X.K W)) (hr : Room (k + 1) X.A) (hg : Gl X x) (hm : X.mg x = some (.ref C)) (hb : Binds X.K fd ps ds) (hd : Vals dvs ds) (hx : Passes CX X E')
    (hdb : (x == ("__debug__" : Str)) = false := by decide) : XE X E (.Call (.Name x p0) [] [] pos) (eCallC (gMake cn W dds) aNil) := by
  subst hc
  exact xmakeC0 hD (pe_make0 M F hr hg hm hb hd hx hdb)
/-! .. of arguments that may change later: an object for good -/
def gMakeA (cn : Str) (W : FW) (dds : List D) : GW := fun bs S Rx R => W (.mt S.length :: (bs ++ dds.map B.fz)) (S ++ [.ins cn []]) Rx fun b S1 => match b with
  | .fz .non => (match (S1[S.length]? : Option Cell) with
    | some (.ins c' fs) => asFs fs fun fds => R (.fz (.ins c' fds)) (S1.take S.length)
    | _ => False)
  | _ => False
theorem take_get {α : Type} {xs : List α} {n i : Nat} {x : α} (h : (xs.take n)[i]? = some x) : i < n ∧ xs[i]? = some x := by
  have hl := get_lt h
  rw [List.length_take] at hl
  rw [List.getElem?_take] at h
  have : i < n := by omega
  rw [if_pos this] at h
  exact ⟨this, h⟩
/-- cells forgotten -/
theorem Rel.takeC {K : PySem.W.Frag} {β : Base} {S : Sto} {w : Wd} {n : Nat} (R : Rel K β S w) (hn : β.n0 ≤ n) (hle : n ≤ S.length) (hc : ∀ (k : Nat) (c : Cell), (S.take n)[k]? = some c → c ≠ .dead → CellOk K n w (w.m k) c) : Rel K β (S.take n) w := by
  have hl : (S.take n).length = n := by rw [List.length_take]; omega
  refine ⟨R.fr, R.keep, R.f0, R.fn, R.m0, by rw [hl]; exact hn, fun k c h hd => ?_, fun i j ci cj hi hj => R.inj i j ci cj (take_get hi).2 (take_get hj).2⟩
  have L := R.live k c (take_get h).2 hd
  rw [hl]
  exact ⟨L.nf, L.n0, hc k c h hd⟩
section
variable {K : PySem.W.Frag} {n n' : Nat} {w w' : Wd}
theorem DenB.shrink {b : B} {v v' : V} (h : DenB K n w b v) (h' : DenB K n' w' b v') : DenB K n w' b v' := by
  cases b with
  | fz d => exact h'
  | mt k => exact ⟨h.1, h'.2⟩
theorem DenBL.shrink : ∀ {bs : List B} {vs vs' : List V}, DenBL K n w bs vs → DenBL K n' w' bs vs' → DenBL K n w' bs vs'
  | _, _, _, .nil, .nil => .nil
  | _, _, _, .cons a t, .cons a' t' => .cons (a.shrink a') (DenBL.shrink t t')
theorem DenBK.shrink : ∀ {bs : List (Key × B)} {vs vs' : List (Key × V)}, DenBK K n w bs vs → DenBK K n' w' bs vs' → DenBK K n w' bs vs'
  | _, _, _, .nil, .nil => .nil
  | _, _, _, .cons a t, .cons a' t' => .cons (a.shrink a') (DenBK.shrink t t')
theorem DenBF.shrink : ∀ {bs : List (Str × B)} {vs vs' : List (Str × V)}, DenBF K n w bs vs → DenBF K n' w' bs vs' → DenBF K n w' bs vs'
  | _, _, _, .nil, .nil => .nil
  | _, _, _, .cons a t, .cons a' t' => .cons (a.shrink a') (DenBF.shrink t t')
theorem CellOk.shrink {a a' : Addr} {c : Cell} (h : CellOk K n w a c) (h' : CellOk K n' w' a' c) : CellOk K n w' a' c := by
  cases c with
  | lst bs => obtain ⟨_, _, q⟩ := h; obtain ⟨vs, h1, h2⟩ := h'; exact ⟨vs, h1, q.shrink h2⟩
  | dic bs => obtain ⟨_, _, q⟩ := h; obtain ⟨vs, h1, h2⟩ := h'; exact ⟨vs, h1, q.shrink h2⟩
  | ins C bs => obtain ⟨_, _, _, q⟩ := h; obtain ⟨dx, vs, h1, h2⟩ := h'; exact ⟨dx, vs, h1, q.shrink h2⟩
  | bag => exact h'
  | dead => trivial
  | kset _ _ _ _ => exact h'
  | lams _ => exact h'
  | tab _ _ => exact h'
end
theorem snd_makeAC {K : PySem.W.Frag} {t : TA} {dds : List D} (hd : Paired (fun d v => ∀ F, Den K F d v) dds dvs) (s : SndA K E t fr) : SndE K E (tMake (clsAt K cn) (spP K W) dvs E' t) (eCallC (fun bs S Rx R => gMakeA cn W dds bs S Rx fun b S1 => S1 = S ∧ R b S) fr) := fun β S w σ Γ Rx R Q hR hG hf hk hx =>
  s β S w σ Γ Rx _ _ hR hG hf (fun bs S1 w1 vs h1 R1 l1 d1 y dx hy hdx ne => by
    obtain ⟨m1, F1, H1⟩ := w1
    -- the instance's own dict, then the instance
    obtain ⟨Ra, la⟩ := R1.updFree (o := .own y) (R1.fr.free hdx) (R1.keep.free hdx) (R1.freshL hdx)
    have hy2 : upd H1 dx (.own y) y = none := (upd_ne ne.symm).trans hy
    obtain ⟨Rb, lb⟩ := Ra.newC (p := y) hy2 (.ins (clsAt K cn) dx []) (c := .ins cn []) ⟨dx, [], upd_same, .nil⟩
    have l2 := la.trans lb
    have h1' : gMakeA cn W dds bs S1 noX (fun b S' => S' = S1 ∧ R b S1) := h1
    unfold gMakeA at h1'
    have hlen : (S1 ++ [Cell.ins cn []]).length = S1.length + 1 := by rw [List.length_append]; rfl
    refine ⟨β, S1 ++ [.ins cn []], ⟨fun k => if k = S1.length then y else m1 k, F1, upd (upd H1 dx (.own y)) y (.ins (clsAt K cn) dx [])⟩, .mt S1.length :: (bs ++ dds.map B.fz), _, rfl, Rb, .cons (b := .mt S1.length) ⟨by rw [hlen]; exact Nat.lt_succ_self _, congrArg V.ref (if_pos rfl).symm⟩ ((d1.later l2).app (DenL.bz (DenL.den hd))), h1', fun b S' w' v q R' l' d => ?_⟩
    cases b with
    | mt _ => exact (show False from q).elim
    | fz x =>
      cases x with
      | non =>
        cases (show Den K w'.F .non v from d)
        refine ⟨rfl, ?_⟩
        obtain ⟨c', fs, e1, h3⟩ := cell_ins (f := fun c' fs => asFs fs fun fds => S'.take S1.length = S1 ∧ R (.fz (.ins c' fds)) S1) q
        obtain ⟨dx', us, h4, h5⟩ := R'.cellI e1
        obtain ⟨fds, ⟨h6, h7⟩, h8⟩ := asFs_ok h3 h5
        obtain ⟨m', F', H'⟩ := w'
        have em : m' S1.length = y := (l'.m _ (by rw [hlen]; exact Nat.lt_succ_self _)).trans (if_pos rfl)
        have h4 : H' (m' S1.length) = some (.ins (clsAt K c') dx' us) := h4
        obtain ⟨R3, l3⟩ := R'.freeze e1 (by intro z; cases z) h4
        have nle : S1.length ≤ S'.length := by have := l'.le; rw [hlen] at this; omega
        have e2 : (S'.set S1.length .dead).take S1.length = S1 := by rw [List.take_set_of_le (Nat.le_refl _), h6]
        have R4 := R3.takeC (n := S1.length) R1.n0 (by rw [List.length_set]; exact nle) (fun k c hkc hdc => by
          have hkc2 := hkc
          rw [e2] at hkc2
          exact ((R1.live k c hkc2 hdc).ok).shrink (R3.live k c (take_get hkc).2 hdc).ok)
        rw [e2] at R4
        have l4 : Later S1.length ⟨m1, F1, H1⟩ S1.length ⟨m', upd F' (m' S1.length) (.ins (clsAt K c') dx' us), H'⟩ :=
          ⟨Nat.le_refl _, fun k hk => (l'.m k (by rw [hlen]; omega)).trans (if_neg (Nat.ne_of_lt hk)), fun a o ha => l3.F _ _ (l'.F _ _ ha)⟩
        exact (hk.later l1) _ S1 ⟨m', upd F' (m' S1.length) (.ins (clsAt K c') dx' us), H'⟩ (.ref y) h7 R4 l4 (em ▸ Den.ins upd_same (DenF.mono l3.F h8))
      | _ => exact (show False from q).elim) hx
/-- .. as a way of calling -/
def gMkA (cn : Str) (W : FW) (dds : List D) : GW := fun bs S Rx R => gMakeA cn W dds bs S Rx fun b S1 => S1 = S ∧ R b S
theorem xmkA (hc : clsAt X.K cn = C) {dds : List D} (hD : Paired (fun d v => ∀ F, Den X.K F d v) dds dvs) (M : Mk X.K C g) (F : FnOk X.prog X.w X.K X.mg X.base CX k g fd ps (spP X.K W)) (hr : Room (k + 1) X.A) (hg : Gl X x) (hm : X.mg x = some (.ref C)) (hb : Binds X.K fd ps ds) (hd : Vals dvs ds) (hx : Passes CX X E')
    (ha : XA X E (e :: es) fr) (hdb : (x == ("__debug__" : Str)) = false := by decide) (he : starEach (e :: es) X.env = (false, eval e X.env) :: starEach es X.env := by rfl) (hpl : (backTo pos (starEach es X.env)).any (·.1) = false := by rfl) :
    XE X E (.Call (.Name x p0) (e :: es) [] pos) (eCallC (gMkA cn W dds) fr) := by
  subst hc
  exact let ⟨_, p, s⟩ := ha.ex; ⟨_, pe_make M F hr hg hm hb hd hx p hdb he hpl, snd_makeAC hD s⟩
/-! keywords -/
structure XK' (X : Cx) (E : XK) (kws : List Keyword) (f : FA) : Prop where
  ex : ∃ t, PK X kws t ∧ SndA X.K E t f
theorem xk_nil : XK' X E [] aNil := ⟨_, pk_nil, snd_nil⟩
theorem xk_cons {nm : Option Str} {kpos : Pos} {kws : List Keyword} (ha : XE X E e fe) (hr : XK' X E kws fr) : XK' X E (⟨nm, e, kpos⟩ :: kws) (aCons fe fr) :=
  let ⟨_, p, s⟩ := ha.ex; let ⟨_, q, r⟩ := hr.ex; ⟨_, pk_cons p q, snd_cons s r⟩
/-- the keywords' values in the parameters' order -/
def permA {α : Type} (is : List Nat) (zs : List α) : List α := is.filterMap fun i => zs[i]?
theorem DenBL.perm {K : PySem.W.Frag} {n : Nat} {w : Wd} {bs : List B} {vs : List V} (h : DenBL K n w bs vs) : ∀ is : List Nat, DenBL K n w (permA is bs) (permA is vs)
  | [] => .nil
  | i :: is => by
    have ih := DenBL.perm h is
    unfold permA at ih ⊢
    rw [List.filterMap_cons, List.filterMap_cons]
    cases e : bs[i]? with
    | none =>
      have : vs[i]? = none := by rw [List.getElem?_eq_none_iff] at e ⊢; rw [← h.length]; exact e
      rw [this]
      exact ih
    | some b =>
      obtain ⟨v, e2, hv⟩ := h.get e
      rw [e2]
      exact .cons hv ih
/-- C(k = .., ..): keywords alone -/
def eMkK (gw : GW) (is : List Nat) (m : Nat) (fk : FA) : FE := fun Γ S Rx R => fk Γ S Rx fun zs S1 => zs.length = m ∧ gw (permA is zs) S1 noX R
theorem permV {is : List Nat} {zs : List V} {x : V} : (fun (vs zs : List V) => vs ++ permA is zs) [x] zs = x :: permA is zs := rfl
theorem xmkK {m : Nat} {kws : List Keyword} {ks : List Str} {gg : List Value → List Value → List Value} {is : List Nat} {fk : FA} (hc : clsAt X.K cn = C) (M : Mk X.K C g) (F : FnOk X.prog X.w X.K X.mg X.base CX k g fd ps (spP X.K W)) (hr : Room (k + 1) X.A) (hg : Gl X x) (hm : X.mg x = some (.ref C)) (hb : KBn X.K fd ps 1 ks gg fun vs zs => vs ++ permA is zs) (hx : Passes CX X E') (hkw : XK' X E kws fk)
    (hall : (backToKw pos (keywordEach kws X.env)).all (·.1.isSome) = true := by rfl) (hks : (backToKw pos (keywordEach kws X.env)).filterMap (·.1) = ks := by rfl) (hdb : (x == ("__debug__" : Str)) = false := by decide)
    (hpl : ((backTo pos (starEach [] X.env)).any (·.1) || (backToKw pos (keywordEach kws X.env)).any (·.1.isNone)) = false := by rfl) (hlen : ks.length = m := by rfl) :
    XE X E (.Call (.Name x p0) [] kws pos) (eMkK (gMake cn W []) is m fk) :=
  hlen ▸ let ⟨_, p, s⟩ := hkw.ex
  ⟨_, pe_makeK0 M F hr hg hm hb hx p hall hks hdb hpl, fun β S w σ Γ Rx R Q hR hG hf hk hx => by
    subst hc
    refine s β S w σ Γ Rx _ _ hR hG hf (fun zs S1 w1 vs h1 R1 l1 d1 => ⟨rfl, by rw [← d1.length]; exact h1.1, fun y dx hy hdx ne => ?_⟩) hx
    have q := make_coreC (dvs := []) (E' := E') .nil R1 (d1.perm is) h1.2 (hk.later l1) hy hdx ne
    rw [List.append_nil] at q
    exact q⟩
end
end PL
namespace PL
open PySem L2
/-! ### len(o), repr(o) of an own class -/
section
variable {X : Cx} {C f : Addr} {k : Nat} {sp : Sp} {cn : Str} {W : FW} {gw : GW}
theorem call_lenOwn (F : FnR X.prog X.w X.K X.mg X.base CX0 k f sp) (hr : Room (k + 1) X.A) (hs : PySem.W.findIn X.K (.ref C) "__len__" = some (some (.ref f))) (hf : PySem.W.isFn X.K (.ref f) = true) :
    CallR X (.builtin "len") (fun xs H Q => ∃ a dx fs, xs = [.ref a] ∧ H a = some (.ins C dx fs) ∧ sp [.ref a] H (fun v H' => ∃ n : Int, v = .int n ∧ 0 ≤ n ∧ n < 2 ^ 63 ∧ Q (.int n) H') E0) := by
  intro pins s σ H xs us Q I r h
  obtain ⟨a, dx, fs, rfl, ha, q⟩ := h
  obtain ⟨u, rfl, rx⟩ := vals1 r
  obtain rfl : u = Value.ref a := rx
  obtain ⟨mA, O, _⟩ := ins_get I.hok ha
  obtain ⟨od, J, _⟩ := O.look
  obtain ⟨m, hF⟩ := I.fr
  refine PySem.W.len_K hF I.ok.mod.kin J hs hf (wpAny_call (codeAny_mono (F X.A.in1 X.stack s H [.ref a] [.ref a] _ E0 hr.in1 I.env0.in1 (.cons rfl .nil) q) fun r s' z => ?_))
  cases r with
  | error e => exact z.elim
  | ok fl =>
    cases fl with
    | ret w =>
      obtain ⟨z', H', I', rz, n, eb, n0, n1, qb⟩ := I.after z
      subst eb
      obtain ⟨tk, rfl⟩ := rz
      exact ⟨⟨n0, n1⟩, .int n, H', I'.tok _, ⟨_, rfl⟩, qb⟩
    | next => exact z.elim
    | brk => exact z.elim
    | cont => exact z.elim
theorem call_reprOwn (F : FnR X.prog X.w X.K X.mg X.base CX0 k f sp) (hr : Room (k + 1) X.A) (hs : PySem.W.findIn X.K (.ref C) "__repr__" = some (some (.ref f))) (hf : PySem.W.isFn X.K (.ref f) = true) :
    CallR X (.builtin "repr") (fun xs H Q => ∃ a dx fs, xs = [.ref a] ∧ H a = some (.ins C dx fs) ∧ sp [.ref a] H (fun v H' => ∃ y : Str, v = .str y ∧ Q (.str y) H') E0) := by
  intro pins s σ H xs us Q I r h
  obtain ⟨a, dx, fs, rfl, ha, q⟩ := h
  obtain ⟨u, rfl, rx⟩ := vals1 r
  obtain rfl : u = Value.ref a := rx
  obtain ⟨mA, O, _⟩ := ins_get I.hok ha
  obtain ⟨od, J, _⟩ := O.look
  obtain ⟨m, hF⟩ := I.fr
  refine PySem.W.repr_K (Nat.lt_of_le_of_lt (Nat.le_add_right _ 64) hr.in1.units) hF I.ok.mod.kin J hs hf (wpAny_call (codeAny_mono (F X.A.in1 X.stack s H [.ref a] [.ref a] _ E0 hr.in1 I.env0.in1 (.cons rfl .nil) q) fun r s' z => ?_))
  cases r with
  | error e => exact z.elim
  | ok fl =>
    cases fl with
    | ret w =>
      obtain ⟨z', H', I', rz, y, eb, qb⟩ := I.after z
      subst eb
      obtain ⟨tk, rfl⟩ := rz
      exact ⟨.str y, H', I', ⟨_, rfl⟩, qb⟩
    | next => exact z.elim
    | brk => exact z.elim
    | cont => exact z.elim
def asStr (R : Str → Sto → Prop) : RB := fun b S => match b with
  | .fz (.str i) => R i S
  | _ => False
def gLenO (cn : Str) (gw : GW) : GL := fun bs S R => match bs with
  | [b] => isObj cn b S ∧ gw [b] S noX (asInt fun n S2 => (0 ≤ n ∧ n < 2 ^ 63) ∧ R (.fz (.int n)) S2)
  | _ => False
theorem snd_lenO {K : PySem.W.Frag} (hw : SndW0 K W [] gw) : SndL K (fun xs H Q => ∃ a dx fs, xs = [.ref a] ∧ H a = some (.ins (clsAt K cn) dx fs) ∧ spP K W ([.ref a] ++ []) H (fun v H' => ∃ n : Int, v = .int n ∧ 0 ≤ n ∧ n < 2 ^ 63 ∧ Q (.int n) H') E0) (gLenO cn gw) := fun β S w bs vs R Q hR hb hg hk => by
  match bs, hg, hb with
  | [b], hg, hb =>
    obtain ⟨v, rfl, h1⟩ := hb.one
    obtain ⟨a, dx, fs, rfl, h2⟩ := isObj_ok hR h1 hg.1
    exact ⟨a, dx, fs, rfl, h2, hw β S w [b] [.ref a] _ _ E0 hR (.cons h1 .nil) hg.2 fun c S' w' u h R' l' d => by
      obtain ⟨n, rfl, ⟨n0, n1⟩, h3⟩ := asInt_ok h d
      exact ⟨n, rfl, n0, n1, hk _ S' w' (.int n) h3 R' l' (.int n)⟩⟩
def gReprO (cn : Str) (gw : GW) : GL := fun bs S R => match bs with
  | [b] => isObj cn b S ∧ gw [b] S noX (asStr fun n S2 => R (.fz (.str n)) S2)
  | _ => False
theorem snd_reprO {K : PySem.W.Frag} (hw : SndW0 K W [] gw) : SndL K (fun xs H Q => ∃ a dx fs, xs = [.ref a] ∧ H a = some (.ins (clsAt K cn) dx fs) ∧ spP K W ([.ref a] ++ []) H (fun v H' => ∃ y : Str, v = .str y ∧ Q (.str y) H') E0) (gReprO cn gw) := fun β S w bs vs R Q hR hb hg hk => by
  match bs, hg, hb with
  | [b], hg, hb =>
    obtain ⟨v, rfl, h1⟩ := hb.one
    obtain ⟨a, dx, fs, rfl, h2⟩ := isObj_ok hR h1 hg.1
    refine ⟨a, dx, fs, rfl, h2, hw β S w [b] [.ref a] _ _ E0 hR (.cons h1 .nil) hg.2 fun c S' w' u h R' l' d => ?_⟩
    cases c with
    | mt k => exact (show False from h).elim
    | fz x =>
      have d : Den K w'.F x u := d
      cases d with
      | str y => exact ⟨y, rfl, hk _ S' w' (.str y) h R' l' (.str y)⟩
      | _ => exact (show False from h).elim
end
/-! ### the bag goes along, the other cells stay -/
section
variable {K : PySem.W.Frag} {β : Base} {S S' : Sto} {w w' : Wd}
theorem Rel.withBag (R : Rel K β S w) (h : S[0]? = some .bag) : Rel K (PL.reb [.bag] w) [.bag] w := by
  have L := R.live 0 .bag h (by intro z; cases z)
  refine ⟨R.fr, fun a o h => (reb_some h).1, .refl _, fun a o h => .inl h, fun _ _ => rfl, Nat.le_refl _, fun k c hk hd => ?_, fun i j ci cj hi hj _ _ _ => ?_⟩
  · cases k with
    | zero =>
      cases hk
      exact ⟨L.nf, reb_live (S := [.bag]) (k := 0) (c := .bag) rfl (by intro z; cases z), L.ok⟩
    | succ k => cases hk
  · cases i with
    | zero => cases j with
      | zero => rfl
      | succ j => cases hj
    | succ i => cases hi
theorem Rel.unbag (R : Rel K β S w) (h : S[0]? = some .bag) (R' : Rel K (PL.reb [.bag] w) S' w') (h' : S'[0]? = some .bag) : Rel K β S ⟨w.m, w'.F, w'.H⟩ ∧ Later S.length w S.length ⟨w.m, w'.F, w'.H⟩ := by
  have L0 := R.live 0 .bag h (by intro z; cases z)
  have hb0 : (PL.reb [.bag] w).H0 (w.m 0) = none := reb_live (S := [.bag]) (k := 0) (c := .bag) rfl (by intro z; cases z)
  have keep : ∀ a o, a ≠ w.m 0 → w.H a = some o → w'.H a = some o := fun a o n e => R'.keep a o (reb_of e fun k c hk _ e2 => by
    cases k with
    | zero => exact n e2.symm
    | succ k => cases hk)
  have hn : ∀ {a : Addr}, (PL.reb [.bag] w).H0 a = none → w.H a = none ∨ a = w.m 0 := fun {a} q => by
    by_cases e : a = w.m 0
    · exact .inr e
    · left
      cases z : w.H a with
      | none => rfl
      | some o =>
        rw [reb_of z fun k c hk _ e2 => by
          cases k with
          | zero => exact e e2.symm
          | succ k => cases hk] at q
        cases q
  have em : w'.m 0 = w.m 0 := R'.m0 0 Nat.zero_lt_one
  have lt : Later S.length w S.length ⟨w.m, w'.F, w'.H⟩ := ⟨Nat.le_refl _, fun _ _ => rfl, R'.f0⟩
  refine ⟨⟨R'.fr, fun a o q => keep a o (fun e => by rw [e, L0.n0] at q; cases q) (R.keep _ _ q), R.f0.trans R'.f0, fun a o q => ?_, R.m0, R.n0, fun k c hk hd => ?_, R.inj⟩, lt⟩
  · rcases R'.fn a o q with z | z
    · exact R.fn a o z
    · rcases hn z with z | z
      · exact .inr (R.keep.free z)
      · rw [z]; exact .inr L0.n0
  · have L := R.live k c hk hd
    by_cases e : k = 0
    · subst e
      rw [h] at hk
      cases hk
      have L' := R'.live 0 .bag h' (by intro z; cases z)
      rw [em] at L'
      refine ⟨L'.nf, L.n0, ?_⟩
      obtain ⟨q, cells, i, b, s, c, h1, h2, h3⟩ := (show ∃ (q : Addr) (cells : List Int) (i : Nat) (b s c : Int), w'.H (w.m 0) = some (.lst [.ref q, .int (i : Nat), .int b, .int s, .int c]) ∧ w'.F q = some (.lst (cells.map V.int)) ∧ cells.length ≤ 63 ∧ i ≤ cells.length ∧ 0 ≤ b ∧ 0 ≤ s ∧ s < 2147483579 from L'.ok)
      exact ⟨q, cells, i, b, s, c, h1, h2, h3⟩
    · have ne : w.m k ≠ w.m 0 := fun z => e (R.inj k 0 c .bag hk h hd (by intro z; cases z) z)
      obtain ⟨o, ho⟩ := L.ok.some hd
      refine ⟨?_, L.n0, L.ok.later lt ((keep _ _ ne ho).trans ho.symm)⟩
      cases q : w'.F (w.m k) with
      | none => rfl
      | some u =>
        rcases R'.fn _ _ q with z | z
        · have z : w.F (w.m k) = some u := z
          rw [L.nf] at z; cases z
        · rcases hn z with z | z
          · rw [z] at ho; cases ho
          · exact absurd z ne
/-- arguments of which the bag may be one -/
def bagArgs : List B → Prop
  | [] => True
  | .fz _ :: bs => bagArgs bs
  | .mt 0 :: bs => bagArgs bs
  | .mt (_ + 1) :: _ => False
theorem DenBL.bag {n : Nat} {w : Wd} : ∀ {bs : List B} {vs : List V}, bagArgs bs → DenBL K n w bs vs → DenBL K 1 w bs vs
  | [], _, _, .nil => .nil
  | .fz _ :: _, _, h, .cons a t => .cons (b := .fz _) a (DenBL.bag h t)
  | .mt 0 :: _, _, h, .cons a t => .cons (b := .mt 0) ⟨Nat.zero_lt_one, a.2⟩ (DenBL.bag h t)
  | .mt (_ + 1) :: _, _, h, _ => (show False from h).elim
/-- a call that draws: what comes is for good -/
def gBag (W : FW) (dds : List D) : GW := fun bs S _ R => S[0]? = some .bag ∧ bagArgs bs ∧ W (bs ++ dds.map B.fz) [.bag] noX fun b S1 => S1[0]? = some .bag ∧ match b with
  | .fz d => R (.fz d) S
  | .mt _ => False
theorem snd_bag0 {W : FW} {dds : List D} {dvs : List V} (hd : Paired (fun d v => ∀ F, Den K F d v) dds dvs) : SndW0 K W dvs (gBag W dds) := fun β S w bs vs R Q E hR hb hg hk => by
  obtain ⟨h0, h1, h⟩ := hg
  refine ⟨_, [.bag], w, _, _, rfl, hR.withBag h0, (hb.bag h1).app (DenL.bz (DenL.den hd)), h, fun b S' w' v q R' l' d => ?_⟩
  obtain ⟨q0, q⟩ := q
  cases b with
  | mt _ => exact (show False from q).elim
  | fz x =>
    obtain ⟨R2, l2⟩ := hR.unbag h0 R' q0
    exact hk _ S ⟨w.m, w'.F, w'.H⟩ v q R2 l2 d
end
/-! ### *e among the arguments -/
section
variable {X : Cx} {E : XK} {e : Expr} {es : List Expr} {fe : FE} {fr : FA} {p : Pos}
def aStar (fe : FE) (fr : FA) : FA := fun Γ S Rx R => fe Γ S Rx fun b S1 => seqD b S1 fun ds => fr Γ S1 Rx fun bs S2 => R (ds.map .fz ++ bs) S2
theorem xa_star (ha : XE X E e fe) (hr : XA X E es fr) (hs : starEach (.Starred e p :: es) X.env = (true, eval e X.env) :: starEach es X.env := by rfl) : XA X E (.Starred e p :: es) (aStar fe fr) :=
  let ⟨_, q, s⟩ := ha.ex; let ⟨_, u, t⟩ := hr.ex
  ⟨_, StX.pa_star q u hs, fun β S w σ Γ Rx R Q hR hG hf hk hx => s β S w σ Γ Rx _ _ hR hG hf (fun b S1 w1 v h1 R1 l1 d1 => by
    obtain ⟨a, ds, vs, rfl, h2, h3, h4⟩ := seqD_ok R1 d1 h1
    exact ⟨a, vs, rfl, h2.symm, t β S1 w1 σ Γ Rx _ _ R1 (hG.later l1) h4 (fun bs S2 w2 us h5 R2 l2 d2 => hk _ S2 w2 _ h5 R2 (l1.trans l2) ((DenL.bz (n := S2.length) (w := w2) (DenL.mono l2.F h3)).app d2)) (hx.later l1)⟩) hx⟩
end
end PL
/-! for, each turn with the cells of its start alone (own work) -/
namespace PL
open PySem L2
def belowB (n : Nat) : B → Bool
  | .fz _ => true
  | .mt k => decide (k < n)
def belowO (n : Nat) : Option B → Bool
  | none => true
  | some b => belowB n b
def belowC (n : Nat) : Cell → Bool
  | .lst bs => bs.all (belowB n)
  | .dic bs => bs.all fun p => belowB n p.2
  | .ins _ bs => bs.all fun p => belowB n p.2
  | .bag => true
  | .dead => true
  | .kset _ _ _ _ => true
  | .lams _ => true
  | .tab _ _ => true
def shut (n : Nat) (Γ : Ev) (S : Sto) : Bool := Γ.all (belowO n) && S.all (belowC n)
section
variable {K : PySem.W.Frag} {β : Base} {S : Sto} {w : Wd}
theorem DenB.blw {m n : Nat} {b : B} {v : V} (h : DenB K m w b v) (hb : belowB n b = true) : DenB K n w b v := by
  cases b with
  | fz d => exact h
  | mt k => exact ⟨of_decide_eq_true hb, h.2⟩
theorem DenBL.blw {m n : Nat} : ∀ {bs : List B} {vs : List V}, DenBL K m w bs vs → bs.all (belowB n) = true → DenBL K n w bs vs
  | _, _, .nil, _ => .nil
  | b :: bs, _, .cons h t, hb => by
    have hb : (belowB n b && bs.all (belowB n)) = true := hb
    rw [Bool.and_eq_true] at hb
    exact .cons (h.blw hb.1) (DenBL.blw t hb.2)
theorem DenBK.blw {m n : Nat} : ∀ {bs : List (Key × B)} {vs : List (Key × V)}, DenBK K m w bs vs → (bs.all fun p => belowB n p.2) = true → DenBK K n w bs vs
  | _, _, .nil, _ => .nil
  | (k, b) :: bs, _, .cons h t, hb => by
    have hb : (belowB n b && bs.all fun p => belowB n p.2) = true := hb
    rw [Bool.and_eq_true] at hb
    exact .cons (h.blw hb.1) (DenBK.blw t hb.2)
theorem DenBF.blw {m n : Nat} : ∀ {bs : List (Str × B)} {vs : List (Str × V)}, DenBF K m w bs vs → (bs.all fun p => belowB n p.2) = true → DenBF K n w bs vs
  | _, _, .nil, _ => .nil
  | (k, b) :: bs, _, .cons h t, hb => by
    have hb : (belowB n b && bs.all fun p => belowB n p.2) = true := hb
    rw [Bool.and_eq_true] at hb
    exact .cons (h.blw hb.1) (DenBF.blw t hb.2)
theorem CellOk.blw {m n : Nat} {a : Addr} {c : Cell} (h : CellOk K m w a c) (hb : belowC n c = true) : CellOk K n w a c := by
  cases c with
  | lst bs => obtain ⟨vs, h1, h2⟩ := h; exact ⟨vs, h1, h2.blw hb⟩
  | dic bs => obtain ⟨vs, h1, h2⟩ := h; exact ⟨vs, h1, h2.blw hb⟩
  | ins C bs => obtain ⟨dx, vs, h1, h2⟩ := h; exact ⟨dx, vs, h1, h2.blw hb⟩
  | bag => exact h
  | dead => trivial
  | kset _ _ _ _ => exact h
  | lams _ => exact h
  | tab _ _ => exact h
theorem take_got {α : Type} {xs : List α} {n k : Nat} {x : α} (h : (xs.take n)[k]? = some x) : xs[k]? = some x ∧ k < n := by
  have hl : k < (xs.take n).length := get_lt h
  rw [List.length_take] at hl
  have hn : k < n := Nat.lt_of_lt_of_le hl (Nat.min_le_left _ _)
  rw [List.getElem?_take_of_lt hn] at h
  exact ⟨h, hn⟩
theorem Rel.cut (R : Rel K β S w) {n : Nat} (hn : n ≤ S.length) (h0 : β.n0 ≤ n) (hs : (S.take n).all (belowC n) = true) : Rel K β (S.take n) w := by
  have hl : (S.take n).length = n := by rw [List.length_take]; exact Nat.min_eq_left hn
  refine ⟨R.fr, R.keep, R.f0, R.fn, R.m0, by rw [hl]; exact h0, fun k c h hd => ?_, fun i j ci cj hi hj di dj e => R.inj i j ci cj (take_got hi).1 (take_got hj).1 di dj e⟩
  have L := R.live k c (take_got h).1 hd
  rw [hl]
  exact ⟨L.nf, L.n0, L.ok.blw (List.all_eq_true.mp hs c (List.mem_of_getElem? h))⟩
theorem EvOk.drop {n m : Nat} {Γ : Ev} {σ : St} (h : EvOk K m w Γ σ) (is : List Nat) (hb : (EvWipe Γ is).all (belowO n) = true) : EvOk K n w (EvWipe Γ is) σ := by
  have go : ∀ is : List Nat, EvOk K m w (EvWipe Γ is) σ := fun is => by
    induction is with
    | nil => exact h
    | cons i is ih =>
      refine ⟨by show ((EvWipe Γ is).set i none).length = _; rw [List.length_set]; exact ih.len, fun j b e => ?_⟩
      have e : ((EvWipe Γ is).set i none)[j]? = some (some b) := e
      by_cases hj : j = i
      · subst hj
        have hl := get_lt e
        rw [List.length_set] at hl
        rw [List.getElem?_set_self hl] at e
        cases e
      · rw [List.getElem?_set_ne (fun z => hj z.symm)] at e
        exact ih.at_ j b e
  refine ⟨(go is).len, fun j b e => ?_⟩
  obtain ⟨v, h1, h2⟩ := (go is).at_ j b e
  exact ⟨v, h1, h2.blw (List.all_eq_true.mp hb _ (List.mem_of_getElem? e))⟩
end
def forC (g : FG) (f : FS) (is : List Nat) (n : Nat) : List D → Ev → Sto → EndsP → Prop
  | [], Γ, S, P => shut n (EvWipe Γ is) (S.take n) = true ∧ P.nx (EvWipe Γ is) (S.take n)
  | d :: ds, Γ, S, P => shut n (EvWipe Γ is) (S.take n) = true ∧ g (.fz d) (EvWipe Γ is) (S.take n) fun Γ1 S1 => f Γ1 S1 { P with nx := fun Γ2 S2 => forC g f is n ds Γ2 S2 P, ct := fun Γ2 S2 => forC g f is n ds Γ2 S2 P, bk := P.nx }
def sForC (is : List Nat) (fi : FI) (g : FG) (f : FS) : FS := fun Γ S P => fi Γ S P.xe fun ds S1 => forC g f is S1.length ds Γ S1 P
section
variable {X : Cx} {E : XK} {tg iter : Expr} {body : List Stmt} {pos : Pos}
theorem xs_forC {fi : FI} {g : FG} {f : FS} {js : List Nat} (is : List Nat) (hp : PassesOwn (model X.prog X.w) X.A X.env X.xe) (hc : X.calm = true) (hi : XI X E tg iter fi) (hg : XG X tg g js) (hb : XSs X E body f)
    (hs : ∀ x, foldedSetIterable iter X.env x = pure x := by intro _; rfl) : XS X E (.For tg iter body [] pos) (sForC is fi g f) :=
  let ⟨_, o, r⟩ := hi.ex; let ⟨_, p, s⟩ := hg.ex; let ⟨_, q, t⟩ := hb.ex
  ⟨_, ps_for hp hc o p q hs, fun β S w σ Γ P De hR hG hf hk => r β S w σ Γ _ _ _ hR hG hf (fun ds S1 w1 J h1 R1 l1 _ it => by
    refine ⟨fun i m σ H => m = ds.length - i ∧ i ≤ ds.length ∧ ∃ Γ S w, w.H = H ∧ Rel X.K β S w ∧ EvOk X.K S.length w Γ σ ∧ Later S1.length w1 S.length w ∧ forC g f is S1.length (ds.drop i) Γ S P, ⟨ds.length, rfl, Nat.zero_le _, Γ, S1, w1, rfl, R1, hG.later l1, .refl _ _, h1⟩, ?_⟩
    rintro i m σ _ ⟨rfl, hi, Γ, S, w, rfl, hR, hG, l, h⟩
    have cut : ∀ {z : Prop}, shut S1.length (EvWipe Γ is) (S.take S1.length) = true ∧ z → Rel X.K β (S.take S1.length) w ∧ EvOk X.K (S.take S1.length).length w (EvWipe Γ is) σ ∧ Later S1.length w1 (S.take S1.length).length w ∧ z := fun {z} ⟨hs, hz⟩ => by
      have hs : ((EvWipe Γ is).all (belowO S1.length) && (S.take S1.length).all (belowC S1.length)) = true := hs
      rw [Bool.and_eq_true] at hs
      have hl : (S.take S1.length).length = S1.length := by rw [List.length_take]; exact Nat.min_eq_left l.le
      exact ⟨hR.cut l.le R1.n0 hs.2, by rw [hl]; exact hG.drop is hs.1, by rw [hl]; exact ⟨Nat.le_refl _, l.m, l.F⟩, hz⟩
    cases hd : ds.drop i with
    | nil =>
      rw [hd] at h
      have hle : ds.length ≤ i := by
        have := congrArg List.length hd
        rw [List.length_drop] at this
        have z : ([] : List D).length = 0 := rfl
        omega
      obtain ⟨hR2, hG2, l2, h2⟩ := cut h
      exact .inl ⟨it.stop _ w hR2 l2 i hle, hk.nx _ _ w σ h2 hR2 hG2⟩
    | cons d r =>
      rw [hd] at h
      obtain ⟨hR, hG, l, h⟩ := cut h
      generalize S.take S1.length = S at hR hG l h
      generalize EvWipe Γ is = Γ at hG h
      obtain ⟨hx, hr⟩ := drop_at hd
      obtain ⟨go, y⟩ := it.go S w hR l i d hx
      have hlt := get_lt hx
      have again : ∀ Γ' S' (w' : Wd) σ', (Later S1.length w1 S'.length w' ∧ forC g f is S1.length r Γ' S' P) → Rel X.K β S' w' → EvOk X.K S'.length w' Γ' σ' → ∃ Γ2 S2 w2, w2.H = w'.H ∧ Rel X.K β S2 w2 ∧ EvOk X.K S2.length w2 Γ2 σ' ∧ Later S1.length w1 S2.length w2 ∧ forC g f is S1.length r Γ2 S2 P :=
        fun Γ' S' w' σ' ⟨q1, q2⟩ R' G' => ⟨Γ', S', w', rfl, R', G', q1, q2⟩
      refine .inr ⟨go, fun σ' H' => ∃ Γ2 S2 w2, w2.H = H' ∧ Rel X.K β S2 w2 ∧ EvOk X.K S2.length w2 Γ2 σ' ∧ Later S1.length w1 S2.length w2 ∧ forC g f is S1.length r Γ2 S2 P, fun σ' H' ⟨Γ2, S2, w2, q1, q2, q3, q4, q5⟩ => ⟨ds.length - (i + 1), by omega, rfl, hlt, Γ2, S2, w2, q1, q2, q3, q4, by rw [hr]; exact q5⟩, fun x H' hy => ?_⟩
      obtain ⟨w2, rfl, R2, l2, _, d2⟩ := y x H' hy
      refine s β S w2 σ Γ (.fz d) x _ _ R2 (hG.later l2) d2 h fun Γ3 S3 w3 σ3 h3 R3 l3 G3 _ => ?_
      have back : ∀ {S' : Sto} {w' : Wd}, Rel X.K (reb S3 w3) S' w' → Rel X.K β S' w' ∧ Later S1.length w1 S'.length w' := fun R' => by
        obtain ⟨a1, a2⟩ := R3.unreb R'
        exact ⟨a1, ((l.trans l2).trans l3).trans a2⟩
      exact t (reb S3 w3) S3 w3 σ3 Γ3 _ _ R3.reb G3 h3 ⟨fun Γ' S' w' σ' q R' G' => again Γ' S' w' σ' ⟨(back R').2, q⟩ (back R').1 G', fun b S' w' v q R' d => hk.rt b S' w' v q (back R').1 d,
        fun C fs S' w' d vs q R' z1 z2 => hk.xe C fs S' w' d vs q (back R').1 z1 z2, fun Γ' S' w' σ' q R' G' => hk.nx Γ' S' w' σ' q (back R').1 G', fun Γ' S' w' σ' q R' G' => again Γ' S' w' σ' ⟨(back R').2, q⟩ (back R').1 G'⟩) hk.x⟩
end
/-- a loop, by what each turn keeps -/
theorem forC_inv {g : FG} {f : FS} {is : List Nat} {n : Nat} (I : Ev → Sto → Prop) {ds : List D} {Γ : Ev} {S : Sto} {P : EndsP}
    (hc : ∀ Γ S, I Γ S → shut n (EvWipe Γ is) (S.take n) = true) (h0 : I Γ S)
    (hs : ∀ d ∈ ds, ∀ Γ S, I Γ S → ∀ nx : Ev → Sto → Prop, (∀ Γ S, I Γ S → nx Γ S) → g (.fz d) (EvWipe Γ is) (S.take n) fun Γ1 S1 => f Γ1 S1 { P with nx := nx, ct := nx, bk := P.nx })
    (he : ∀ Γ S, I Γ S → P.nx (EvWipe Γ is) (S.take n)) : forC g f is n ds Γ S P := by
  induction ds generalizing Γ S with
  | nil => exact ⟨hc Γ S h0, he Γ S h0⟩
  | cons d ds ih =>
    exact ⟨hc Γ S h0, hs d List.mem_cons_self Γ S h0 _ fun Γ' S' h => ih h fun d' hd' => hs d' (List.mem_cons_of_mem _ hd')⟩
/-- .. where each turn's end is known by its cut -/
theorem forC_cut {g : FG} {f : FS} {is : List Nat} {n : Nat} {Γ0 : Ev} {S0 : Sto} {ds : List D} {Γ : Ev} {S : Sto} {P : EndsP}
    (hc : shut n Γ0 S0 = true) (h0 : EvWipe Γ is = Γ0 ∧ S.take n = S0)
    (hs : ∀ d ∈ ds, ∀ nx : Ev → Sto → Prop, (∀ Γ S, EvWipe Γ is = Γ0 → S.take n = S0 → nx Γ S) → g (.fz d) Γ0 S0 fun Γ1 S1 => f Γ1 S1 { P with nx := nx, ct := nx, bk := P.nx })
    (he : P.nx Γ0 S0) : forC g f is n ds Γ S P :=
  forC_inv (fun Γ S => EvWipe Γ is = Γ0 ∧ S.take n = S0) (fun _ _ ⟨e1, e2⟩ => by rw [e1, e2]; exact hc) h0
    (fun d hd _ _ ⟨e1, e2⟩ nx hn => by rw [e1, e2]; exact hs d hd nx fun Γ S e1 e2 => hn Γ S ⟨e1, e2⟩) fun _ _ ⟨e1, e2⟩ => by rw [e1, e2]; exact he
end PL
namespace PL
open PySem L2
/-- a call whose list is for good from its return on -/
def gPureZ (W : FW) (dds : List D) : List B → Sto → XP → RB → Prop := fun bs S Rx R => asDs bs fun ds => W ((ds ++ dds).map B.fz) [] (fun C fs _ => Rx C fs S) fun b S1 => match b with
  | .mt j => (match S1[j]? with
    | some (.lst cs) => asDs cs fun es => R (.fz (.lst es)) S
    | _ => False)
  | .fz d => R (.fz d) S
theorem snd_pureZ0 {K : PySem.W.Frag} {W : FW} {dds : List D} {dvs : List V} (hd : Paired (fun d v => ∀ F, Den K F d v) dds dvs) : SndW0 K W dvs (gPureZ W dds) := fun β S w bs vs R Q E hR hb hg hk => by
  obtain ⟨ds, h, dl⟩ := asDs_den hg hb
  refine ⟨_, [], w, _, _, rfl, hR.drop, (DenL.app dl (DenL.den hd)).bz, h, fun b S' w' v q R' l' d => ?_⟩
  cases b with
  | fz x =>
    obtain ⟨R2, l2, fr⟩ := hR.undrop R'
    exact hk _ S ⟨w.m, w'.F, w'.H⟩ v q R2 l2 d
  | mt j =>
    obtain ⟨R2, l2, fr⟩ := hR.undrop R'
    obtain ⟨_, rfl⟩ := (show j < S'.length ∧ v = .ref (w'.m j) from d)
    obtain ⟨cs, e1, h1⟩ := cell_lst (f := fun cs => asDs cs fun es => R (.fz (.lst es)) S) q
    obtain ⟨us, h3, h4⟩ := R'.cellL e1
    obtain ⟨es, rfl, h2⟩ := asDs_eq h1
    have L := R'.live j _ e1 (by intro z; cases z)
    have wn := fr j _ e1 (by intro z; cases z)
    obtain ⟨R3, l3⟩ := R2.adoptF (D := w'.m j) (o := .lst us) h3 L.nf (hR.keep.free wn) fun k c h1 h2 e => by
      obtain ⟨o, ho⟩ := (hR.live k c h1 h2).ok.some h2
      have e : w.m k = w'.m j := e
      rw [e, wn] at ho
      cases ho
    exact hk _ S ⟨w.m, upd w'.F (w'.m j) (.lst us), w'.H⟩ (.ref (w'.m j)) h2 R3 (l2.trans l3) (Den.lst upd_same (DenL.mono l3.F h4.fz))
end PL
/-! pure lemmas for laws' own goals (own work) -/
namespace PL
open PySem L2
theorem atI_nat {α : Type} {xs : List α} {d : Int} (h0 : 0 ≤ d) : atI xs d = xs[d.toNat]? := by
  unfold atI ixN
  rw [if_pos h0]
  by_cases h : d < xs.length
  · rw [if_pos h]; rfl
  · rw [if_neg h, List.getElem?_eq_none (by omega)]; rfl
theorem atI_in {α : Type} {xs : List α} {d : Int} (h0 : 0 ≤ d) (h1 : d < xs.length) : ∃ x ∈ xs, atI xs d = some x := by
  rw [atI_nat h0]
  have hl : d.toNat < xs.length := by omega
  exact ⟨xs[d.toNat], List.getElem_mem hl, List.getElem?_eq_getElem hl⟩
theorem optK_in {α : Type} {xs : List α} {d : Int} {k : α → Prop} (h0 : 0 ≤ d) (h1 : d < xs.length) (hk : ∀ x ∈ xs, k x) : optK (atI xs d) k := by
  obtain ⟨x, hx, e⟩ := atI_in h0 h1
  rw [e]
  exact hk x hx
theorem optK_at {α : Type} {xs : List α} {d : Int} {k : α → Prop} {x : α} (e : atI xs d = some x) (hk : k x) : optK (atI xs d) k := by
  rw [e]; exact hk
theorem cutA_to {α : Type} (xs : List α) {k : Int} (h0 : 0 ≤ k) : cutA xs none (some k) = xs.take k.toNat := by
  unfold cutA
  obtain ⟨n, rfl⟩ := Int.eq_ofNat_of_zero_le h0
  rw [HT.sIx_none, HT.sIx_nat, List.drop_zero, Nat.sub_zero, Int.toNat_natCast]
  by_cases h : n ≤ xs.length
  · rw [Nat.min_eq_left h]
  · rw [Nat.min_eq_right (by omega), List.take_of_length_le (by omega), List.take_of_length_le (by omega)]
theorem cutA_from {α : Type} (xs : List α) {k : Int} (h0 : 0 ≤ k) : cutA xs (some k) none = xs.drop k.toNat := by
  unfold cutA
  obtain ⟨n, rfl⟩ := Int.eq_ofNat_of_zero_le h0
  rw [HT.sIx_none, HT.sIx_nat, Int.toNat_natCast]
  by_cases h : n ≤ xs.length
  · rw [Nat.min_eq_left h, List.take_of_length_le (by rw [List.length_drop]; omega)]
  · rw [Nat.min_eq_right (by omega), List.drop_of_length_le (by omega), List.drop_of_length_le (by omega), List.take_nil]
theorem cutS_le (z : Str) (lo hi : Option Int) : (cutS z lo hi).length ≤ z.length := cutS_length z lo hi
/-- the two ways of a slice together are no longer than the whole -/
theorem cutS_two (z : Str) {k : Int} (h0 : 0 ≤ k) : (cutS z none (some k)).length + (cutS z (some k) none).length ≤ z.length := by
  obtain ⟨n, rfl⟩ := Int.eq_ofNat_of_zero_le h0
  have e0 : z.cps.toList.length = z.length := Array.length_toList
  have e1 : (cutS z none (some (n : Int))).length = (z.cps.toList.take (min n z.length)).length := by
    show ((z.cps.toList.drop (HT.sIx z.length 0 none)).take (HT.sIx z.length z.length (some (n : Int)) - HT.sIx z.length 0 none)).toArray.size = _
    rw [HT.sIx_none, HT.sIx_nat, List.drop_zero, Nat.sub_zero, List.size_toArray]
  have e2 : (cutS z (some (n : Int)) none).length ≤ (z.cps.toList.drop (min n z.length)).length := by
    show ((z.cps.toList.drop (HT.sIx z.length 0 (some (n : Int)))).take (HT.sIx z.length z.length none - HT.sIx z.length 0 (some (n : Int)))).toArray.size ≤ _
    rw [HT.sIx_nat, List.size_toArray, List.length_take]
    exact Nat.min_le_right _ _
  rw [List.length_take, e0] at e1
  rw [List.length_drop, e0] at e2
  omega
/-- a comprehension, by what each turn keeps -/
theorem lcW_inv {g : FG} {ft : FT} {fe : FE} {Γ0 : Ev} {S : Sto} {R : List B → Sto → Prop} (I : Nat → List B → Prop) {ds : List D} {n : Nat} {acc : List B} (h0 : I n acc)
    (hs : ∀ d ∈ ds, ∀ i acc, I i acc → ∀ nx : List B → Sto → Prop, (∀ acc', I (i + 1) acc' → nx acc' S) → g (.fz d) Γ0 S fun Γ1 S1 => ft Γ1 S1 noX fun k S2 => cnd k (fe Γ1 S2 noX fun b S3 => nx (acc ++ [b]) S3) (nx acc S2))
    (hR : ∀ acc, I (n + ds.length) acc → R acc S) : lcW g ft fe Γ0 ds acc S R := by
  induction ds generalizing n acc with
  | nil => exact hR acc h0
  | cons d ds ih =>
    refine hs d List.mem_cons_self n acc h0 (fun acc' S' => lcW g ft fe Γ0 ds acc' S' R) fun acc' h => ih h (fun d' hd' => hs d' (List.mem_cons_of_mem _ hd')) fun a ha => hR a ?_
    have e : n + (d :: ds).length = n + 1 + ds.length := by rw [List.length_cons]; omega
    rw [e]; exact ha
/-- .. each turn's value known -/
theorem lcW_vals {g : FG} {ft : FT} {fe : FE} {Γ0 : Ev} {S : Sto} {R : List B → Sto → Prop} (C : B → Prop) {ds : List D}
    (hs : ∀ d ∈ ds, ∀ (acc : List B) (nx : List B → Sto → Prop), (∀ b, C b → nx (acc ++ [b]) S) → g (.fz d) Γ0 S fun Γ1 S1 => ft Γ1 S1 noX fun k S2 => cnd k (fe Γ1 S2 noX fun b S3 => nx (acc ++ [b]) S3) (nx acc S2))
    (hR : ∀ bs : List B, bs.length = ds.length → (∀ b ∈ bs, C b) → R bs S) : lcW g ft fe Γ0 ds [] S R :=
  lcW_inv (fun i acc => acc.length = i ∧ ∀ b ∈ acc, C b) ⟨rfl, fun _ h => by cases h⟩
    (fun d hd i acc ⟨e, h⟩ nx hn => hs d hd acc nx fun b hb => hn _ ⟨by rw [List.length_append]; exact congrArg (· + 1) e, fun c hc => by
      rcases List.mem_append.mp hc with q | q
      · exact h c q
      · cases List.mem_singleton.mp q; exact hb⟩)
    fun acc ⟨e, h⟩ => hR acc (e.trans (Nat.zero_add _)) h
/-- a list of B of texts -/
theorem strs_of {C : Str → Prop} : ∀ {bs : List B}, (∀ b ∈ bs, ∃ z, b = .fz (.str z) ∧ C z) → ∃ zs : List Str, bs = zs.map (fun z => .fz (.str z)) ∧ ∀ z ∈ zs, C z
  | [], _ => ⟨[], rfl, fun _ h => by cases h⟩
  | b :: bs, h => by
    obtain ⟨z, rfl, hz⟩ := h b List.mem_cons_self
    obtain ⟨zs, rfl, hzs⟩ := strs_of (bs := bs) fun c hc => h c (List.mem_cons_of_mem _ hc)
    refine ⟨z :: zs, rfl, fun y hy => ?_⟩
    rcases List.mem_cons.mp hy with rfl | hy
    · exact hz
    · exact hzs y hy
theorem asDs_strs {zs : List Str} {k : List D → Prop} (h : k (zs.map .str)) : asDs (zs.map fun z => .fz (.str z)) k := by
  have := asDs_map (ds := zs.map D.str) (k := k) h
  rw [List.map_map] at this
  exact this
theorem asDs_intro {ds : List D} {bs : List B} {k : List D → Prop} (e : bs = ds.map .fz) (h : k ds) : asDs bs k := by
  subst e; exact asDs_map h
theorem asStrs_m {zs : List Str} {k : List Str → Prop} (h : k zs) : asStrs (zs.map .str) k := asStrs_map h
theorem sum_le {α : Type} (f : α → Nat) (m : Nat) : ∀ xs : List α, (∀ x ∈ xs, f x ≤ m) → (xs.map f).sum ≤ xs.length * m
  | [], _ => Nat.zero_le _
  | x :: xs, h => by
    have h1 := h x List.mem_cons_self
    have h2 := sum_le f m xs fun y hy => h y (List.mem_cons_of_mem _ hy)
    rw [List.map_cons, List.sum_cons, List.length_cons, Nat.add_mul, Nat.one_mul]
    omega
end PL
namespace PL
open PySem L2
theorem pyL_strs : ∀ zs : List Str, pyL (zs.map .str) = some (zs.map .str)
  | [] => rfl
  | z :: zs => by
    show (match (D.str z).py, pyL (zs.map .str) with
      | some d, some ds => some (d :: ds)
      | _, _ => none) = _
    rw [pyL_strs zs]
    rfl
/-- a text of true code points -/
def okS (z : Str) : Prop := PyData.strOk z = true
instance (z : Str) : Decidable (okS z) := inferInstanceAs (Decidable (PyData.strOk z = true))
theorem okS_iff {z : Str} : okS z ↔ ∀ c ∈ z.cps.toList, c < 0x110000 := by
  unfold okS PyData.strOk
  rw [← Array.all_toList, List.all_eq_true]
  exact ⟨fun h c hc => of_decide_eq_true (h c hc), fun h c hc => decide_eq_true (h c hc)⟩
theorem okS_app {a b : Str} (ha : okS a) (hb : okS b) : okS (a ++ b) := by
  rw [okS_iff] at ha hb ⊢
  rw [Str.cps_append, Array.toList_append]
  intro c hc
  rcases List.mem_append.mp hc with h | h
  · exact ha c h
  · exact hb c h
theorem okS_cut {a : Str} (ha : okS a) (lo hi : Option Int) : okS (cutS a lo hi) := by
  rw [okS_iff] at ha ⊢
  intro c hc
  have hc : c ∈ (a.cps.toList.drop (HT.sIx a.length 0 lo)).take (HT.sIx a.length a.length hi - HT.sIx a.length 0 lo) := hc
  exact ha c (List.mem_of_mem_drop (List.mem_of_mem_take hc))
theorem okS_one {a : Str} (ha : okS a) {c : Nat} (hc : c ∈ a.cps.toList) : okS ⟨#[c]⟩ := by
  rw [okS_iff] at ha ⊢
  intro d hd
  have hd : d ∈ [c] := hd
  rw [List.mem_singleton] at hd
  rw [hd]
  exact ha c hc
theorem okS_join {sep : Str} (hs : okS sep) : ∀ {zs : List Str}, (∀ z ∈ zs, okS z) → okS (Txt.join sep zs) := by
  have go : ∀ zs : List Str, (∀ z ∈ zs, okS z) → okS (Str.join sep zs) := by
    intro zs
    induction zs with
    | nil => intro _; exact (by decide +kernel : okS Str.empty)
    | cons x xs ih =>
      intro h
      have hx := h x List.mem_cons_self
      have hxs := ih fun y hy => h y (List.mem_cons_of_mem _ hy)
      cases xs with
      | nil => exact hx
      | cons y ys => exact okS_app (okS_app hx hs) hxs
  intro zs h
  show okS (Builtin.Str.glued sep zs)
  rw [StrLaws.glued_eq_join]
  exact go zs h
theorem lay_strs : ∀ zs : List Str, (∀ z ∈ zs, okS z) → PyData.canLayAll0 (zs.map .str) = true
  | [], _ => by simp [PyData.canLayAll0]
  | z :: zs, h => by
    have h1 : PyData.strOk z = true := h z List.mem_cons_self
    have ih := lay_strs zs fun y hy => h y (List.mem_cons_of_mem _ hy)
    simp only [List.map_cons, PyData.canLayAll0, ih, Bool.and_true, PyData.canLay0, h1]
/-- a join's length -/
theorem join_len (sep : Str) : ∀ zs : List Str, (Txt.join sep zs).length ≤ (zs.map fun z => z.length).sum + zs.length * sep.length := by
  have go : ∀ zs : List Str, (Str.join sep zs).length ≤ (zs.map fun z => z.length).sum + zs.length * sep.length := by
    intro zs
    induction zs with
    | nil => exact Nat.zero_le _
    | cons x xs ih =>
      cases xs with
      | nil => simp [Str.join]
      | cons y ys =>
        show (x ++ sep ++ Str.join sep (y :: ys)).length ≤ _
        rw [Str.length_append, Str.length_append, List.map_cons, List.sum_cons, List.length_cons, Nat.add_mul, Nat.one_mul]
        omega
  intro zs
  show (Builtin.Str.glued sep zs).length ≤ _
  rw [StrLaws.glued_eq_join]
  exact go zs
theorem depth_strs : ∀ zs : List Str, PyData.depthAll (zs.map .str) ≤ 1
  | [] => by simp [PyData.depthAll]
  | z :: zs => by
    have ih := depth_strs zs
    simp only [List.map_cons, PyData.depthAll, PyData.depth]
    omega
theorem shaped_strs {zs : List Str} (h : ∀ z ∈ zs, okS z) : SeqAt.shaped (.list (zs.map .str)) = true := by
  show ((PyData.list (zs.map .str)).canLay0 && decide ((PyData.list (zs.map .str)).depth ≤ 64)) = true
  have h1 : (PyData.list (zs.map .str)).canLay0 = true := by
    rw [show (PyData.list (zs.map .str)).canLay0 = PyData.canLayAll0 (zs.map .str) by simp only [PyData.canLay0]]
    exact lay_strs zs h
  have h2 := depth_strs zs
  have h3 : (PyData.list (zs.map .str)).depth ≤ 64 := by
    simp only [PyData.depth]
    omega
  rw [h1, decide_eq_true h3]
  rfl
/-- a list of texts beside the empty one -/
theorem ne_nil_strs {ys : List Str} {k : D → Prop} (h : ∀ y ∈ ys, okS y) (hk : k (.bl (!ys.isEmpty))) : dEq true (.lst (ys.map .str)) (.lst []) k := by
  show match (D.lst (ys.map .str)).py, (D.lst []).py with
    | some d, some e => (SeqAt.shaped d = true ∧ SeqAt.shaped e = true) ∧ k (.bl (true != PyData.eqv d e))
    | _, _ => False
  have e1 : (D.lst (ys.map .str)).py = some (.list (ys.map .str)) := by
    show (pyL (ys.map .str)).map PyData.list = _
    rw [pyL_strs]
    rfl
  have e2 : (D.lst []).py = some (.list []) := rfl
  rw [e1, e2]
  refine ⟨⟨shaped_strs h, shaped_strs (zs := []) fun _ h => by cases h⟩, ?_⟩
  cases ys with
  | nil => simpa [PyData.eqv, PyData.eqvAll] using hk
  | cons y ys => simpa [PyData.eqv, PyData.eqvAll] using hk
end PL
namespace PL
open PySem L2
theorem vals_perm (is : List Nat) {zs : List V} {ws : List Value} (h : Vals zs ws) : Vals (permA is zs) (permA is ws) := by
  have go : ∀ (i : Nat) {zs : List V} {ws : List Value}, Vals zs ws → (zs[i]? = none ∧ ws[i]? = none) ∨ ∃ v u, zs[i]? = some v ∧ ws[i]? = some u ∧ RelV v u := by
    intro i
    induction i with
    | zero =>
      intro zs ws h
      cases h with
      | nil => exact .inl ⟨rfl, rfl⟩
      | cons a t => exact .inr ⟨_, _, rfl, rfl, a⟩
    | succ i ih =>
      intro zs ws h
      cases h with
      | nil => exact .inl ⟨rfl, rfl⟩
      | cons a t => exact ih t
  induction is with
  | nil => exact .nil
  | cons i is ih =>
    unfold permA at ih ⊢
    rcases go i h with ⟨e1, e2⟩ | ⟨v, u, e1, e2, r⟩
    · rw [List.filterMap_cons, List.filterMap_cons, e1, e2]; exact ih
    · rw [List.filterMap_cons, List.filterMap_cons, e1, e2]; exact .cons r ih
end PL
/-! super().__init__(..) as a method's first statement (own work) -/
namespace PL
open PySem L2 PySem.W NdefX ClX
/-- a method that holds its class in a cell -/
structure FunS (P : Program) (K : PySem.W.Frag) (x qual : Str) (st : Stmt) (cc cda D f : Addr) (fd : FuncData) : Prop where
  ex : ∃ (oc : Value) (od : Option Addr) (kV doc pm : Value) (an : Option Addr) (ct : Value) (osl : Array (Option Value)),
    fd = fnX x qual (defArgs st) (defBody st) (defScope st) [("__class__", cc)] .none kV doc pm an (.ref cda) ct ∧ K.lookup f = some ⟨oc, od, .func fd, osl⟩
  cd : PySem.W.codeIn K (.ref cda) qual = true
  rec_ : ∃ (ccl : Value) (cdd : Option Addr) (vs : Array Value) (ccs : Array (Option Value)) (file : Str) (tf : Tok), K.lookup cda = some ⟨ccl, cdd, .fields vs, ccs⟩ ∧ vs[2]? = some (.str file tf) ∧ ((P.main.file : Str) == file) = true
  cell : ∃ (cl : Value) (cld : Option Addr) (csl : Array (Option Value)), K.lookup cc = some ⟨cl, cld, .cell (some (.ref D)), csl⟩
  cls : PySem.W.isClsIn K D = true
  top : (P.main.scope.names.lookup ("super" : Str)).isSome = false
  sup : nsIn K mainGlobals "super" = some none
  opq : nsIn K cStatics "thirdparty.any" = some none
/-- what super() finds for an object of the class at C -/
structure SupAt (K : PySem.W.Frag) (C D f2 : Addr) : Prop where
  sub : mroIn K C (.ref D) = some true
  at_ : ks_superIn K C D "__init__" = some (some (.ref f2))
  ty : typeIn K (.ref f2) = some (.type "function")
  fi : fnIn K f2 = true
abbrev nfS (x qual : Str) (st : Stmt) (cc cda : Addr) : NF := ⟨x, qual, defArgs st, defBody st, defScope st, [("__class__", cc)], cda⟩
section
variable {P : Program} {w : World} {K : PySem.W.Frag} {mg : Str → Option Value} {base : Heap}
theorem fn_super {x qual : Str} {st : Stmt} {cc cda D f f2 : Addr} {fd : FuncData} {N ps : List Str} {k j : Nat} {sp sp2 : Sp} {p0 p1 apos cpos epos : Pos} {e : Expr} {es : List Expr} {rest : List Stmt} {ar : Arg} {pr : List Str}
    (F : FunS P K x qual st cc cda D f fd) (S : NScope N ps ["__class__"] (defScope st)) (hbd : defBody st = .Expr (.Call (.Attribute (.Call (.Name "super" p0) [] [] p1) "__init__" apos) (e :: es) [] cpos) epos :: rest)
    (hpar : ((defArgs st).posonlyargs ++ (defArgs st).args).head? = some ar) (har : ps = ar.arg :: pr) (hsc : (defScope st).names.lookup ("super" : Str) = some .globalImplicit)
    (hint : ∀ L : Addr, interactive (envF (nfS x qual st cc cda) f L) = false)
    (hsw : ∀ L : Addr, swapsWith (.Call (.Attribute (.Call (.Name "super" p0) [] [] p1) "__init__" apos) (e :: es) [] cpos) none epos.line (envF (nfS x qual st cc cda) f L) = pure false)
    (hev : ∀ L : Addr, ∃ pl : Sem Bool, eval (.Call (.Attribute (.Call (.Name "super" p0) [] [] p1) "__init__" apos) (e :: es) [] cpos) (envF (nfS x qual st cc cda) f L) = (do
      let ov ← attributeBase (.Call (.Name "super" p0) [] [] p1) "__init__" (envF (nfS x qual st cc cda) f L) (eval (.Call (.Name "super" p0) [] [] p1) (envF (nfS x qual st cc cda) f L))
      standAt apos.atName
      let (fv, first) ← holding [ov] (getMethod ov "__init__" pl)
      callWith cpos fv first (backTo cpos (starEach (e :: es) (envF (nfS x qual st cc cda) f L))) []))
    (hst : ∀ L : Addr, starEach (e :: es) (envF (nfS x qual st cc cda) f L) = (false, eval e (envF (nfS x qual st cc cda) f L)) :: starEach es (envF (nfS x qual st cc cda) f L))
    (hpl : ∀ L : Addr, (backTo cpos (starEach es (envF (nfS x qual st cc cda) f L))).any (·.1) = false)
    (F2 : FnR P w K mg base CX0 j f2 sp2) (hj : j ≤ k)
    (len : ∀ vs H Q E, sp vs H Q E → vs.length = ps.length)
    (hbody : ∀ (A : Around) (outer : List Env) (s : Shared) (H : Hp) (vs : List V) (Q : VK) (E : XK), Room k (A.deeper (envF (nfS x qual st cc cda) f s.heap.objs.size)) → sp vs H Q E →
      ∃ (ta : TA) (t : TS) (a C dx : Addr) (fs : List (Str × V)) (vr : List V), vs = .ref a :: vr ∧ H a = some (.ins C dx fs) ∧ SupAt K C D f2 ∧
        PA (ncx CX0 P w K mg base N (nfS x qual st cc cda) f A outer s H E).nox (e :: es) ta ∧ PSs (ncx CX0 P w K mg base N (nfS x qual st cc cda) f A outer s H E).nox rest t ∧
        ta (startF N vs [some (.ref D)]) H fun us H1 => sp2 (.ref a :: us) H1 (fun _ H2 => t { nx := fun _ H' => Q .non H', rt := Q } (startF N vs [some (.ref D)]) H2) E0) :
    FnOk P w K mg base CX0 (k + 1) f fd ps sp := by
  obtain ⟨oc, od, kV, doc, pm, an, ct, osl, rfl, lk⟩ := F.ex
  obtain ⟨ccl, cdd, cvs, ccs, file, tf, hcode, hvs, hfile⟩ := F.rec_
  obtain ⟨cl, cld, csl, hcell⟩ := F.cell
  refine ⟨len, fun A outer s H args us vs Q E hr e0 hb r hsp => ?_⟩
  have hl := len _ _ _ _ hsp
  have KX : K.In s.heap := e0.mod.kin.keeps fun b o e => (e0.bs b o e).1
  have lim : s.heap.NoLimit := e0.mod.nolimit.keeps fun b o e => (e0.bs b o e).1
  have hb' := hb
  refine codeAny_call_function hr.depth (KX _ _ lk) rfl S.co S.gen rfl (PySem.W.codeRec_of KX F.cd) (hb _ _ _ _ ?_)
  refine wpAny_newFunctionEnv S.nocell (fun ⟨n, _⟩ hy => S.par n (List.of_mem_zip hy).1) (fun h₁ hns hsb => ⟨lim.fresh _ hsb, ?_⟩) S.kind
  have kp : ∀ b o, s.heap.get? b = some o → h₁.get? b = some o := fun b o e => hsb.extBut b o (Nat.ne_of_lt (Heap.lt_size e)) (Heap.get?_push_of_some _ e)
  have cellHere : s.heap.IsCell cc (some (.ref D)) := ⟨_, KX _ _ hcell, rfl⟩
  have ccbase : base.get? cc = some ⟨cl, cld, .cell (some (.ref D)), csl⟩ := e0.mod.kin _ _ hcell
  have C : CellsAt (nfS x qual st cc cda).cl ["__class__"] [some (.ref D)] s.heap H := by
    refine ⟨rfl, fun y c h => ?_, fun y z c h1 h2 => ?_, fun i y h => ?_⟩
    · have hc : c = cc := by
        have h : List.lookup y [(("__class__" : Str), cc)] = some c := h
        unfold List.lookup at h
        split at h
        · exact (Option.some.inj h).symm
        · cases h
      subst hc
      exact ⟨(e0.bs _ _ ccbase).2, _, cellHere⟩
    · have g : ∀ {y : Str}, List.lookup y [(("__class__" : Str), cc)] = some c → y = "__class__" := fun {y} h => by
        unfold List.lookup at h
        split at h
        · rename_i q
          exact eq_of_beq q
        · cases h
      exact (g h1).trans (g h2).symm
    · cases i with
      | zero =>
        cases h
        exact ⟨cc, rfl, fun v hv => ⟨.ref D, by cases hv; rfl, cellHere⟩⟩
      | succ i => cases i <;> cases h
  have I : Inv (ncx CX0 P w K mg base N (nfS x qual st cc cda) f A outer s H E) [] (startF N vs [some (.ref D)]) H { s with heap := h₁, toks := s.toks + (ps.zip us).length } := inv_startN S hr.hd e0 hl r C hns kp
  have hmg : mg "super" = none := PySem.W.mg_none_of e0.mod.kin e0.mod.glob F.sup
  obtain ⟨ta, t, a, Co, dx, fs, vr, rfl, ha, hC, hPA, hPSs, hta⟩ := hbody A outer s H _ Q E (hr.deeper _) hsp
  have J : Inv (ncx CX0 P w K mg base N (nfS x qual st cc cda) f A outer s H E).nox [] (startF N (.ref a :: vr) [some (.ref D)]) H { s with heap := h₁, toks := s.toks + (ps.zip us).length } := I.wish _
  have ok := J.ok
  show codeAny _ _ (.func (defBody st) (ncx CX0 P w K mg base N (nfS x qual st cc cda) f A outer s H E).nox.env) _ _
  refine ks_codeAny_funcAt ?_
  refine ks_wpAt_mono (Q := SP (ncx CX0 P w K mg base N (nfS x qual st cc cda) f A outer s H E).nox [] { nx := fun _ H' => Q .non H', rt := Q }) (E := fun _ _ => False) ?_ (fun fl s' hs => ?_) (fun _ _ z => z.elim)
  · rw [hbd]
    have KX1 : K.In h₁ := fun b o e => kp _ _ (KX b o e)
    have glob1 : h₁.Ns mainGlobals mg := e0.mod.glob.keeps fun b o e => kp _ _ ((e0.bs b o e).1)
    obtain ⟨mb, hb1, hb2⟩ := e0.mod.blt
    have hmb : h₁.Ns builtinsNs mb := hb1.keeps fun b o e => kp _ _ ((e0.bs b o e).1)
    obtain ⟨oD, hD1, cdD, hD2⟩ : ∃ oD, h₁.get? D = some oD ∧ ∃ cd, oD.data = .cls cd := by
      have q := F.cls
      unfold PySem.W.isClsIn PySem.W.clsIn at q
      split at q
      · rename_i c d cd' sl ho
        exact ⟨_, KX1 _ _ ho, _, rfl⟩
      · cases q
    obtain ⟨pl, hev⟩ := hev s.heap.objs.size
    refine ks_wpAt_execs_cons (ks_wpAt_Expr_any (ks_wpAt_MethodCall (pl := pl) (ks_wpAt_super_base (f := f) (cc := cda) (ar := ar) hsc (S.frk _ List.mem_cons_self) rfl rfl (KX1 _ _ lk) rfl hpar rfl (KX1 _ _ hcode) rfl hvs hfile F.top ?_) hev) (hint _) (hsw _))
    refine ks_loadName_global S.kind hsc (Calls.loadGlobal_builtin glob1 hmg hmb ((hb2 _ (by decide)).trans (by decide +kernel)) ⟨rfl, ?_⟩)
    refine wpAny_loadName_free S.kind (S.frk _ List.mem_cons_self) rfl ⟨_, KX1 _ _ hcell, rfl⟩ ?_
    have hself : (ps.zip us).reverse.lookup ar.arg = some (.ref a) := by
      subst har
      cases r with
      | cons r0 rt =>
        obtain rfl := (show _ = Value.ref a from r0)
        exact zip_look (i := 0) (by
          have q := S.nd.sublist (List.take_sublist ((ar.arg :: pr).length + [Str.ofString "__class__"].length) N)
          rw [S.pre] at q
          exact (List.nodup_append.mp q).1) rfl rfl
    refine wpAny_loadName_local S.kind (S.par _ (har ▸ List.mem_cons_self)) hns hself ?_
    refine ks_wpAny_isType_cls hD1 hD2 ⟨rfl, ?_⟩
    obtain ⟨mA, O, _⟩ := ins_get J.hok ha
    obtain ⟨od2, IA, _⟩ := O.look
    refine ks_wpAny_call_super hD1 hD2 IA.at_ IA.cls (fun c q => ?_) (PySem.W.looks_mroIn KX1 hC.sub) (fun h2 hso k2 => ?_)
    · have z := IA.no
      unfold PySem.W.notCls at z
      rw [q] at z
      exact Bool.noConfusion z
    have KX2 : K.In h2 := fun b o q => k2 _ _ (KX1 b o q)
    obtain ⟨cdC, hcC, hal⟩ := Option.bind_eq_some_iff.mp hC.at_
    obtain ⟨of, hof, hofc⟩ : ∃ of, h2.get? f2 = some of ∧ of.cls = .type "function" := by
      have ht' : (K.lookup f2).map (·.cls) = some (.type "function") := hC.ty
      cases z : K.lookup f2 with
      | none => rw [z] at ht'; cases ht'
      | some of => rw [z] at ht'; exact ⟨of, KX2 _ _ z, Option.some.inj ht'⟩
    have J2 : Inv (ncx CX0 P w K mg base N (nfS x qual st cc cda) f A outer s H E).nox [] (startF N (.ref a :: vr) [some (.ref D)]) H { s with heap := h2, toks := s.toks + (ps.zip us).length } := J.kept (t' := s.toks + (ps.zip us).length) k2
    refine ks_wpAny_getMethod_super (l₀ := cdC.mro) hso (PySem.W.looks_opaque KX2 F.opq) (fun A Q E s k q => wpAny_bind ((PySem.W.looks_clsIn KX2 hcC) A _ E s k (wpAny_pure q))) rfl KX2 hal hof hofc (ks_ne KX1 IA hcC) (by decide) ?_
    have J3 := met_new (g := f2) (C := a) J2
    refine callwith_cm J3 (base_none J2 (Nat.le_refl _)) hC.fi (thn (hPA.run cpos _ _ _ H _ J3 hta) fun us2 s3 ⟨vs2, H2, J4, rv, q2⟩ => ⟨⟨pin_at J4, J4.kIn⟩, ?_⟩) (hst _) (hpl _)
    refine thn (run_cm F2 ((hr.deeper _).mono hj) (fun _ _ _ _ e _ _ z => (show False from z).elim) J4 rv q2) fun v s4 ⟨v2, H3, J5, rv2, q3⟩ => ?_
    exact wpAt_of_wpAny (hPSs.run [] _ _ H3 _ J5 q3)
  · have fin : ∀ {σ' : L2.St} {H' : Hp} {v : V} {u : Value}, Inv (ncx CX0 P w K mg base N (nfS x qual st cc cda) f A outer s H E).nox [] σ' H' s' → L2.RelV v u → Q v H' → CE outer P w H s Q u s' :=
      fun {σ' H' v u} J rv q => ⟨v, H', J.os, J.bare, J.base, J.hok, rv, q⟩
    cases fl with
    | ret u =>
      obtain ⟨v, σ', H', J, rv, q⟩ := hs
      exact fin J rv q
    | next =>
      obtain ⟨σ', H', J, q⟩ := hs
      exact fin (v := V.non) (u := Value.none) J rfl q
    | brk =>
      obtain ⟨_, _, _, q⟩ := hs
      exact False.elim q
    | cont =>
      obtain ⟨_, _, _, q⟩ := hs
      exact False.elim q
end
end PL
namespace PL
open PySem L2 PySem.W NdefX ClX
/-- what such a method does: the arguments, the base's method at the same object, the rest -/
def supW (n m : Nat) (dn : Str) (cs : List Str) (W2 : FW) (fa : FA) (fb : FS) : FW := fun bs S _ R => match bs with
  | .mt j :: br => (match S[j]? with
    | some (.ins c _) => c ∈ cs ∧ (.mt j :: br : List B).length = n ∧ fa ((.mt j :: br).map some ++ (some (.fz (.cls dn)) :: List.replicate m none)) S noX fun us S1 => W2 (.mt j :: us) S1 noX fun _ S2 => fb ((.mt j :: br).map some ++ (some (.fz (.cls dn)) :: List.replicate m none)) S2 { nx := fun _ S' => R (.fz .non) S', rt := R, xe := noX }
    | _ => False)
  | _ => False
theorem startF_ok {K : PySem.W.Frag} {n : Nat} {w : Wd} {bs : List B} {vs : List V} {N : List Str} {m : Nat} {dn : Str} {D : Addr} (hD : clsAt K dn = D) (h : DenBL K n w bs vs) (hN : N.length = bs.length + (1 + m)) :
    EvOk K n w (bs.map some ++ (some (.fz (.cls dn)) :: List.replicate m none)) (startF N vs [some (.ref D)]) := by
  have hlen := h.length
  unfold startF
  refine ⟨?_, fun i b e => ?_⟩
  · rw [List.length_append, List.length_append, List.length_append, List.length_map, List.length_map, List.length_cons, List.length_replicate, List.length_replicate]
    simp only [List.length_cons, List.length_nil]
    omega
  · by_cases hi : i < bs.length
    · rw [List.getElem?_append_left (by rw [List.length_map]; exact hi), List.getElem?_map] at e
      cases hb : bs[i]? with
      | none => rw [hb] at e; cases e
      | some b' =>
        rw [hb] at e
        cases e
        obtain ⟨v, h1, h2⟩ := h.get hb
        refine ⟨v, ?_, h2⟩
        rw [List.getElem?_append_left (by rw [List.length_map, ← hlen]; exact hi), List.getElem?_map, h1]
        rfl
    · rw [List.getElem?_append_right (by rw [List.length_map]; omega), List.length_map] at e
      cases hj : i - bs.length with
      | zero =>
        rw [hj] at e
        cases e
        refine ⟨.ref D, ?_, ?_⟩
        · rw [List.getElem?_append_right (by rw [List.length_map]; omega), List.length_map, ← hlen, hj]
          rfl
        · subst hD
          exact Den.cls dn
      | succ j =>
        rw [hj, List.getElem?_cons_succ, List.getElem?_replicate] at e
        split at e <;> cases e
section
variable {P : Program} {w : World} {K : PySem.W.Frag} {mg : Str → Option Value} {base : Heap}
theorem okSup {x qual : Str} {st : Stmt} {cc cda D f f2 : Addr} {fd : FuncData} {N ps : List Str} {k j n m : Nat} {p0 p1 apos cpos epos : Pos} {e : Expr} {es : List Expr} {rest : List Stmt} {ar : Arg} {pr : List Str} {dn : Str} {cs : List Str} {W2 : FW} {fa : FA} {fb : FS}
    (F : FunS P K x qual st cc cda D f fd) (S : NScope N ps ["__class__"] (defScope st)) (hD : clsAt K dn = D) (hcs : ∀ c ∈ cs, SupAt K (clsAt K c) D f2) (F2 : FnR P w K mg base CX0 j f2 (spP K W2)) (hj : j ≤ k)
    (hn : ps.length = n) (hm : N.length = n + (1 + m))
    (hbd : defBody st = .Expr (.Call (.Attribute (.Call (.Name "super" p0) [] [] p1) "__init__" apos) (e :: es) [] cpos) epos :: rest)
    (hpar : ((defArgs st).posonlyargs ++ (defArgs st).args).head? = some ar) (har : ps = ar.arg :: pr) (hsc : (defScope st).names.lookup ("super" : Str) = some .globalImplicit)
    (hint : ∀ L : Addr, interactive (envF (nfS x qual st cc cda) f L) = false)
    (hsw : ∀ L : Addr, swapsWith (.Call (.Attribute (.Call (.Name "super" p0) [] [] p1) "__init__" apos) (e :: es) [] cpos) none epos.line (envF (nfS x qual st cc cda) f L) = pure false)
    (hev : ∀ L : Addr, ∃ pl : Sem Bool, eval (.Call (.Attribute (.Call (.Name "super" p0) [] [] p1) "__init__" apos) (e :: es) [] cpos) (envF (nfS x qual st cc cda) f L) = (do
      let ov ← attributeBase (.Call (.Name "super" p0) [] [] p1) "__init__" (envF (nfS x qual st cc cda) f L) (eval (.Call (.Name "super" p0) [] [] p1) (envF (nfS x qual st cc cda) f L))
      standAt apos.atName
      let (fv, first) ← holding [ov] (getMethod ov "__init__" pl)
      callWith cpos fv first (backTo cpos (starEach (e :: es) (envF (nfS x qual st cc cda) f L))) []))
    (hst : ∀ L : Addr, starEach (e :: es) (envF (nfS x qual st cc cda) f L) = (false, eval e (envF (nfS x qual st cc cda) f L)) :: starEach es (envF (nfS x qual st cc cda) f L))
    (hpl : ∀ L : Addr, (backTo cpos (starEach es (envF (nfS x qual st cc cda) f L))).any (·.1) = false)
    (hbody : ∀ (A : Around) (outer : List Env) (s : Shared) (H : Hp) (E : XK), Room k (A.deeper (envF (nfS x qual st cc cda) f s.heap.objs.size)) →
      XA (ncx CX0 P w K mg base N (nfS x qual st cc cda) f A outer s H E).nox E0 (e :: es) fa ∧ XSs (ncx CX0 P w K mg base N (nfS x qual st cc cda) f A outer s H E).nox E0 rest fb) :
    FnOk P w K mg base CX0 (k + 1) f fd ps (spP K (supW n m dn cs W2 fa fb)) := by
  refine fn_super F S hbd hpar har hsc hint hsw hev hst hpl F2 hj (fun vs H Q E ⟨β, S, w, bs, R, _, _, hb, hW, _⟩ => ?_) fun A outer s H vs Q E hr ⟨β, S, w1, bs, R, eH, hR, hb, hW, hk⟩ => ?_
  · match bs, hW, hb with
    | .mt j :: br, hW, hb =>
      obtain ⟨c, fs, e1, h1⟩ := cell_ins (f := fun c fs => c ∈ cs ∧ (.mt j :: br : List B).length = n ∧ fa ((.mt j :: br).map some ++ (some (.fz (.cls dn)) :: List.replicate m none)) S noX fun us S1 => W2 (.mt j :: us) S1 noX fun _ S2 => fb ((.mt j :: br).map some ++ (some (.fz (.cls dn)) :: List.replicate m none)) S2 { nx := fun _ S' => R (.fz .non) S', rt := R, xe := noX }) hW
      rw [← hb.length, h1.2.1, hn]
  · match bs, hW, hb with
    | .mt i :: br, hW, .cons hd0 ht =>
      obtain ⟨c, fs, e1, hc, hl, h1⟩ := cell_ins (f := fun c fs => c ∈ cs ∧ (.mt i :: br : List B).length = n ∧ fa ((.mt i :: br).map some ++ (some (.fz (.cls dn)) :: List.replicate m none)) S noX fun us S1 => W2 (.mt i :: us) S1 noX fun _ S2 => fb ((.mt i :: br).map some ++ (some (.fz (.cls dn)) :: List.replicate m none)) S2 { nx := fun _ S' => R (.fz .non) S', rt := R, xe := noX }) hW
      obtain ⟨ta, pa, sa⟩ := (hbody A outer s H E hr).1.ex
      obtain ⟨t, ps', q⟩ := (hbody A outer s H E hr).2.ex
      obtain ⟨dx, us, hH, _⟩ := hR.cellI e1
      obtain ⟨_, rfl⟩ := id hd0
      subst eH
      have G0 := startF_ok (N := N) (m := m) hD (DenBL.cons hd0 ht) (by rw [hl, hm])
      have back : ∀ {S' : Sto} {w' : Wd}, Rel K (reb S w1) S' w' → Rel K β S' w' ∧ Later S.length w1 S'.length w' := fun R' => hR.unreb R'
      refine ⟨ta, t, w1.m i, clsAt K c, dx, us, _, rfl, hH, hcs c hc, pa, ps', ?_⟩
      refine sa (reb S w1) S w1 _ _ noX _ _ hR.reb G0 h1 (fun bs1 S1 w2 vs1 h2 R2 l2 d2 => ?_) xok_no
      refine ⟨_, S1, w2, .mt i :: bs1, _, rfl, R2, .cons ⟨Nat.lt_of_lt_of_le hd0.1 l2.le, by rw [l2.m i hd0.1]⟩ d2, h2, fun b S2 w3 v h3 R3 l3 d3 => ?_⟩
      exact q (reb S w1) S2 w3 _ _ _ _ R3 (G0.later (l2.trans l3)) h3 ⟨fun Γ S' w' σ h R' _ => hk _ S' w' .non h (back R').1 (back R').2 .non, fun b S' w' v h R' d => hk b S' w' v h (back R').1 (back R').2 d,
        fun C fs S' w' d vs h => h.elim, fun _ _ _ _ h => h.elim, fun _ _ _ _ h => h.elim⟩
end
end PL
namespace PL
open PySem L2
theorem raw0 {P : Program} {w : World} {K : PySem.W.Frag} {mg : Str → Option Value} {base : Heap} {k : Nat} {f : Addr} {fd : FuncData} {ps : List Str} {sp : Sp} (F : FnOk P w K mg base CX0 k f fd ps sp) (hb : Binds K fd ps []) : FnR P w K mg base CX0 k f sp :=
  fun A outer s H us vs Q E hr e0 r h => F.raw hb .nil A outer s H us vs Q E hr e0 r (by show sp (vs ++ []) H Q E; rw [List.append_nil]; exact h)
end PL
/-! defaults, text tests, class constants (own work) -/
namespace PL
open PySem L2
section
variable {P : Program} {w : World} {K : PySem.W.Frag} {mg : Str → Option Value} {base : Heap}
theorem okPD {x qual : Str} {params : Arguments} {body : List Stmt} {scope : Scope} {dvs : List V} {kws : List (Str × V)} {f : Addr} {fd : FuncData} {N ps : List Str} {k n m : Nat} {fb : FS} (F : FunD K x qual params body scope dvs kws f fd) (S : FnScope N ps scope) (hn : ps.length = n) (hm : N.length = n + m)
    (hbody : ∀ (cdv : Value) (A : Around) (outer : List Env) (s : Shared) (H : Hp) (E : XK), Room k (A.deeper (PyProof.Rows.envOfC qual scope s.heap.objs.size f cdv)) → XSs (cxOf CX0 P w K mg base N qual scope f cdv A outer s H E).nox E0 body fb) :
    FnOk P w K mg base CX0 (k + 1) f fd ps (spP K (defW n m fb)) :=
  F.ok S (fun vs H Q E ⟨β, S, w, bs, R, _, _, hb, hW, _⟩ => by rw [← hb.length, hW.1, hn]) fun cdv A outer s H vs Q E hr ⟨β, S, w1, bs, R, e, hR, hb, hW, hk⟩ => by
    obtain ⟨t, p, q⟩ := (hbody cdv A outer s H E hr).ex
    subst e
    have back : ∀ {S' : Sto} {w' : Wd}, Rel K (reb S w1) S' w' → Rel K β S' w' ∧ Later S.length w1 S'.length w' := fun R' => hR.unreb R'
    exact ⟨t, p.nox, q (reb S w1) S w1 _ _ _ _ hR.reb (start_ok hb (by rw [hW.1]; exact hm)) hW.2 ⟨fun Γ S' w' σ h R' _ => hk _ S' w' .non h (back R').1 (back R').2 .non, fun b S' w' v h R' d => hk b S' w' v h (back R').1 (back R').2 d,
      fun C fs S' w' d vs h => h.elim, fun _ _ _ _ h => h.elim, fun _ _ _ _ h => h.elim⟩⟩
/-- a test of a text: z.isalpha() .. -/
def gStrP (p : Str → Bool) (b : B) : GL := fun bs S R => match b, bs with
  | .fz (.str z), [] => R (.fz (.bl (p z))) S
  | _, _ => False
theorem snd_strP (p : Str → Bool) : SndM K (fun x xs H Q => ∃ a, x = .str a ∧ xs = [] ∧ True ∧ Q (.bl (p a)) H) (gStrP p) := fun β S w b bs v vs R Q hR hx hb hg hk => by
  match b, bs, hg, hx, hb with
  | .fz (.str z), [], hg, hx, .nil =>
    cases (show Den K w.F (.str z) v from hx)
    exact ⟨z, rfl, rfl, trivial, hk.fz hR hg (.bl _)⟩
/-- a constant of the class, by an instance -/
def gCon (kv : List (Str × D)) (f : Str) : G1 := fun b S R => match b with
  | .fz (.ins cn fs) => fs.lookup f = none ∧ optK (kv.lookup cn) fun d => R (.fz d) S
  | .mt k => (match S[k]? with
    | some (.ins cn fs) => fs.lookup f = none ∧ optK (kv.lookup cn) fun d => R (.fz d) S
    | _ => False)
  | _ => False
end
section
variable {K : PySem.W.Frag} {β : Base} {S : Sto} {w : Wd} {b : B} {v : V} {R : RB}
/-- an instance: its class, its own names -/
def insA (b : B) (S : Sto) (k : Str → (Str → Bool) → Prop) : Prop := match b with
  | .fz (.ins cn fs) => k cn fun m => (fs.lookup m).isNone
  | .mt j => (match S[j]? with
    | some (.ins cn fs) => k cn fun m => (fs.lookup m).isNone
    | _ => False)
  | _ => False
theorem insA_ok {k : Str → (Str → Bool) → Prop} (hR : Rel K β S w) (hb : DenB K S.length w b v) (h : insA b S k) : ∃ a cn dx fs p, v = .ref a ∧ w.H a = some (.ins (clsAt K cn) dx fs) ∧ (∀ m, p m = true → fs.lookup m = none) ∧ k cn p := by
  cases b with
  | fz d =>
    have hb : Den K w.F d v := hb
    cases hb with
    | ins h1 h2 => exact ⟨_, _, _, _, _, rfl, hR.fr _ _ h1, fun m hm => h2.look.2 (Option.isNone_iff_eq_none.mp hm), h⟩
    | _ => exact (show False from h).elim
  | mt j =>
    obtain ⟨_, rfl⟩ := hb
    obtain ⟨cn, fs, e1, h3⟩ := cell_ins (f := fun cn fs => k cn fun m => (fs.lookup m).isNone) h
    obtain ⟨dx, vs, h4, h5⟩ := hR.cellI e1
    exact ⟨_, cn, dx, vs, _, rfl, h4, fun m hm => h5.look.2 (Option.isNone_iff_eq_none.mp hm), h3⟩
end
section
variable {X : Cx} {E : XK} {e o : Expr} {es : List Expr} {f m : Str} {fe fo : FE} {fr : FA} {pos apos : Pos}
/-- o.F, a constant of o's class -/
def eCon (kv : List (Str × D)) (f : Str) (fo : FE) : FE := fun Γ S Rx R => fo Γ S Rx fun b S1 => insA b S1 fun cn p => p f = true ∧ optK (kv.lookup cn) fun d => R (.fz d) S1
structure ConOk (K : PySem.W.Frag) (cn f : Str) (d : D) : Prop where
  cls : Cls K (clsAt K cn)
  con : ∃ v u, Con K (clsAt K cn) f v u ∧ ∀ F, Den K F d v
theorem xcon {kv : List (Str × D)} (h : ∀ cn d, kv.lookup cn = some d → ConOk X.K cn f d) (he : XE X E e fe) (hb : attributeBase e f X.env (eval e X.env) = eval e X.env) : XE X E (.Attribute e f pos) (eCon kv f fe) :=
  let ⟨_, p, s⟩ := he.ex
  ⟨_, pe_con p hb, fun β S w σ Γ Rx R Q hR hG hf hk hx => s β S w σ Γ Rx _ _ hR hG hf (fun b S1 w1 v h1 R1 l1 d1 => by
    obtain ⟨a, cn, dx, fs, p, rfl, h2, h3, h4, h5⟩ := insA_ok R1 d1 h1
    obtain ⟨d, h6, h7⟩ := optK_ok h5
    obtain ⟨v, u, h8, h9⟩ := (h cn d h6).con
    exact ⟨a, _, dx, fs, v, u, rfl, h2, (h cn d h6).cls, h8, h3 f h4, hk _ S1 w1 v h7 R1 l1 (h9 w1.F)⟩) hx⟩
/-- o.f, of one of some classes -/
def eFldA (cs : List Str) (f : Str) (fo : FE) : FE := fun Γ S Rx R => fo Γ S Rx fun b S1 => match b with
  | .fz (.ins cn fs) => cn ∈ cs ∧ optK (fs.lookup f) fun d => R (.fz d) S1
  | .mt k => (match S1[k]? with
    | some (.ins cn fs) => cn ∈ cs ∧ optK (fs.lookup f) fun b => R b S1
    | _ => False)
  | _ => False
structure FldOk (K : PySem.W.Frag) (cn f : Str) : Prop where
  cls : Cls K (clsAt K cn)
  no : NoAttr K (clsAt K cn) f
theorem xfldA {cs : List Str} (h : ∀ cn ∈ cs, FldOk X.K cn f) (he : XE X E e fe) (hb : attributeBase e f X.env (eval e X.env) = eval e X.env) : XE X E (.Attribute e f pos) (eFldA cs f fe) :=
  let ⟨_, p, s⟩ := he.ex
  ⟨_, pe_fld p hb, fun β S w σ Γ Rx R Q hR hG hf hk hx => s β S w σ Γ Rx _ _ hR hG hf (fun b S1 w1 v h1 R1 l1 d1 => by
    have go : ∃ cn, cn ∈ cs ∧ gFld cn f b S1 R := by
      cases b with
      | fz d =>
        cases d with
        | ins cn fs => exact ⟨cn, h1.1, rfl, h1.2⟩
        | _ => exact (show False from h1).elim
      | mt k =>
        obtain ⟨cn, fs, e1, h3, h4⟩ := cell_ins (f := fun cn fs => cn ∈ cs ∧ optK (fs.lookup f) fun b => R b S1) h1
        refine ⟨cn, h3, ?_⟩
        show match S1[k]? with
          | some (.ins C' fs) => C' = cn ∧ optK (fs.lookup f) fun b => R b S1
          | _ => False
        rw [e1]
        exact ⟨rfl, h4⟩
    obtain ⟨cn, hc, hg⟩ := go
    obtain ⟨a, dx, fs, u, c, rfl, h2, h3, h4, h5⟩ := gFld_ok R1 d1 hg
    exact ⟨a, _, dx, fs, u, rfl, h2, (h cn hc).cls, (h cn hc).no, h3, hk c S1 w1 u h5 R1 l1 h4⟩) hx⟩
/-- o.f = e, o a cell of one of some classes -/
def sFldA (cs : List Str) (m : Str) (fo fv : FE) : FS := fun Γ S P => fv Γ S P.xe fun c S1 => fo Γ S1 P.xe fun b S2 => match b with
  | .mt k => (match S2[k]? with
    | some (.ins cn fs) => (cn ∈ cs ∧ fs.length < 1000) ∧ P.nx Γ (S2.set k (.ins cn (putB m c fs)))
    | _ => False)
  | _ => False
theorem xs_fldA {value : Expr} {fv : FE} {pos' : Pos} {cs : List Str} (h : ∀ cn ∈ cs, FldOk X.K cn m) (ho : XE X E o fo) (hv : XE X E value fv) (hs : swapsWith value (some (.Attribute o m pos')) pos.line X.env = pure false) : XS X E (.Assign [.Attribute o m pos'] value pos) (sFldA cs m fo fv) :=
  let ⟨_, p, s⟩ := ho.ex; let ⟨_, q, t⟩ := hv.ex
  ⟨_, ps_fld p q hs, fun β S w σ Γ P De hR hG hf hk => t β S w σ Γ _ _ _ hR hG hf (fun c S1 w1 u h1 R1 l1 d1 => s β S1 w1 σ Γ _ _ _ R1 (hG.later l1) h1 (fun b S2 w2 v h2 R2 l2 d2 => by
    cases b with
    | fz _ => exact (show False from h2).elim
    | mt k =>
      obtain ⟨_, rfl⟩ := d2
      obtain ⟨cn, fs, e1, ⟨hc, h3⟩, h4⟩ := cell_ins (f := fun cn fs => (cn ∈ cs ∧ fs.length < 1000) ∧ P.nx Γ (S2.set k (.ins cn (putB m c fs)))) h2
      obtain ⟨dx, vs, h5, h6⟩ := R2.cellI e1
      have lt : Later S2.length w2 S2.length ⟨w2.m, w2.F, upd w2.H (w2.m k) (.ins (clsAt X.K cn) dx (putF m u vs))⟩ := ⟨Nat.le_refl _, fun _ _ => rfl, .refl _⟩
      obtain ⟨R3, l3⟩ := R2.setC e1 (by intro z; cases z) (o := .ins (clsAt X.K cn) dx (putF m u vs)) (c' := .ins cn (putB m c fs)) ⟨dx, _, upd_same, (h6.later lt).put ((d1.later l2).later lt)⟩
      exact ⟨_, _, dx, vs, rfl, h5, (h cn hc).cls, (h cn hc).no, by rw [← h6.length]; exact h3, hk.nx Γ _ _ σ h4 R3 (hG.later ((l1.trans l2).trans l3))⟩) hk.x) hk.x⟩
/-- a property of one of some classes -/
structure PropOk (X : Cx) (cn f : Str) (W : FW) : Prop where
  cls : Cls X.K (clsAt X.K cn)
  ex : ∃ (p g : Addr) (fd : FuncData) (ps : List Str) (k : Nat), PropOf X.K (clsAt X.K cn) f p g ∧ FnOk X.prog X.w X.K X.mg X.base CX0 k g fd ps (spP X.K W) ∧ Room (k + 1) X.A ∧ Binds X.K fd ps []
def ePropA (tbl : List (Str × FW)) (g : FW → GW) (fo : FE) : FE := fun Γ S Rx R => fo Γ S Rx fun b S1 => insA b S1 fun cn _ => optK (tbl.lookup cn) fun W => g W [b] S1 noX R
theorem xpropA {tbl : List (Str × FW)} {g : FW → GW} (hg : ∀ W, SndW0 X.K W [] (g W)) (h : ∀ cn W, tbl.lookup cn = some W → PropOk X cn f W) (ho : XE X E o fo) (hx : Passes CX0 X.nox E0) (hb : attributeBase o f X.env (eval o X.env) = eval o X.env) : XE X E (.Attribute o f pos) (ePropA tbl g fo) :=
  let ⟨to, q, u⟩ := ho.ex
  ⟨fun σ H Q => to σ H fun x H1 => ∃ a cn dx fs W, x = .ref a ∧ H1 a = some (.ins (clsAt X.K cn) dx fs) ∧ PropOk X cn f W ∧ spP X.K W [.ref a] H1 Q E0,
    ⟨fun pins s σ H Q I hw => attr_of hb (thn (q.run pins s σ H _ I hw) fun vv s1 ⟨x, H1, I1, rx, a, cn, dx, fs, W, ex, ea, ok, sp⟩ => by
      subst ex
      have ev : vv = Value.ref a := rx
      rw [ev]
      obtain ⟨p, g, fd, ps, k, hp, hF, hr, hbi⟩ := ok.ex
      exact getprop_ok (dvs := []) (ds := []) I1 ea ok.cls hp hF hr hbi .nil hx sp)⟩,
    fun β S w σ Γ Rx R Q hR hG hf hk hx => u β S w σ Γ Rx _ _ hR hG hf (fun b S1 w1 v h1 R1 l1 d1 => by
      obtain ⟨a, cn, dx, fs, p, rfl, h2, _, h5⟩ := insA_ok R1 d1 h1
      obtain ⟨W, h6, h7⟩ := optK_ok h5
      exact ⟨a, cn, dx, fs, W, rfl, h2, h cn W h6, hg W β S1 w1 [b] [.ref a] R Q E0 R1 (.cons d1 .nil) h7 (hk.later l1)⟩) hx⟩
/-- a method of one of some classes -/
structure MethOk (X : Cx) (cn m : Str) (W : FW) : Prop where
  cls : Cls X.K (clsAt X.K cn)
  ex : ∃ (f : Addr) (fd : FuncData) (ps : List Str) (k : Nat), Meth X.K (clsAt X.K cn) m f ∧ FnOk X.prog X.w X.K X.mg X.base CX0 k f fd ps (spP X.K W) ∧ Room k X.A ∧ Binds X.K fd ps []
def eMethA (tbl : List (Str × FW)) (m : Str) (g : FW → GW) (fo : FE) (fr : FA) : FE := fun Γ S Rx R => fo Γ S Rx fun b S1 => insA b S1 fun cn p => p m = true ∧ optK (tbl.lookup cn) fun W => fr Γ S1 Rx fun bs S2 => g W (b :: bs) S2 noX R
theorem xmethA {pl : Sem Bool} {tbl : List (Str × FW)} {g : FW → GW} (hg : ∀ W, SndW0 X.K W [] (g W)) (h : ∀ cn W, tbl.lookup cn = some W → MethOk X cn m W) (hx0 : Passes CX0 X E0) (ho : XE X E o fo) (ha : XA X E (e :: es) fr)
    (hst : starEach (e :: es) X.env = (false, eval e X.env) :: starEach es X.env := by rfl) (hpl : (backTo pos (starEach es X.env)).any (·.1) = false := by rfl)
    (hev : eval (.Call (.Attribute o m apos) (e :: es) [] pos) X.env = (do
      let ov ← eval o X.env
      standAt apos.atName
      let (fv, first) ← holding [ov] (getMethod ov m pl)
      callWith pos fv first (backTo pos (starEach (e :: es) X.env)) (backToKw pos (keywordEach [] X.env))) := by rfl) :
    XE X E (.Call (.Attribute o m apos) (e :: es) [] pos) (eMethA tbl m g fo fr) :=
  let ⟨to, q, u⟩ := ho.ex; let ⟨ta, r, v⟩ := ha.ex
  ⟨fun σ H Q => to σ H fun x H1 => ∃ a cn dx fs W, x = .ref a ∧ H1 a = some (.ins (clsAt X.K cn) dx fs) ∧ MethOk X cn m W ∧ fs.lookup m = none ∧ ta σ H1 fun vs H2 => spP X.K W (.ref a :: vs) H2 Q E0,
    ⟨fun pins s σ H Q I hw => PySem.W.methodCall_KW (pl := pl) (thn (q.run pins s σ H _ I hw) fun vv s1 ⟨x, H1, I1, rx, a, cn, dx, fs, W, ex, ea, ok, hl, hq⟩ => by
      subst ex
      have ev : vv = Value.ref a := rx
      rw [ev]
      obtain ⟨f, fd, ps, k, hm, hF, hr, hbi⟩ := ok.ex
      exact getmeth_ok I1 ea ok.cls hm hl (PySem.W.callWith_K (first := [.ref a]) (h₀ := X.base) I.ok.mod.kin hm.kp (thn (r.run pos pins s1 σ H1 _ I1 hq) fun us s2 ⟨vs, H2, I2, rv, sp⟩ =>
        ⟨I2.kIn, run_fn (us := .ref a :: us) (vs := .ref a :: vs) (dvs := []) (ds := []) hF hr hbi .nil hx0 I2 (.cons rfl rv) (by rw [List.append_nil]; exact sp)⟩) hst hpl)) hev⟩,
    fun β S w σ Γ Rx R Q hR hG hf hk hx => u β S w σ Γ Rx _ _ hR hG hf (fun b S1 w1 vv h1 R1 l1 d1 => by
      obtain ⟨a, cn, dx, fs, p, rfl, h2, h3, h4, h5⟩ := insA_ok R1 d1 h1
      obtain ⟨W, h6, h7⟩ := optK_ok h5
      exact ⟨a, cn, dx, fs, W, rfl, h2, h cn W h6, h3 m h4, v β S1 w1 σ Γ Rx _ _ R1 (hG.later l1) h7 (fun bs S2 w2 vs h8 R2 l2 d2 => by
        have z := hg W β S2 w2 (b :: bs) (.ref a :: vs) R Q E0 R2 (.cons (d1.later l2) d2) h8 (hk.later (l1.trans l2))
        rw [List.append_nil] at z
        exact z) (hx.later l1)⟩) hx⟩
theorem xmethA0 {pl : Sem Bool} {tbl : List (Str × FW)} {g : FW → GW} (hg : ∀ W, SndW0 X.K W [] (g W)) (h : ∀ cn W, tbl.lookup cn = some W → MethOk X cn m W) (hx0 : Passes CX0 X E0) (ho : XE X E o fo)
    (hev : eval (.Call (.Attribute o m apos) [] [] pos) X.env = (do
      let ov ← eval o X.env
      standAt apos.atName
      let (fv, first) ← holding [ov] (getMethod ov m pl)
      callWith pos fv first (backTo pos (starEach [] X.env)) (backToKw pos (keywordEach [] X.env))) := by rfl) :
    XE X E (.Call (.Attribute o m apos) [] [] pos) (eMethA tbl m g fo aNil) :=
  let ⟨to, q, u⟩ := ho.ex
  ⟨fun σ H Q => to σ H fun x H1 => ∃ a cn dx fs W, x = .ref a ∧ H1 a = some (.ins (clsAt X.K cn) dx fs) ∧ MethOk X cn m W ∧ fs.lookup m = none ∧ spP X.K W [.ref a] H1 Q E0,
    ⟨fun pins s σ H Q I hw => PySem.W.methodCall_KW (pl := pl) (thn (q.run pins s σ H _ I hw) fun vv s1 ⟨x, H1, I1, rx, a, cn, dx, fs, W, ex, ea, ok, hl, sp⟩ => by
      subst ex
      have ev : vv = Value.ref a := rx
      rw [ev]
      obtain ⟨f, fd, ps, k, hm, hF, hr, hbi⟩ := ok.ex
      exact getmeth_ok I1 ea ok.cls hm hl (PySem.W.callWith_K0 (first := [.ref a]) I1.kIn hm.kp (run_fn (us := [.ref a]) (vs := [.ref a]) (dvs := []) (ds := []) hF hr hbi .nil hx0 I1 (.cons rfl .nil) sp))) hev⟩,
    fun β S w σ Γ Rx R Q hR hG hf hk hx => u β S w σ Γ Rx _ _ hR hG hf (fun b S1 w1 vv h1 R1 l1 d1 => by
      obtain ⟨a, cn, dx, fs, p, rfl, h2, h3, h4, h5⟩ := insA_ok R1 d1 h1
      obtain ⟨W, h6, h7⟩ := optK_ok h5
      exact ⟨a, cn, dx, fs, W, rfl, h2, h cn W h6, h3 m h4, hg W β S1 w1 [b] [.ref a] R Q E0 R1 (.cons d1 .nil) h7 (hk.later l1)⟩) hx⟩
end
end PL
namespace PL
open PySem L2
/-- isinstance, the package's classes too: own objects and classes, built-in values and own classes, own objects and built-in classes -/
structure IsaT where
  oo : List ((Str × Str) × Bool)
  bo : List ((String × Str) × Bool)
  ob : List ((Str × String) × Bool)
def isaC (T : IsaT) (x c : D) : Option Bool := match x, c with
  | .ins a _, .cls d => T.oo.lookup (a, d)
  | .ins a _, .ty n => T.ob.lookup (a, n)
  | x, .cls d => (match tyName x with
    | some t => T.bo.lookup (t, d)
    | none => none)
  | x, c => isa0 x c
structure InsTy (K : PySem.W.Frag) (C : Addr) : Prop where
  cl : Cls K C
  ha : PySem.W.findIn K (.ref C) "__class__" = some (some (.builtin "object.__class__"))
  hn : PySem.W.specialIn K (.builtin "object.__class__") "__get__" = some (some (.builtin "getset_descriptor.__get__"))
  ht : PySem.W.takesIn K (.builtin "object.__class__") = some true
  hm : PySem.W.mroIn K C (.type "object") = some true
structure IsaTOk (K : PySem.W.Frag) (T : IsaT) : Prop where
  oo : ∀ a d b, T.oo.lookup (a, d) = some b → InsTy K (clsAt K a) ∧ PySem.W.kitOne K (.ref (clsAt K a)) (.ref (clsAt K d)) = some b
  bo : ∀ t d b, T.bo.lookup (t, d) = some b → PySem.W.kitOne K (.type t) (.ref (clsAt K d)) = some b
  ob : ∀ a n b, T.ob.lookup (a, n) = some b → InsTy K (clsAt K a) ∧ PySem.W.kitOne K (.ref (clsAt K a)) (.type n) = some b
theorem isaC_ok {K : PySem.W.Frag} {T : IsaT} (h : IsaTOk K T) : IsaOk K (isaC T) := fun F H x v s hx c0 b0 e0 => by
  cases x with
  | ins a fs =>
    cases hx with
    | @ins y dx _ _ vs h1 h2 =>
      have it : InsTy K (clsAt K a) := by
        cases c0 with
        | ty n => exact (h.ob a n b0 e0).1
        | cls d => exact (h.oo a d b0 e0).1
        | _ => cases e0
      refine ⟨.ref (clsAt K a), .base (.ins (s _ _ h1) it.cl it.ha it.hn it.ht it.hm), fun c u b hc e => ?_⟩
      cases hc with
      | ty n => exact ⟨_, .ty n, (h.ob a n b e).2⟩
      | cls d => exact ⟨_, .own _, (h.oo a d b e).2⟩
      | _ => cases e
  | _ =>
    first
      | (exfalso; cases c0 <;> first | exact (Option.some_ne_none _ (e0.symm.trans rfl)).elim | cases e0)
      | (refine ⟨_, tyX_of s hx rfl, fun c u b hc e => ?_⟩
         cases hc with
         | ty n => exact ⟨_, .ty n, kit_ty e⟩
         | cls d => exact ⟨_, .own _, h.bo _ d b e⟩
         | _ => cases e)
end PL
namespace PL
open PySem L2
inductive AllI (p : Str → Prop) : List Str → Prop
  | nil : AllI p []
  | cons {c : Str} {cs : List Str} : p c → AllI p cs → AllI p (c :: cs)
theorem AllI.all {p : Str → Prop} : ∀ {cs : List Str}, AllI p cs → ∀ c ∈ cs, p c
  | _, .nil, _, h => by cases h
  | _, .cons a t, c, h => by
    rcases List.mem_cons.mp h with e | e
    · rw [e]; exact a
    · exact AllI.all t c e
inductive AllT {κ α : Type} (p : κ → α → Prop) : List (κ × α) → Prop
  | nil : AllT p []
  | cons {c : κ} {a : α} {t : List (κ × α)} : p c a → AllT p t → AllT p ((c, a) :: t)
theorem AllT.look {κ α : Type} [BEq κ] [LawfulBEq κ] {p : κ → α → Prop} : ∀ {t : List (κ × α)}, AllT p t → ∀ c a, t.lookup c = some a → p c a
  | _, .nil, _, _, h => by cases h
  | _, @AllT.cons _ _ _ c' a' t h r, c, a, e => by
    rw [List.lookup_cons] at e
    cases q : c == c' with
    | true => rw [q] at e; cases e; rw [eq_of_beq q]; exact h
    | false => rw [q] at e; exact AllT.look r c a e
section
variable {X : Cx} {K : PySem.W.Frag} {cn f m : Str} {C : Addr}
theorem fldok (h : clsAt K cn = C) (c : Cls K C) (n : NoAttr K C f) : FldOk K cn f := by subst h; exact ⟨c, n⟩
theorem conok {v : V} {u : Value} {d : D} (h : clsAt K cn = C) (c : Cls K C) (n : Con K C f v u) (hd : ∀ F, Den K F d v) : ConOk K cn f d := by subst h; exact ⟨c, v, u, n, hd⟩
theorem methok {W : FW} {g : Addr} {fd : FuncData} {ps : List Str} {k : Nat} (h : clsAt X.K cn = C) (c : Cls X.K C) (n : Meth X.K C m g) (F : FnOk X.prog X.w X.K X.mg X.base CX0 k g fd ps (spP X.K W)) (hr : Room k X.A) (hb : Binds X.K fd ps []) : MethOk X cn m W := by
  subst h; exact ⟨c, g, fd, ps, k, n, F, hr, hb⟩
theorem propok {W : FW} {p g : Addr} {fd : FuncData} {ps : List Str} {k : Nat} (h : clsAt X.K cn = C) (c : Cls X.K C) (n : PropOf X.K C f p g) (F : FnOk X.prog X.w X.K X.mg X.base CX0 k g fd ps (spP X.K W)) (hr : Room (k + 1) X.A) (hb : Binds X.K fd ps []) : PropOk X cn f W := by
  subst h; exact ⟨c, p, g, fd, ps, k, n, F, hr, hb⟩
theorem supat {D f2 : Addr} (h : clsAt K cn = C) (u : SupAt K C D f2) : SupAt K (clsAt K cn) D f2 := by subst h; exact u
end
end PL
namespace PL
open PySem L2
/-- C.F, a constant of an own class -/
theorem xcval {X : Cx} {E : XK} {C : Addr} {mc : Value} {f cn : Str} {v : V} {u : Value} {d : D} {p0 pos : Pos} (r : ClX.CRead X.K C mc) (k : ClX.CVal X.K C mc f v u) (hd : ∀ F, Den X.K F d v) (hg : Gl X cn) (hm : X.mg cn = some (.ref C))
    (hdb : (cn == ("__debug__" : Str)) = false := by decide) (hb : attributeBase (.Name cn p0) f X.env (eval (.Name cn p0) X.env) = eval (.Name cn p0) X.env := by rfl) : XE X E (.Attribute (.Name cn p0) f pos) (eC d) :=
  ⟨_, ClX.pe_cval (pe_glob (v := .ref C) hg hm rfl hdb) hb, fun β S w σ Γ Rx R Q hR hG hf hk hx => ⟨C, mc, v, u, rfl, r, k, hk _ S w v hf hR (.refl _ _) (hd w.F)⟩⟩
end PL
/-! list.insert; sets of numbers and texts (own work) -/
namespace PL
open PySem L2
section
variable {K : PySem.W.Frag}
def gInsert (b : B) : GL := fun bs S R => match b, bs with
  | .mt k, [.fz (.int i), c] => (match S[k]? with
    | some (.lst xs) => (xs.length < sizeLine ∧ 0 ≤ i ∧ i < 2 ^ 63) ∧ R (.fz .non) (S.set k (.lst (xs.take i.toNat ++ [c] ++ xs.drop i.toNat)))
    | _ => False)
  | _, _ => False
theorem DenBL.takeB {n : Nat} {w : Wd} : ∀ (i : Nat) {bs : List B} {vs : List V}, DenBL K n w bs vs → DenBL K n w (bs.take i) (vs.take i)
  | 0, _, _, _ => .nil
  | _ + 1, _, _, .nil => .nil
  | i + 1, _, _, .cons a t => .cons a (DenBL.takeB i t)
theorem DenBL.dropB {n : Nat} {w : Wd} : ∀ (i : Nat) {bs : List B} {vs : List V}, DenBL K n w bs vs → DenBL K n w (bs.drop i) (vs.drop i)
  | 0, _, _, h => h
  | _ + 1, _, _, .nil => .nil
  | i + 1, _, _, .cons _ t => DenBL.dropB i t
theorem snd_insert : SndM K (fun x vs H Q => ∃ (l : Addr) (xs : List V) (i : Int) (y : V), x = .ref l ∧ vs = [.int i, y] ∧ H l = some (.lst xs) ∧ xs.length < sizeLine ∧ 0 ≤ i ∧ i < 2 ^ 63 ∧
    Q .non (upd H l (.lst (xs.take i.toNat ++ [y] ++ xs.drop i.toNat)))) gInsert := fun β S w b bs v vs R Q hR hx hb hg hk => by
  match b, bs, hg, hx, hb with
  | .mt k, [.fz (.int i), c], hg, hx, hb =>
    obtain ⟨_, rfl⟩ := hx
    obtain ⟨v1, u, rfl, hi, h1⟩ := hb.two
    cases (show Den K w.F (.int i) v1 from hi)
    obtain ⟨xs, e1, ⟨h2, h3, h4⟩, h5⟩ := cell_lst (f := fun xs => (xs.length < sizeLine ∧ 0 ≤ i ∧ i < 2 ^ 63) ∧ R (.fz .non) (S.set k (.lst (xs.take i.toNat ++ [c] ++ xs.drop i.toNat)))) hg
    obtain ⟨us, h6, h7⟩ := hR.cellL e1
    exact ⟨_, us, i, u, rfl, rfl, h6, by rw [← h7.length]; exact h2, h3, h4, hk.setL hR e1 h5 .non (((h7.takeB i.toNat).app (.cons h1 .nil)).app (h7.dropB i.toNat))⟩
/-! sets -/
def keyD : D → Option Key
  | .int i => some (.inl i)
  | .str z => some (.inr z)
  | _ => none
theorem keyD_ok {F : Hp} {d : D} {v : V} {k : Key} (h : Den K F d v) (e : keyD d = some k) : v = kV k := by
  cases h <;> first | (cases e; rfl) | cases e
theorem Rel.cellK {β : Base} {S : Sto} {w : Wd} (hR : Rel K β S w) {k : Nat} {P : Program} {wo : World} {T : Key → Bool} {n : Nat} (h : S[k]? = some (.kset P wo T n)) : w.H (w.m k) = some (SetK P wo (w.m k) T n) := (hR.live k _ h (by intro z; cases z)).ok
/-- a set that is a cell -/
def setB (P : Program) (wo : World) (b : B) (S : Sto) (f : Nat → (Key → Bool) → Nat → Prop) : Prop := match b with
  | .mt k => (match S[k]? with
    | some (.kset P' wo' T n) => (P' = P ∧ wo' = wo) ∧ f k T n
    | _ => False)
  | _ => False
theorem setB_ok {P : Program} {wo : World} {b : B} {S : Sto} {f : Nat → (Key → Bool) → Nat → Prop} (h : setB P wo b S f) : ∃ k T n, b = .mt k ∧ S[k]? = some (.kset P wo T n) ∧ f k T n := by
  cases b with
  | fz _ => exact (show False from h).elim
  | mt k =>
    have g : (match S[k]? with
      | some (.kset P' wo' T n) => (P' = P ∧ wo' = wo) ∧ f k T n
      | _ => False) := h
    clear h
    cases hc : S[k]? with
    | none => rw [hc] at g; exact g.elim
    | some cl =>
      rw [hc] at g
      cases cl with
      | kset P' wo' T n =>
        obtain ⟨⟨rfl, rfl⟩, g2⟩ := g
        exact ⟨k, T, n, rfl, hc, g2⟩
      | _ => exact (show False from g).elim
def gSet0 (P : Program) (wo : World) : GL := fun bs S R => match bs with
  | [] => R (.mt S.length) (S ++ [.kset P wo (fun _ => false) 0])
  | _ => False
theorem snd_set0 {P : Program} {wo : World} : SndL K (rSet0K P wo) (gSet0 P wo) := fun β S w bs vs R Q hR hb hg hk => by
  match bs, hg, hb with
  | [], hg, .nil =>
    refine ⟨rfl, fun p hp => ?_⟩
    obtain ⟨R1, l1⟩ := hR.newC hp (SetK P wo p (fun _ => false) 0) (c := .kset P wo (fun _ => false) 0) upd_same
    exact hk _ _ _ (.ref p) hg R1 l1 ⟨by rw [List.length_append]; exact Nat.lt_succ_self _, congrArg V.ref (if_pos rfl).symm⟩
def gSAdd (P : Program) (wo : World) (b : B) : GL := fun bs S R => match bs with
  | [.fz d] => setB P wo b S fun k T n => optK (keyD d) fun y => n + 1 < scanBound ∧ R (.fz .non) (S.set k (.kset P wo (fun j => T j || decide (j = y)) (if T y = true then n else n + 1)))
  | _ => False
theorem snd_sadd {P : Program} {wo : World} : SndM K (rSAddK P wo) (gSAdd P wo) := fun β S w b bs v vs R Q hR hx hb hg hk => by
  match bs, hg, hb with
  | [.fz d], hg, hb =>
    obtain ⟨k, T, n, rfl, e1, h1⟩ := setB_ok hg
    obtain ⟨y, e2, h2, h3⟩ := optK_ok h1
    obtain ⟨u, rfl, hd⟩ := hb.one
    obtain ⟨_, rfl⟩ := hx
    obtain rfl := keyD_ok (show Den K w.F d u from hd) e2
    obtain ⟨R1, l1⟩ := hR.setC e1 (by intro z; cases z) (o := SetK P wo (w.m k) (fun j => T j || decide (j = y)) (if T y = true then n else n + 1)) (c' := .kset P wo (fun j => T j || decide (j = y)) (if T y = true then n else n + 1)) upd_same
    exact ⟨w.m k, y, T, n, rfl, rfl, hR.cellK e1, h2, hk _ _ _ .non h3 R1 l1 .non⟩
def gSIn (P : Program) (wo : World) (neg : Bool) : G2 := fun b c S R => match b with
  | .fz d => setB P wo c S fun _ T _ => optK (keyD d) fun y => R (.fz (.bl (if neg then !T y else T y))) S
  | _ => False
theorem snd_sin {P : Program} {wo : World} {neg : Bool} : Snd2 K (rSInK P wo neg) (gSIn P wo neg) := fun β S w b c v u R Q hR hb hc hg hk => by
  cases b with
  | mt _ => exact (show False from hg).elim
  | fz d =>
    obtain ⟨k, T, n, rfl, e1, h1⟩ := setB_ok hg
    obtain ⟨y, e2, h2⟩ := optK_ok h1
    obtain ⟨_, rfl⟩ := hc
    obtain rfl := keyD_ok (show Den K w.F d v from hb) e2
    exact ⟨y, w.m k, T, n, rfl, rfl, hR.cellK e1, hk.fz hR h2 (.bl _)⟩
end
end PL
/-! ### set(xs), xs a list of whole numbers -/
namespace SL
open PySem PySem.Spec PyProof.Rows L2
section
variable {P : Program} {w : World} {A : Around} {E : Value → Shared → Prop} {s : Shared}
/-- an empty set -/
def emp (w : World) : Obj := { cls := .type "set", dict := none, data := .set #[] 0 (.fresh 0 0 (!w.params.followText "set-order")) }
theorem emp_at {h : Heap} {a : Addr} {ns : List Int} (ho : h.get? a = some (emp w)) : SetR w h a (fun j => decide (j ∈ ns.take 0)) 0 := setR_new_at ho
set_option maxHeartbeats 3200000 in
theorem make {l : Addr} {vs : Array Value} (ns : List Int) {Q : Value → Shared → Prop} (calm : A.handled = none) (pl : s.heap.IsList l vs) (iv : IntsAre vs.toList ns) (few : ns.length + 1 < scanBound)
    (q : ∀ (g : Heap) (tk c : Nat), SetR w g s.heap.objs.size (fun j => decide (j ∈ ns)) c → c ≤ ns.length → (∀ b o, s.heap.get? b = some o → g.get? b = some o) → Q (.ref s.heap.objs.size) { s with heap := g, toks := tk }) :
    wpAny (model P w) A (call (.type "set") [.ref l]) Q E s := by
  have vn : vs.size = ns.length := by have := IntsAre.length iv; rwa [Array.length_toList] at this
  obtain ⟨mc, mt, mm⟩ := F.called_set.mro
  have k1 := F.called_set.made
  have k2 := F.called_set.sub
  refine wpAny_call (codeAny_of_tree ?_)
  show wpAny _ _ (callAny (.type "set") _) _ _ _
  refine wpAny_pure ⟨Code.quiet_builtin _ (by decide +kernel), codeAny_builtin F.entry_type_call ?_⟩
  rw [Around.under_plain (weight_type_call_type "set" [.ref l] []) rfl]
  have k3 := F.called_set.notType
  have k4 := F.called_set.canCreate
  have k5 := F.typeCall_set_1 (.ref l)
  repeat (any_goals (first | assumption | wp_step))
  refine codeAny_mono (code_set_led1 (.ref l) (E := E) (Q₁ := fun o t => o = .ref s.heap.objs.size ∧ t = { s with heap := s.heap.push (emp w) }) ⟨rfl, rfl⟩) fun r t hr => ?_
  match r, hr with
  | .error _, hr => exact hr
  | .ok (.ret o), hr =>
    obtain ⟨rfl, rfl⟩ := hr
    have top : (s.heap.push (emp w)).get? s.heap.objs.size = some (emp w) := Heap.get?_push_size _ rfl
    have ty : Shared.TypeIs { s with heap := s.heap.push (emp w) } (.ref s.heap.objs.size) "set" := ⟨_, top, rfl⟩
    have k6 := F.called_set.init.lookup
    have k7 := F.called_set.init.bind (.ref s.heap.objs.size)
    repeat (any_goals (first | assumption | wp_step))
    refine codeAny_mono (codeAny_call_builtin (R := wants (fun v t => v = .none ∧ ∃ g tk c, t = { s with heap := g, toks := tk } ∧ SetR w g s.heap.objs.size (fun j => decide (j ∈ ns)) c ∧ c ≤ ns.length ∧ (∀ b o, s.heap.get? b = some o → g.get? b = some o)) E)
      F.called_set.init.plain F.entry_set_init (check_set_init_1 ty ?_)) fun r2 t2 hr2 => ?_
    · obtain ⟨⟨cl, dl, da, sl⟩, ho, h1, nl, h2⟩ := pl
      simp only at h1 h2
      subst h1 h2
      have ho' : (s.heap.push (emp w)).get? l = some { cls := .type "list", dict := dl, data := .seq vs nl, slots := sl } := Heap.get?_push_of_some _ ho
      have k8 := F.sub_list_set
      have k9 := F.sub_list_frozenset
      have kd : (Value.type "list" == Value.type "dict") = false := by decide
      have pl' : (s.heap.push (emp w)).IsList l vs := ⟨_, ho', rfl, nl, rfl⟩
      unfold Builtin.«set.__init__» noKeywords Builtin.Frozenset.updateFrom
      generalize hi : pyIter = PI
      wp_walk
      subst hi
      refine wpAny_pyIter_list pl' (wpAny_bind (wpAny_runValue ?_))
      have ls : l < s.heap.objs.size := Heap.lt_size ho
      have c3 : A.in1.in1.in1.handled = none := by simp [calm]
      have sz : (s.heap.push (emp w)).objs.size = s.heap.objs.size + 1 := Heap.size_push ..
      have n1 : l ≠ (s.heap.push (emp w)).objs.size := by rw [sz]; exact Nat.ne_of_lt (Nat.lt_succ_of_lt ls)
      have n2 : s.heap.objs.size ∉ [(s.heap.push (emp w)).objs.size, l] := by
        rw [sz]
        intro m
        rcases List.mem_cons.mp m with e | m
        · exact Nat.ne_of_lt (Nat.lt_succ_self _) e
        · exact Nat.ne_of_gt ls (List.mem_singleton.mp m)
      have val : ∀ (i : Nat) (v : Value), vs[i]? = some v → ∃ k t, ns[i]? = some k ∧ v = .int k t := fun i v hv => by
        have il : i < ns.length := by rw [← vn]; exact (Array.getElem?_eq_some_iff.mp hv).1
        obtain ⟨t, e⟩ := PyProof.Rows.IntsAre.int_at iv i v (by rw [Array.getElem?_toList]; exact hv)
        refine ⟨ns[i], t, List.getElem?_eq_getElem il, ?_⟩
        rw [e, List.getD_eq_getElem?_getD, List.getElem?_eq_getElem il] <;> rfl
      refine set_update_ints ((Walks.list c3 _ l n1 vs).toS) s.heap.objs.size n2 ns vn few val (vs.size - 0) 0 _ (by omega) (Nat.zero_le _) ⟨⟨_, Heap.get?_push_size _ rfl, rfl, rfl⟩, pl'.push _⟩ ⟨0, Nat.le_refl 0, emp_at (Heap.get?_push_of_some _ top)⟩ fun t c mv hc hS => ?_
      obtain ⟨g, g2, d2, tk, o2⟩ := t
      have e1 : g2 = s.gens := mv.gens
      have e2 : d2 = s.drawn := mv.drawn
      have e3 : o2 = s.os := mv.os
      subst e1 e2 e3
      show wpAny _ _ _ _ _ _
      refine wpAny_pure ?_
      show wpAny _ _ (ret Value.none) _ _ _
      rw [vn] at hc
      refine wpAny_pure ⟨rfl, g, tk, c, rfl, hS, hc, fun b o e => mv.heap b o (fun m => ?_) (Heap.get?_push_of_some _ (Heap.get?_push_of_some _ e))⟩
      have b0 : b < s.heap.objs.size := Heap.lt_size e
      rcases List.mem_cons.mp m with z | m
      · exact Nat.ne_of_lt b0 z
      · refine Nat.ne_of_lt (Nat.lt_succ_of_lt b0) ((List.mem_singleton.mp m).trans sz)
    · match r2, hr2 with
      | .error _, hr2 => exact hr2
      | .ok (.ret v), hr2 =>
        obtain ⟨rfl, g, tk, c, rfl, hS, hc, hk⟩ := hr2
        repeat (any_goals (first | assumption | wp_step))
        exact q _ _ _ hS hc hk
      | .ok .next, hr2 => exact hr2.elim
      | .ok .brk, hr2 => exact hr2.elim
      | .ok .cont, hr2 => exact hr2.elim
  | .ok .next, hr => exact hr.elim
  | .ok .brk, hr => exact hr.elim
  | .ok .cont, hr => exact hr.elim
end
section
variable {X : Cx}
def rSetL (K : PySem.W.Frag) (w : World) : List V → Hp → VK → Prop := fun xs H Q => ∃ (l : Addr) (ns : List Int), xs = [.ref l] ∧ SqL K H l (ns.map V.int) ∧ ns.length + 1 < scanBound ∧ ∀ p c, H p = none → c ≤ ns.length → Q (.ref p) (upd H p (SetO w p (fun j => decide (j ∈ ns)) c))
theorem cr_setL (hc : X.calm = true) : CallR X (.type "set") (rSetL X.K X.w) := by
  intro pins s σ H xs us Q I r h
  obtain ⟨l, ns, rfl, hl, hb, q⟩ := h
  rw [Vals.ref1 r]
  obtain ⟨its, rv, pl, hz⟩ := I.list hl
  refine make ns (I.ok.hd hc) pl.isList (by simpa using rv.ints) hb fun g tk c new hcn hk => ?_
  exact ⟨.ref _, upd H s.heap.objs.size (SetO X.w s.heap.objs.size (fun j => decide (j ∈ ns)) c), I.laid (t' := tk) hk (Nat.le_refl _) (setO_new new), rfl, q _ _ (I.hok.fresh (Nat.le_refl _)) hcn⟩
end
end SL

/-! sets: rules (own work) -/
namespace PL
open PySem L2
section
variable {X : Cx} {E : XK} {e o : Expr} {es : List Expr} {fe fo : FE} {fr : FA} {pos p0 apos cpos : Pos}
theorem xset0 (hg : Gl X "set") (hm : X.mg "set" = none) (hv : bootBuiltins "set" = some (.type "set")) : XE X E (.Call (.Name "set" p0) [] [] pos) (eCall (gSet0 X.prog X.w) aNil) :=
  ⟨_, pe_callTy0 cr_set0K hg hm hv, snd_call (fun β S w σ Γ Rx R Q hR hG hf hk hx => hk [] S w [] hf hR (.refl _ _) .nil) snd_set0⟩
def eSAdd (P : Program) (wo : World) (fo : FE) (fr : FA) : FE := fun Γ S Rx R => fo Γ S Rx fun b S1 => setB P wo b S1 (fun _ _ _ => True) ∧ fr Γ S1 Rx fun bs S2 => gSAdd P wo b bs S2 R
theorem xsadd (ho : XE X E o fo) (ha : XA X E (e :: es) fr) (hpe : ∀ {to : TE} {t : TA}, PE X o to → PA X (e :: es) t → PE X (.Call (.Attribute o "add" apos) (e :: es) [] cpos) (tSAddK X.prog X.w to t)) : XE X E (.Call (.Attribute o "add" apos) (e :: es) [] cpos) (eSAdd X.prog X.w fo fr) :=
  let ⟨_, q, u⟩ := ho.ex; let ⟨_, p, s⟩ := ha.ex
  ⟨_, hpe q p, fun β S w σ Γ Rx R Q hR hG hf hk hx => u β S w σ Γ Rx _ _ hR hG hf (fun b S1 w1 v h1 R1 l1 d1 => by
    obtain ⟨k, T, n, rfl, e1, _⟩ := setB_ok h1.1
    obtain ⟨_, rfl⟩ := id d1
    exact ⟨⟨_, _, _, rfl, R1.cellK e1⟩, s β S1 w1 σ Γ Rx _ _ R1 (hG.later l1) h1.2 (fun bs S2 w2 vs h2 R2 l2 d2 => snd_sadd β S2 w2 (.mt k) bs _ vs R Q R2 (d1.later l2) d2 h2 (hk.later (l1.trans l2))) (hx.later l1)⟩) hx⟩
theorem denInts {K : PySem.W.Frag} {F : Hp} : ∀ ns : List Int, DenL K F (ns.map .int) (ns.map V.int)
  | [] => .nil
  | n :: ns => .cons (.int n) (denInts ns)
/-- sorted(set(xs)), of numbers -/
def eSortSet (fe : FE) : FE := fun Γ S Rx R => fe Γ S Rx fun b S1 => lstD b S1 fun ds => asInts ds fun is => is.length < 63 ∧ ∀ ns : List Int, ns.Pairwise (· < ·) → (∀ k, k ∈ ns ↔ k ∈ is) → R (.fz (.lst (ns.map .int))) S1
theorem xsortSet {p1 p2 : Pos} (hc : X.calm = true) (hg : Gl X "sorted") (hm : X.mg "sorted" = none) (hv : bootBuiltins "sorted" = some (.builtin "sorted")) (hg2 : Gl X "set") (hm2 : X.mg "set" = none) (hv2 : bootBuiltins "set" = some (.type "set")) (he : XE X E e fe)
    (hs1 : starEach [.Call (.Name "set" p1) [e] [] p2] X.env = (false, eval (.Call (.Name "set" p1) [e] [] p2) X.env) :: starEach [] X.env := by rfl) (hs2 : starEach [e] X.env = (false, eval e X.env) :: starEach [] X.env := by rfl) :
    XE X E (.Call (.Name "sorted" p0) [.Call (.Name "set" p1) [e] [] p2] [] pos) (eSortSet fe) :=
  let ⟨_, p, s⟩ := he.ex
  ⟨_, pe_callB (cr_sortedSet hc) hg hm hv (pa_cons (pe_callTy (SL.cr_setL hc) hg2 hm2 hv2 (pa_cons p pa_nil hs2) (he := hs2)) pa_nil hs1) (he := hs1), fun β S w σ Γ Rx R Q hR hG hf hk hx => s β S w σ Γ Rx _ _ hR hG hf (fun b S1 w1 v h1 R1 l1 d1 => by
    obtain ⟨l, ds, vs, rfl, h2, h3, h4⟩ := lstD_ok R1 d1 h1
    obtain ⟨is, rfl, rfl, h5, h6⟩ := asInts_ok h4 h3
    have hsb : is.length + 1 < scanBound := Nat.lt_of_lt_of_le (by omega : is.length + 1 < 64) (by decide)
    refine ⟨l, is, rfl, SqL.of h2, hsb, fun p c hp hcl => ⟨p, _, c, rfl, upd_same, by omega, fun ns q hs hmem hl hq => ?_⟩⟩
    obtain ⟨R2, l2⟩ := R1.newF hp (SetO X.w p (fun j => decide (j ∈ is)) c)
    exact (hk.later (l1.trans l2)).newL R2 (h6 ns hs fun k => (hmem k).trans decide_eq_true_iff) (denInts ns) hq) hx⟩
end
end PL
/-! dict comprehensions: for good at once, or a cell (own work) -/
namespace PL
open PySem L2
def putKB (bs : List (Key × B)) (k : Key) (b : B) : List (Key × B) := if (bs.any fun kv => decide (kv.1 = k)) = true then bs.map (fun kv => if kv.1 = k then (kv.1, b) else kv) else bs ++ [(k, b)]
theorem DenBK.anyK {K : PySem.W.Frag} {n : Nat} {w : Wd} {k : Key} : ∀ {bs : List (Key × B)} {vs : List (Key × V)}, DenBK K n w bs vs → (bs.any fun kv => decide (kv.1 = k)) = (vs.any fun kv => decide (kv.1 = k))
  | _, _, .nil => rfl
  | _, _, .cons _ t => by rw [List.any_cons, List.any_cons, DenBK.anyK t]
theorem DenBK.put {K : PySem.W.Frag} {n : Nat} {w : Wd} {k : Key} {b : B} {v : V} (h : DenB K n w b v) {bs : List (Key × B)} {vs : List (Key × V)} (hb : DenBK K n w bs vs) : DenBK K n w (putKB bs k b) (putK vs k v) := by
  unfold putKB putK
  rw [hb.anyK (k := k)]
  have mp : ∀ {bs : List (Key × B)} {vs : List (Key × V)}, DenBK K n w bs vs → DenBK K n w (bs.map fun kv => if kv.1 = k then (kv.1, b) else kv) (vs.map fun kv => if kv.1 = k then (kv.1, v) else kv) := fun {bs vs} q => by
    induction q with
    | nil => exact .nil
    | @cons k' b' v' bs vs h' t ih =>
      rw [List.map_cons, List.map_cons]
      by_cases e : k' = k
      · rw [if_pos e, if_pos e]; exact .cons h ih
      · rw [if_neg e, if_neg e]; exact .cons h' ih
  have ap : ∀ {bs : List (Key × B)} {vs : List (Key × V)}, DenBK K n w bs vs → DenBK K n w (bs ++ [(k, b)]) (vs ++ [(k, v)]) := fun {bs vs} q => by
    induction q with
    | nil => exact .cons h .nil
    | cons h' t ih => exact .cons h' ih
  by_cases e : (vs.any fun kv => decide (kv.1 = k)) = true
  · rw [if_pos e, if_pos e]; exact mp hb
  · rw [if_neg e, if_neg e]; exact ap hb
/-- all for good -/
def asDK : List (Key × B) → (List (Key × D) → Prop) → Prop
  | [], k => k []
  | (x, .fz d) :: bs, k => asDK bs fun ds => k ((x, d) :: ds)
  | (_, .mt _) :: _, _ => False
theorem asDK_ok {K : PySem.W.Frag} {n : Nat} {w : Wd} : ∀ {bs : List (Key × B)} {vs : List (Key × V)} {k : List (Key × D) → Prop}, asDK bs k → DenBK K n w bs vs → ∃ ds, k ds ∧ DenK K w.F ds vs
  | [], _, _, h, .nil => ⟨[], h, .nil⟩
  | (x, .fz d) :: bs, _, _, h, .cons a t => by
    obtain ⟨ds, h1, h2⟩ := asDK_ok (bs := bs) h t
    exact ⟨(x, d) :: ds, h1, .cons a h2⟩
  | (_, .mt _) :: _, _, _, h, _ => (show False from h).elim
theorem asDK_map {ds : List (Key × D)} {k : List (Key × D) → Prop} (h : k ds) : asDK (ds.map fun p => (p.1, B.fz p.2)) k := by
  induction ds generalizing k with
  | nil => exact h
  | cons d ds ih => exact ih (k := fun ds => k (d :: ds)) h
def dcW (g : FG) (ft : FT) (fk fv : FE) (Γ0 : Ev) : List D → List (Key × B) → Sto → (List (Key × B) → Sto → Prop) → Prop
  | [], acc, S, R => R acc S
  | d :: ds, acc, S, R => g (.fz d) Γ0 S fun Γ1 S1 => ft Γ1 S1 noX fun k S2 => cnd k (fk Γ1 S2 noX fun bk S3 => fv Γ1 S3 noX fun bv S4 => match bk with
      | .fz x => optK (keyD x) fun y => acc.length < sizeLine ∧ dcW g ft fk fv Γ0 ds (putKB acc y bv) S4 R
      | .mt _ => False) (dcW g ft fk fv Γ0 ds acc S2 R)
theorem putKB_len (bs : List (Key × B)) (k : Key) (b : B) : (putKB bs k b).length ≤ bs.length + 1 := by
  unfold putKB
  by_cases e : (bs.any fun kv => decide (kv.1 = k)) = true
  · rw [if_pos e, List.length_map]; exact Nat.le_succ _
  · rw [if_neg e, List.length_append]; exact Nat.le_refl _
theorem dc_run {K : PySem.W.Frag} {E : XK} {wi : TI} {tgt : TG} {tt : TT} {tk tv : TE} {vs : List Nat} {fi : FI} {g : FG} {ft : FT} {fk fv : FE} {is : List Nat} {β : Base} {S0 : Sto} {w0 : Wd} {σ : St} {Γ : Ev} {Rx : XP} {fin : List (Key × B) → Sto → Prop} {Q0 : VK}
    (hi : SndI K E wi fi) (hg : SndG K tgt g is) (hin : ∀ i ∈ is, i ∈ vs) (ht : SndT K (fun _ _ _ => False) tt ft) (hk : SndE K (fun _ _ _ => False) tk fk) (hv : SndE K (fun _ _ _ => False) tv fv)
    (R0 : Rel K β S0 w0) (hG : EvOk K S0.length w0 Γ σ) (hx : XOk K E β S0.length w0 Rx) (hf : fi Γ S0 Rx fun ds S1 => dcW g ft fk fv (EvWipe Γ vs) ds [] S1 fin)
    (hfin : ∀ S w out D us, Rel K β S w → Later S0.length w0 S.length w → fin out S → DenBK K S.length w out us → w.H D = some (.dK us) → w.F D = none → β.H0 D = none → (∀ k c, S[k]? = some c → c ≠ .dead → w.m k ≠ D) → Q0 (.ref D) w.H) :
    tDc wi tgt tt tk tv vs σ w0.H Q0 :=
  hi β S0 w0 σ Γ Rx _ _ R0 hG hf (fun ds S1 w1 J h1 R1 l1 zs it D hD => by
    have G1 := (hG.later l1).wipe vs
    obtain ⟨R2, l2⟩ := R1.updFree (o := .dK []) (R1.fr.free hD) (R1.keep.free hD) (R1.freshL hD)
    refine ⟨fun i m H => m = ds.length - i ∧ i ≤ ds.length ∧ ∃ S w acc us, w.H = H ∧ Rel K β S w ∧ Later S1.length w1 S.length w ∧ w.H D = some (.dK us) ∧ DenBK K S.length w acc us ∧ w.F D = none ∧ β.H0 D = none ∧ (∀ k c, S[k]? = some c → c ≠ .dead → w.m k ≠ D) ∧ dcW g ft fk fv (EvWipe Γ vs) (ds.drop i) acc S fin,
      ⟨ds.length, rfl, Nat.zero_le _, S1, _, [], [], rfl, R2, l2, upd_same, .nil, R1.fr.free hD, R1.keep.free hD, R1.freshL hD, h1⟩, ?_⟩
    rintro i m _ ⟨rfl, hi, S, w, acc, us, rfl, hR, l, hw, hacc, hF, h0, hl, h⟩
    cases hd : ds.drop i with
    | nil =>
      rw [hd] at h
      have hle : ds.length ≤ i := by
        have := congrArg List.length hd
        rw [List.length_drop] at this
        have z : ([] : List PL.D).length = 0 := rfl
        omega
      exact .inl ⟨it.stop S w hR l i hle, hfin S w acc D us hR (l1.trans l) h hacc hw hF h0 hl⟩
    | cons d r =>
      rw [hd] at h
      obtain ⟨hx, hr⟩ := drop_at hd
      obtain ⟨go, y⟩ := it.go S w hR l i d hx
      have hlt := get_lt hx
      refine .inr ⟨go, fun H' => ∃ S w acc us, w.H = H' ∧ Rel K β S w ∧ Later S1.length w1 S.length w ∧ w.H D = some (.dK us) ∧ DenBK K S.length w acc us ∧ w.F D = none ∧ β.H0 D = none ∧ (∀ k c, S[k]? = some c → c ≠ .dead → w.m k ≠ D) ∧ dcW g ft fk fv (EvWipe Γ vs) r acc S fin,
        fun H' ⟨S, w, acc, us, q1, q2, q3, q4, q5, q6, q7, q8, q10⟩ => ⟨ds.length - (i + 1), by omega, rfl, hlt, S, w, acc, us, q1, q2, q3, q4, q5, q6, q7, q8, by rw [hr]; exact q10⟩, fun x H' hy => ?_⟩
      obtain ⟨w2, rfl, R2, l2, sm, d2⟩ := y x H' hy
      have hw2 := sm.1 _ _ hw
      have hF2 : w2.F D = none := by
        cases q : w2.F D with
        | none => rfl
        | some o =>
          rcases sm.2 D o q with z | z
          · rw [hF] at z; cases z
          · rw [hw] at z; cases z
      have hl2 : ∀ k c, S[k]? = some c → c ≠ .dead → w2.m k ≠ D := fun k c h1 h2 e => by
        rw [l2.m k (get_lt h1)] at e
        exact hl k c h1 h2 e
      have G2 := ((hG.later (l1.trans l)).later l2).wipe vs
      have kept : ∀ {S' : Sto} {w' : Wd}, Rel K (reb S w2) S' w' → w'.H D = some (.dK us) ∧ w'.F D = none ∧ (∀ k c, S'[k]? = some c → c ≠ .dead → w'.m k ≠ D) := fun {S' w'} R' => by
        have hD0 : (reb S w2).H0 D = some (.dK us) := reb_of hw2 hl2
        refine ⟨R'.keep _ _ hD0, ?_, fun k c h1 h2 e => ?_⟩
        · cases q : w'.F D with
          | none => rfl
          | some o =>
            rcases R'.fn D o q with z | z
            · have z : w2.F D = some o := z
              rw [hF2] at z; cases z
            · rw [hD0] at z; cases z
        · have := (R'.live k c h1 h2).n0
          rw [e, hD0] at this
          cases this
      have back : ∀ {S' : Sto} {w' : Wd}, Rel K (reb S w2) S' w' → Rel K β S' w' ∧ Later S.length w S'.length w' := fun R' => by
        obtain ⟨a1, a2⟩ := R2.unreb R'
        exact ⟨a1, l2.trans a2⟩
      refine hg (reb S w2) S w2 _ (EvWipe Γ vs) (.fz d) x _ _ R2.reb G2 d2 h fun Γ3 S3 w3 σ3 h3 R3 l3 G3 wp => ⟨(wp vs hin).trans (wipe_sub σ vs vs fun _ h => h), ?_⟩
      refine ht (reb S w2) S3 w3 σ3 Γ3 noX _ _ R3 G3 h3 (fun k S4 w4 h4 R4 l4 => ?_) xok_no
      cases k with
      | false =>
        obtain ⟨k1, k2, k3⟩ := kept R4
        obtain ⟨b1, b2⟩ := back R4
        exact ⟨S4, w4, acc, us, rfl, b1, l.trans b2, k1, hacc.later b2, k2, h0, k3, h4⟩
      | true =>
        refine hk (reb S w2) S4 w4 σ3 Γ3 noX _ _ R4 (G3.later l4) h4 (fun bk S5 w5 vk h5 R5 l5 d5 => ?_) xok_no
        refine hv (reb S w2) S5 w5 σ3 Γ3 noX _ _ R5 (G3.later (l4.trans l5)) h5 (fun bv S6 w6 vv h6 R6 l6 d6 => ?_) xok_no
        cases bk with
        | mt _ => exact (show False from h6).elim
        | fz xk =>
          obtain ⟨yk, e1, hz, h7⟩ := optK_ok h6
          obtain rfl := keyD_ok (show Den K w5.F xk vk from d5) e1
          obtain ⟨k1, k2, k3⟩ := kept R6
          obtain ⟨b1, b2⟩ := back R6
          have la := hacc.length
          obtain ⟨R7, l7⟩ := b1.updFree (o := .dK (putK us yk vv)) k2 h0 k3
          exact ⟨us, yk, rfl, k1, by omega, S6, _, putKB acc yk bv, putK us yk vv, rfl, R7, l.trans (b2.trans l7), upd_same, DenBK.put (d6.later l7) ((hacc.later b2).later l7), k2, h0, k3, h7⟩) hx
/-- a new dict, locked at once -/
def tLock (t : TE) : TE := fun σ H Q => t σ H fun v H1 => ∃ a kvs, v = .ref a ∧ H1 a = some (.dK kvs) ∧ ∀ o, Q v (upd H1 a (.frz o (.dK kvs)))
theorem pe_lock {X : Cx} {e : Expr} {t : TE} (h : PE X e t) : PE X e (tLock t) :=
  ⟨fun pins s σ H Q I hw => thn (h.run pins s σ H _ I hw) fun u s1 ⟨v, H1, I1, rv, a, kvs, ev, ha, hq⟩ => by
    obtain ⟨od, I2⟩ := I1.lock ha (by trivial)
    exact ⟨v, _, I2, rv, hq od⟩⟩
end PL
namespace PL
open PySem L2
/-- a new thing, locked: for good -/
theorem Rel.lockF {K : PySem.W.Frag} {β : Base} {S : Sto} {w : Wd} (hR : Rel K β S w) {D : Addr} (hF : w.F D = none) (h0 : β.H0 D = none) (hl : ∀ k c, S[k]? = some c → c ≠ .dead → w.m k ≠ D) (o : HO) :
    Rel K β S ⟨w.m, upd w.F D o, upd w.H D o⟩ ∧ Later S.length w S.length ⟨w.m, upd w.F D o, upd w.H D o⟩ := by
  obtain ⟨R2, l2⟩ := hR.updFree (o := o) hF h0 hl
  obtain ⟨R3, l3⟩ := R2.adoptF (D := D) (o := o) upd_same hF h0 hl
  exact ⟨R3, l2.trans l3⟩
section
variable {X : Cx} {E : XK} {kx vx tg iter : Expr} {ifs : List Expr} {scope : Scope} {own : List (Str × Nat)} {fi : FI} {g : FG} {ft : FT} {fk fv : FE} {pos : Pos} {is : List Nat}
def eDc (fi : FI) (g : FG) (ft : FT) (fk fv : FE) (is : List Nat) : FE := fun Γ S Rx R => fi Γ S Rx fun ds S1 => dcW g ft fk fv (EvWipe Γ is) ds [] S1 fun out S2 => asDK out fun os => R (.fz (.dic os)) S2
def eDcM (fi : FI) (g : FG) (ft : FT) (fk fv : FE) (is : List Nat) : FE := fun Γ S Rx R => fi Γ S Rx fun ds S1 => dcW g ft fk fv (EvWipe Γ is) ds [] S1 fun out S2 => R (.mt S2.length) (S2 ++ [.dic out])
theorem x_dc (hc : X.calm = true) (hN : X.N.Nodup) (hi : XI X E tg iter fi) (ok : BlkOk X.N X.env.scope scope own) (hin : ∀ i ∈ is, i ∈ own.map (·.2))
    (hg : ∀ c : Ctx5, XG (X.blk c.1 c.2.1 scope (compEnvC scope c.2.2.2.1 c.2.2.1 X.env) c.2.2.2.2) tg g is)
    (ht : ∀ c : Ctx5, XIfs (X.blk c.1 c.2.1 scope (compEnvC scope c.2.2.2.1 c.2.2.1 X.env) c.2.2.2.2) ifs ft)
    (hk : ∀ c : Ctx5, XE (X.blk c.1 c.2.1 scope (compEnvC scope c.2.2.2.1 c.2.2.1 X.env) c.2.2.2.2) (fun _ _ _ => False) kx fk)
    (hv : ∀ c : Ctx5, XE (X.blk c.1 c.2.1 scope (compEnvC scope c.2.2.2.1 c.2.2.1 X.env) c.2.2.2.2) (fun _ _ _ => False) vx fv)
    (hs : ∀ x, foldedSetIterable iter X.env x = pure x := by intro _; rfl) : XE X E (.DictComp kx vx [⟨tg, iter, ifs, 0⟩] scope pos) (eDc fi g ft fk fv (own.map (·.2))) :=
  let ⟨_, o, r⟩ := hi.ex
  let ⟨_, p, s⟩ := allG (Xf := fun c : Ctx5 => X.blk c.1 c.2.1 scope (compEnvC scope c.2.2.2.1 c.2.2.1 X.env) c.2.2.2.2) (K := X.K) (fun _ => rfl) hg
  let ⟨_, q, t⟩ := allIf (Xf := fun c : Ctx5 => X.blk c.1 c.2.1 scope (compEnvC scope c.2.2.2.1 c.2.2.1 X.env) c.2.2.2.2) (K := X.K) (fun _ => rfl) ht
  let ⟨_, u, v⟩ := allE (Xf := fun c : Ctx5 => X.blk c.1 c.2.1 scope (compEnvC scope c.2.2.2.1 c.2.2.1 X.env) c.2.2.2.2) (K := X.K) (fun _ => rfl) hk
  let ⟨_, u2, v2⟩ := allE (Xf := fun c : Ctx5 => X.blk c.1 c.2.1 scope (compEnvC scope c.2.2.2.1 c.2.2.1 X.env) c.2.2.2.2) (K := X.K) (fun _ => rfl) hv
  ⟨_, pe_lock (pe_dc hc hN o ok (fun s H C cl fp => p (s, H, C, cl, fp)) (fun s H C cl fp => q (s, H, C, cl, fp)) (fun s H C cl fp => u (s, H, C, cl, fp)) (fun s H C cl fp => u2 (s, H, C, cl, fp)) hs),
    fun β S w σ Γ Rx R Q hR hG hf hk hx => dc_run r s hin t v v2 hR hG hx hf fun S2 w2 out D us R2 l2 h hacc hw hF h0 hl => ⟨D, us, rfl, hw, fun ob => by
      obtain ⟨os, h3, h4⟩ := asDK_ok h hacc
      obtain ⟨R3, l3⟩ := R2.lockF hF h0 hl (.frz ob (.dK us))
      exact (hk.later l2) _ S2 _ (.ref D) h3 R3 l3 (Den.dic (vs := us) upd_same (DenK.mono l3.F h4))⟩⟩
theorem x_dcM (hc : X.calm = true) (hN : X.N.Nodup) (hi : XI X E tg iter fi) (ok : BlkOk X.N X.env.scope scope own) (hin : ∀ i ∈ is, i ∈ own.map (·.2))
    (hg : ∀ c : Ctx5, XG (X.blk c.1 c.2.1 scope (compEnvC scope c.2.2.2.1 c.2.2.1 X.env) c.2.2.2.2) tg g is)
    (ht : ∀ c : Ctx5, XIfs (X.blk c.1 c.2.1 scope (compEnvC scope c.2.2.2.1 c.2.2.1 X.env) c.2.2.2.2) ifs ft)
    (hk : ∀ c : Ctx5, XE (X.blk c.1 c.2.1 scope (compEnvC scope c.2.2.2.1 c.2.2.1 X.env) c.2.2.2.2) (fun _ _ _ => False) kx fk)
    (hv : ∀ c : Ctx5, XE (X.blk c.1 c.2.1 scope (compEnvC scope c.2.2.2.1 c.2.2.1 X.env) c.2.2.2.2) (fun _ _ _ => False) vx fv)
    (hs : ∀ x, foldedSetIterable iter X.env x = pure x := by intro _; rfl) : XE X E (.DictComp kx vx [⟨tg, iter, ifs, 0⟩] scope pos) (eDcM fi g ft fk fv (own.map (·.2))) :=
  let ⟨_, o, r⟩ := hi.ex
  let ⟨_, p, s⟩ := allG (Xf := fun c : Ctx5 => X.blk c.1 c.2.1 scope (compEnvC scope c.2.2.2.1 c.2.2.1 X.env) c.2.2.2.2) (K := X.K) (fun _ => rfl) hg
  let ⟨_, q, t⟩ := allIf (Xf := fun c : Ctx5 => X.blk c.1 c.2.1 scope (compEnvC scope c.2.2.2.1 c.2.2.1 X.env) c.2.2.2.2) (K := X.K) (fun _ => rfl) ht
  let ⟨_, u, v⟩ := allE (Xf := fun c : Ctx5 => X.blk c.1 c.2.1 scope (compEnvC scope c.2.2.2.1 c.2.2.1 X.env) c.2.2.2.2) (K := X.K) (fun _ => rfl) hk
  let ⟨_, u2, v2⟩ := allE (Xf := fun c : Ctx5 => X.blk c.1 c.2.1 scope (compEnvC scope c.2.2.2.1 c.2.2.1 X.env) c.2.2.2.2) (K := X.K) (fun _ => rfl) hv
  ⟨_, pe_dc hc hN o ok (fun s H C cl fp => p (s, H, C, cl, fp)) (fun s H C cl fp => q (s, H, C, cl, fp)) (fun s H C cl fp => u (s, H, C, cl, fp)) (fun s H C cl fp => u2 (s, H, C, cl, fp)) hs,
    fun β S w σ Γ Rx R Q hR hG hf hk hx => dc_run r s hin t v v2 hR hG hx hf fun S2 w2 out D us R2 l2 h hacc hw hF h0 hl => by
      obtain ⟨R3, l3⟩ := R2.adoptC (c := .dic out) ⟨us, hw, hacc⟩ (by intro z; cases z) hF h0 hl
      exact (hk.later l2) _ _ ⟨fun k => if k = S2.length then D else w2.m k, w2.F, w2.H⟩ (.ref D) h R3 l3 ⟨by rw [List.length_append]; exact Nat.lt_succ_self _, congrArg V.ref (if_pos rfl).symm⟩⟩
end
end PL
/-! dicts that are read (own work) -/
namespace PL
open PySem L2
def valB (bs : List (Key × B)) (k : Key) : Option B := (bs.find? fun kv => decide (kv.1 = k)).map (·.2)
section
variable {K : PySem.W.Frag} {β : Base} {S : Sto} {w : Wd} {n : Nat}
theorem DenBK.val {k : Key} : ∀ {bs : List (Key × B)} {vs : List (Key × V)}, DenBK K n w bs vs → (valB bs k = none ∧ valV vs k = none) ∨ ∃ b v, valB bs k = some b ∧ valV vs k = some v ∧ DenB K n w b v
  | _, _, .nil => .inl ⟨rfl, rfl⟩
  | _, _, @DenBK.cons _ _ _ k' b v bs vs h t => by
    by_cases e : k' = k
    · refine .inr ⟨b, v, ?_, valV_pos (p := (k', v)) e, h⟩
      unfold valB
      rw [List.find?_cons_of_pos (by exact decide_eq_true e)]
      rfl
    · have e1 : valB ((k', b) :: bs) k = valB bs k := by
        unfold valB
        rw [List.find?_cons_of_neg (by show ¬ decide (k' = k) = true; rw [decide_eq_true_eq]; exact e)]
      rw [e1, valV_neg (p := (k', v)) e]
      exact DenBK.val t
theorem DenK.bzK : ∀ {ds : List (Key × D)} {vs : List (Key × V)}, DenK K w.F ds vs → DenBK K n w (ds.map fun p => (p.1, B.fz p.2)) vs
  | _, _, .nil => .nil
  | _, _, .cons h t => .cons (b := .fz _) h (DenK.bzK t)
/-- a dict's rows -/
def dicAt (b : B) (S : Sto) (k : List (Key × B) → Prop) : Prop := match b with
  | .fz (.dic ds) => k (ds.map fun p => (p.1, B.fz p.2))
  | .mt j => (match S[j]? with
    | some (.dic bs) => k bs
    | _ => False)
  | _ => False
theorem dicAt_ok {b : B} {v : V} {k : List (Key × B) → Prop} (hR : Rel K β S w) (hb : DenB K S.length w b v) (h : dicAt b S k) : ∃ a bs us, v = .ref a ∧ Rd w.H a (.dK us) ∧ DenBK K S.length w bs us ∧ k bs := by
  cases b with
  | fz y =>
    have hb : Den K w.F y v := hb
    cases hb with
    | dic h1 h2 => exact ⟨_, _, _, rfl, .inr ⟨_, hR.fr _ _ h1⟩, h2.bzK, h⟩
    | _ => exact (show False from h).elim
  | mt j =>
    obtain ⟨_, rfl⟩ := hb
    have g : (match S[j]? with
      | some (.dic bs) => k bs
      | _ => False) := h
    clear h
    cases hc : S[j]? with
    | none => rw [hc] at g; exact g.elim
    | some cl =>
      rw [hc] at g
      cases cl with
      | dic bs =>
        obtain ⟨us, h3, h4⟩ := hR.cellD hc
        exact ⟨_, bs, us, rfl, .inl h3, h4, g⟩
      | _ => exact (show False from g).elim
end
section
variable {X : Cx} {E : XK} {o i e f : Expr} {fo fi fe ff : FE} {pos apos cpos : Pos}
theorem dget {K : PySem.W.Frag} {H : Hp} {a : Addr} {us : List (Key × V)} {k : Key} (h : Rd H a (.dK us)) : DGet H a (kV k) (valV us k) := .inl ⟨us, k, h, rfl, rfl⟩
/-- d[i] -/
def eDIx (fo fi : FE) : FE := fun Γ S Rx R => fo Γ S Rx fun b S1 => fi Γ S1 Rx fun c S2 => match c with
  | .fz x => optK (keyD x) fun y => dicAt b S2 fun bs => optK (valB bs y) fun z => R z S2
  | .mt _ => False
theorem xdix (hu : X.A.units + 1 < cLine) (ho : XE X E o fo) (hi : XE X E i fi) (hs : NoSl i) : XE X E (.Subscript o i pos) (eDIx fo fi) :=
  let ⟨_, p, s⟩ := ho.ex; let ⟨_, q, t⟩ := hi.ex
  ⟨_, pe_dget hu p q hs, fun β S w σ Γ Rx R Q hR hG hf hk hx => s β S w σ Γ Rx _ _ hR hG hf (fun b S1 w1 v h1 R1 l1 d1 => t β S1 w1 σ Γ Rx _ _ R1 (hG.later l1) h1 (fun c S2 w2 u h2 R2 l2 d2 => by
    cases c with
    | mt _ => exact (show False from h2).elim
    | fz x =>
      obtain ⟨y, e1, h3⟩ := optK_ok h2
      obtain rfl := keyD_ok (show Den X.K w2.F x u from d2) e1
      obtain ⟨a, bs, us, rfl, h4, h5, h6⟩ := dicAt_ok R2 (d1.later l2) h3
      obtain ⟨z, e2, h7⟩ := optK_ok h6
      rcases h5.val (k := y) with ⟨e3, _⟩ | ⟨z', v', e3, e4, d3⟩
      · rw [e3] at e2; cases e2
      · rw [e3] at e2; cases e2
        exact ⟨a, v', rfl, e4 ▸ dget (K := X.K) h4, hk _ S2 w2 v' h7 R2 (l1.trans l2) d3⟩) (hx.later l1)) hx⟩
/-- i in d -/
def eDIn (neg : Bool) (fi fo : FE) : FE := fun Γ S Rx R => fi Γ S Rx fun c S1 => fo Γ S1 Rx fun b S2 => match c with
  | .fz x => optK (keyD x) fun y => dicAt b S2 fun bs => R (.fz (.bl (neg != (valB bs y).isSome))) S2
  | .mt _ => False
theorem din_core {β : Base} {S : Sto} {w : Wd} {σ : St} {Γ : Ev} {Rx : XP} {R : RB} {Q : VK} {ti to : TE} {neg : Bool} {K : PySem.W.Frag} (t : SndE K E ti fi) (s : SndE K E to fo) (hR : Rel K β S w) (hG : EvOk K S.length w Γ σ) (hf : eDIn neg fi fo Γ S Rx R) (hk : KOk K β S.length w R Q) (hx : XOk K E β S.length w Rx) :
    ti σ w.H fun y H1 => to σ H1 fun x H2 => ∃ a ob, x = .ref a ∧ DGet H2 a y ob ∧ Q (.bl (neg != ob.isSome)) H2 :=
  t β S w σ Γ Rx _ _ hR hG hf (fun c S1 w1 u h1 R1 l1 d1 => s β S1 w1 σ Γ Rx _ _ R1 (hG.later l1) h1 (fun b S2 w2 v h2 R2 l2 d2 => by
    cases c with
    | mt _ => exact (show False from h2).elim
    | fz x =>
      obtain ⟨y, e1, h3⟩ := optK_ok h2
      obtain rfl := keyD_ok (show Den K w1.F x u from d1) e1
      obtain ⟨a, bs, us, rfl, h4, h5, h6⟩ := dicAt_ok R2 d2 h3
      refine ⟨a, valV us y, rfl, dget (K := K) h4, ?_⟩
      have e : (valV us y).isSome = (valB bs y).isSome := by
        rcases h5.val (k := y) with ⟨e3, e4⟩ | ⟨z', v', e3, e4, _⟩ <;> rw [e3, e4] <;> rfl
      rw [e]
      exact (hk.later (l1.trans l2)).fz R2 h6 (.bl _)) (hx.later l1)) hx
theorem xt_din (hu : X.A.units + 1 < cLine) (hi : XE X E i fi) (ho : XE X E o fo) (hm : behindInMarks .In o = false) : XT X E (.Compare i [.In] [o] pos) (tBl (eDIn false fi fo)) :=
  let ⟨_, q, t⟩ := hi.ex; let ⟨_, p, s⟩ := ho.ex
  ⟨_, pt_cmp (pc_din hu q p) hm, sndT_bl fun β S w σ Γ Rx R Q hR hG hf hk hx => by
    have z := din_core (neg := false) t s hR hG hf hk hx
    simp only [Bool.false_bne] at z
    exact z⟩
theorem xt_dnotin (hu : X.A.units + 1 < cLine) (hi : XE X E i fi) (ho : XE X E o fo) (hm : behindInMarks .NotIn o = false) : XT X E (.Compare i [.NotIn] [o] pos) (tBl (eDIn true fi fo)) :=
  let ⟨_, q, t⟩ := hi.ex; let ⟨_, p, s⟩ := ho.ex
  ⟨_, pt_cmp (pc_dnotin hu q p) hm, sndT_bl fun β S w σ Γ Rx R Q hR hG hf hk hx => by
    have z := din_core (neg := true) t s hR hG hf hk hx
    simp only [Bool.true_bne] at z
    exact z⟩
theorem x_din (hu : X.A.units + 1 < cLine) (hi : XE X E i fi) (ho : XE X E o fo) (hm : behindInMarks .In o = false) : XE X E (.Compare i [.In] [o] pos) (eDIn false fi fo) :=
  let ⟨_, q, t⟩ := hi.ex; let ⟨_, p, s⟩ := ho.ex
  ⟨_, pe_cmp (pc_din hu q p) hm, fun β S w σ Γ Rx R Q hR hG hf hk hx => by
    have z := din_core (neg := false) t s hR hG hf hk hx
    simp only [Bool.false_bne] at z
    exact z⟩
theorem x_dnotin (hu : X.A.units + 1 < cLine) (hi : XE X E i fi) (ho : XE X E o fo) (hm : behindInMarks .NotIn o = false) : XE X E (.Compare i [.NotIn] [o] pos) (eDIn true fi fo) :=
  let ⟨_, q, t⟩ := hi.ex; let ⟨_, p, s⟩ := ho.ex
  ⟨_, pe_cmp (pc_dnotin hu q p) hm, fun β S w σ Γ Rx R Q hR hG hf hk hx => by
    have z := din_core (neg := true) t s hR hG hf hk hx
    simp only [Bool.true_bne] at z
    exact z⟩
/-- d.get(e, f) -/
def eDGet2 (fo fe ff : FE) : FE := fun Γ S Rx R => fo Γ S Rx fun b S1 => dicAt b S1 (fun _ => True) ∧ fe Γ S1 Rx fun c S2 => ff Γ S2 Rx fun d S3 => match c with
  | .fz x => optK (keyD x) fun y => dicAt b S3 fun bs => R ((valB bs y).getD d) S3
  | .mt _ => False
theorem xdget2 (hu : X.A.units + 1 < cLine) (m : M2 X o "get" apos e f cpos) (ho : XE X E o fo) (he : XE X E e fe) (hf : XE X E f ff) : XE X E (.Call (.Attribute o "get" apos) [e, f] [] cpos) (eDGet2 fo fe ff) :=
  let ⟨_, p, s⟩ := ho.ex; let ⟨_, q, t⟩ := he.ex; let ⟨_, r, t2⟩ := hf.ex
  ⟨_, pe_dget2 hu p q r m, fun β S w σ Γ Rx R Q hR hG hf hk hx => s β S w σ Γ Rx _ _ hR hG hf (fun b S1 w1 v h1 R1 l1 d1 => by
    obtain ⟨a, bs, us, rfl, h4, _, _⟩ := dicAt_ok R1 d1 h1.1
    refine ⟨a, rfl, .inl ⟨us, h4⟩, t β S1 w1 σ Γ Rx _ _ R1 (hG.later l1) h1.2 (fun c S2 w2 u h2 R2 l2 d2 => t2 β S2 w2 σ Γ Rx _ _ R2 (hG.later (l1.trans l2)) h2 (fun d S3 w3 z h3 R3 l3 d3 => ?_) (hx.later (l1.trans l2))) (hx.later l1)⟩
    cases c with
    | mt _ => exact (show False from h3).elim
    | fz x =>
      obtain ⟨y, e1, h5⟩ := optK_ok h3
      obtain rfl := keyD_ok (show Den X.K w2.F x u from d2) e1
      obtain ⟨a', bs2, us2, e2, h6, h7, h8⟩ := dicAt_ok R3 ((d1.later l2).later l3) h5
      cases e2
      refine ⟨valV us2 y, dget (K := X.K) h6, ?_⟩
      rcases h7.val (k := y) with ⟨e3, e4⟩ | ⟨z', v', e3, e4, d4⟩
      · rw [e3] at h8; rw [e4]; exact hk _ S3 w3 z h8 R3 ((l1.trans l2).trans l3) d3
      · rw [e3] at h8; rw [e4]; exact hk _ S3 w3 v' h8 R3 ((l1.trans l2).trans l3) d4) hx⟩
end
end PL
/-! the rows of a dict, walked; list(d) (own work) -/
namespace PL
open PySem L2
def keyV : Key → D
  | .inl i => .int i
  | .inr z => .str z
section
variable {K : PySem.W.Frag} {F : Hp}
theorem den_key : ∀ k : Key, Den K F (keyV k) (kV k)
  | .inl i => .int i
  | .inr z => .str z
theorem DenK.getK : ∀ {ds : List (Key × D)} {vs : List (Key × V)}, DenK K F ds vs → ∀ {i : Nat} {p : Key × D}, ds[i]? = some p → ∃ v, vs[i]? = some (p.1, v) ∧ Den K F p.2 v
  | _, _, .nil, _, _, h => by cases h
  | _, _, .cons a _, 0, _, h => by cases h; exact ⟨_, rfl, a⟩
  | _, _, .cons _ t, i + 1, _, h => DenK.getK t (i := i) h
theorem DenK.lengthK : ∀ {ds : List (Key × D)} {vs : List (Key × V)}, DenK K F ds vs → ds.length = vs.length
  | _, _, .nil => rfl
  | _, _, .cons _ t => congrArg (· + 1) (DenK.lengthK t)
def rowD (p : Key × D) : D := .tup [keyV p.1, p.2]
theorem row_at {ds : List (Key × D)} {i : Nat} {x : D} (h : (ds.map rowD)[i]? = some x) : ∃ p, ds[i]? = some p ∧ x = rowD p := by
  rw [List.getElem?_map] at h
  cases q : ds[i]? with
  | none => rw [q] at h; cases h
  | some p => rw [q] at h; cases h; exact ⟨p, rfl, rfl⟩
end
section
variable {X : Cx} {E : XK} {e : Expr} {fe : FE} {elts : List Expr} {kk : Nat} {tpos apos cpos : Pos}
def iDItems (fe : FE) : FI := fun Γ S Rx R => fe Γ S Rx fun b S1 => match b with
  | .fz (.dic ds) => ds.length ≤ sizeLine ∧ R (ds.map rowD) S1
  | _ => False
theorem xi_items (he : XE X E e fe) (hbase : attributeBase e "items" X.env (eval e X.env) = eval e X.env := by rfl) (hline : (apos.endLine == cpos.line) = true := by rfl) : XI X E (.Tuple elts kk tpos) (.Call (.Attribute e "items" apos) [] [] cpos) (iDItems fe) :=
  let ⟨_, p, s⟩ := he.ex
  ⟨_, pi_items p hbase hline, fun β S w σ Γ Rx R Q hR hG hf hk hx => s β S w σ Γ Rx _ _ hR hG hf (fun b S1 w1 v h1 R1 l1 d1 => by
    cases b with
    | mt _ => exact (show False from h1).elim
    | fz y =>
      have d1 : Den X.K w1.F y v := d1
      cases d1 with
      | @dic a o ds vs h2 h3 =>
        refine ⟨a, o, vs, rfl, R1.fr _ _ h2, hk _ S1 w1 _ h1.2 R1 l1 (by rw [List.length_map]; exact h1.1) ⟨fun S' w' R' l' i d hd => ?_, fun S' w' R' l' i hi => ⟨R'.fr _ _ (l'.F _ _ h2), by rw [List.length_map] at hi; rw [← h3.lengthK]; exact hi⟩⟩⟩
        obtain ⟨p, hp, rfl⟩ := row_at hd
        obtain ⟨v, hv, dv⟩ := (DenK.mono l'.F h3).getK hp
        refine ⟨⟨R'.fr _ _ (l'.F _ _ h2), get_lt hv⟩, fun x H' ⟨T, k', v', e1, e2, e3, e4⟩ => ?_⟩
        rw [hv] at e1
        cases e1
        subst e2 e4
        exact new_pair R' e3 (den_key p.1) dv
      | _ => exact (show False from h1).elim) hx⟩
end
section
variable {K : PySem.W.Frag}
def gListD : GL := fun bs S R => match bs with
  | [b] => dicAt b S fun rows => R (.fz (.lst (rows.map fun p => keyV p.1))) S
  | _ => False
theorem den_keys {n : Nat} {w : Wd} : ∀ {bs : List (Key × B)} {vs : List (Key × V)}, DenBK K n w bs vs → DenL K w.F (bs.map fun p => keyV p.1) (vs.map fun kv => kV kv.1)
  | _, _, .nil => .nil
  | _, _, .cons _ t => .cons (den_key _) (den_keys t)
theorem snd_listD : SndL K (fun xs H Q => ∃ (a : Addr) (kvs : List (Key × V)), xs = [.ref a] ∧ Rd H a (.dK kvs) ∧ ∀ p, H p = none → Q (.ref p) (upd H p (.lst (kvs.map fun kv => kV kv.1)))) gListD := fun β S w bs vs R Q hR hb hg hk => by
  match bs, hg, hb with
  | [b], hg, hb =>
    obtain ⟨v, rfl, h1⟩ := hb.one
    obtain ⟨a, rows, us, rfl, h2, h3, h4⟩ := dicAt_ok (k := fun rows => R (.fz (.lst (rows.map fun p : Key × B => keyV p.1))) S) hR h1 hg
    exact ⟨a, us, rfl, h2, fun p hp => hk.newL hR h4 (den_keys h3) hp⟩
end
end PL
namespace PL
open PySem L2
theorem unit1 {X : Cx} (h : X.A.units + 64 < cLine) : X.A.units + 1 < cLine := by omega
end PL
/-! dicts that change: {}, d.setdefault(k, []), for good with their lists (own work) -/
namespace PL
open PySem L2
section
variable {K : PySem.W.Frag} {β : Base} {S : Sto} {w : Wd}
/-- the rows for good, the lists in them too -/
def rowsD : Sto → List (Key × B) → (List (Key × D) → Sto → Prop) → Prop
  | S, [], k => k [] S
  | S, (x, .fz d) :: r, k => rowsD S r fun ds S' => k ((x, d) :: ds) S'
  | S, (x, .mt j) :: r, k => match S[j]? with
    | some (.lst bs) => asDs bs fun es => rowsD (S.set j .dead) r fun ds S' => k ((x, .lst es) :: ds) S'
    | _ => False
theorem rows_frz : ∀ {rows : List (Key × B)} {us : List (Key × V)} {S : Sto} {w : Wd} {k : List (Key × D) → Sto → Prop}, Rel K β S w → DenBK K S.length w rows us → rowsD S rows k →
    ∃ ds S' F', S'.length = S.length ∧ Rel K β S' ⟨w.m, F', w.H⟩ ∧ Later S.length w S'.length ⟨w.m, F', w.H⟩ ∧ DenK K F' ds us ∧ (∀ (i : Nat) (c : Cell), S[i]? = some c → (∀ bs : List B, c ≠ Cell.lst bs) → S'[i]? = some c) ∧ k ds S'
  | [], _, S, w, _, hR, .nil, h => ⟨[], S, w.F, rfl, hR, .refl _ _, .nil, fun _ _ e _ => e, h⟩
  | (x, .fz d) :: r, _, S, w, _, hR, .cons a t, h => by
    obtain ⟨ds, S', F', h1, h2, h3, h4, h5, h6⟩ := rows_frz (rows := r) hR t h
    exact ⟨(x, d) :: ds, S', F', h1, h2, h3, .cons (Den.mono h3.F a) h4, h5, h6⟩
  | (x, .mt j) :: r, _, S, w, k, hR, .cons a t, h => by
    obtain ⟨bs, e1, h1⟩ := cell_lst (f := fun bs => asDs bs fun es => rowsD (S.set j .dead) r fun ds S' => k ((x, .lst es) :: ds) S') h
    obtain ⟨es, rfl, h2⟩ := asDs_eq h1
    obtain ⟨vs, h3, h4⟩ := hR.cellL e1
    obtain ⟨R1, l1⟩ := hR.freeze e1 (by intro z; cases z) h3
    obtain ⟨ds, S', F', q1, q2, q3, q4, q5, q6⟩ := rows_frz (rows := r) R1 (t.later l1) h2
    obtain ⟨_, rfl⟩ := a
    have hd : Den K F' (.lst es) (.ref (w.m j)) := Den.mono q3.F (Den.lst upd_same (DenL.mono l1.F h4.fz))
    refine ⟨(x, .lst es) :: ds, S', F', by rw [q1, List.length_set], q2, l1.trans q3, .cons hd q4, fun i c e ne => q5 i c ?_ ne, q6⟩
    have ij : j ≠ i := fun z => by
      subst z
      rw [e1] at e
      cases e
      exact ne _ rfl
    rw [List.getElem?_set_ne ij]
    exact e
/-- a slot's dict is for good from here on, with its lists -/
def sFrzD (i : Nat) (f : FS) : FS := fun Γ S P => match Γ[i]? with
  | some (some (.mt k)) => (match S[k]? with
    | some (.dic rows) => rowsD S rows fun ds S' => f (Γ.set i (some (.fz (.dic ds)))) (S'.set k .dead) P
    | _ => False)
  | _ => False
theorem pss_lock {X : Cx} {sts : List Stmt} {t : TS} (h : PSs X sts t) : PSs X sts (fun D σ H => ∃ a kvs, H a = some (.dK kvs) ∧ ∀ o, t D σ (upd H a (.frz o (.dK kvs)))) :=
  ⟨fun pins s σ H D I ⟨a, kvs, ha, hq⟩ => by
    obtain ⟨od, I2⟩ := I.lock ha (by trivial)
    exact h.run pins s σ _ D I2 (hq od)⟩
theorem xs_frzD {X : Cx} {E : XK} {sts : List Stmt} {f : FS} {i : Nat} (h : XSs X E sts f) : XSs X E sts (sFrzD i f) :=
  let ⟨_, p, s⟩ := h.ex
  ⟨_, pss_lock p, fun β S w σ Γ P De hR hG hf hk => by
    unfold sFrzD at hf
    cases hb : Γ[i]? with
    | none => rw [hb] at hf; exact hf.elim
    | some ob =>
      rw [hb] at hf
      cases ob with
      | none => exact (show False from hf).elim
      | some b =>
        cases b with
        | fz _ => exact (show False from hf).elim
        | mt k =>
          have hf : (match S[k]? with
            | some (.dic rows) => rowsD S rows fun ds S' => f (Γ.set i (some (.fz (.dic ds)))) (S'.set k .dead) P
            | _ => False) := hf
          cases hc : S[k]? with
          | none => rw [hc] at hf; exact hf.elim
          | some cl =>
            rw [hc] at hf
            cases cl with
            | dic rows =>
              obtain ⟨us, h3, h4⟩ := hR.cellD hc
              obtain ⟨ds, S', F', q1, R1, l1, q4, q5, q6⟩ := rows_frz hR h4 hf
              have hc' := q5 k _ hc (fun bs z => by cases z)
              have L := R1.live k _ hc' (by intro z; cases z)
              refine ⟨w.m k, us, h3, fun ob => ?_⟩
              obtain ⟨R2, l2⟩ := R1.setC hc' (by intro z; cases z) (o := .frz ob (.dK us)) (c' := .dead) trivial
              obtain ⟨R3, l3⟩ := R2.adoptF (D := w.m k) (o := .frz ob (.dK us)) upd_same L.nf L.n0 fun j c hj hd e => by
                by_cases z : j = k
                · subst z
                  rw [List.getElem?_set_self (get_lt hc')] at hj
                  cases hj
                  exact hd rfl
                · rw [List.getElem?_set_ne (fun y => z y.symm)] at hj
                  exact z (R1.inj j k c _ hj hc' hd (by intro y; cases y) e)
              have ll := (l1.trans l2).trans l3
              obtain ⟨v, h5, h6⟩ := hG.at_ i _ hb
              obtain ⟨_, rfl⟩ := h6
              have G1 := (hG.later ll).set (v := .ref (w.m k)) (b := .fz (.dic ds)) i (Den.dic (vs := us) upd_same (DenK.mono (l2.trans l3).F q4))
              have es : σ.set i (some (.ref (w.m k))) = σ := by
                refine List.ext_getElem? fun j => ?_
                by_cases hj : j = i
                · subst hj
                  rw [List.getElem?_set_self (get_lt h5), h5]
                · rw [List.getElem?_set_ne (Ne.symm hj)]
              rw [es] at G1
              exact s β _ _ σ _ P De R3 G1 q6 hk
            | _ => exact (show False from hf).elim⟩
end
end PL
namespace PL
open PySem L2
section
variable {X : Cx} {E : XK} {o e f : Expr} {fo fe : FE} {pos apos cpos : Pos}
/-- {} -/
def eDicM : FE := fun _ S _ R => R (.mt S.length) (S ++ [.dic []])
theorem x_dicM : XE X E (.Dict [] [] pos) eDicM := ⟨_, pe_dnewK, fun β S w σ Γ Rx R Q hR hG hf hk hx p hp => by
  obtain ⟨R1, l1⟩ := hR.newC hp (.dK []) (c := .dic []) ⟨[], upd_same, .nil⟩
  exact hk _ _ _ (.ref p) hf R1 l1 ⟨by rw [List.length_append]; exact Nat.lt_succ_self _, congrArg V.ref (if_pos rfl).symm⟩⟩
/-- a cell's dict -/
def dicM (b : B) (S : Sto) (k : Nat → List (Key × B) → Prop) : Prop := match b with
  | .mt j => (match S[j]? with
    | some (.dic bs) => k j bs
    | _ => False)
  | _ => False
theorem dicM_ok {b : B} {S : Sto} {k : Nat → List (Key × B) → Prop} (h : dicM b S k) : ∃ j bs, b = .mt j ∧ S[j]? = some (.dic bs) ∧ k j bs := by
  cases b with
  | fz _ => exact (show False from h).elim
  | mt j =>
    have g : (match S[j]? with
      | some (.dic bs) => k j bs
      | _ => False) := h
    clear h
    cases hc : S[j]? with
    | none => rw [hc] at g; exact g.elim
    | some cl =>
      rw [hc] at g
      cases cl with
      | dic bs => exact ⟨j, bs, rfl, hc, g⟩
      | _ => exact (show False from g).elim
/-- d.setdefault(e, f), f a new thing that may change -/
def eSetd (fo fe ff : FE) : FE := fun Γ S Rx R => fo Γ S Rx fun b S1 => dicM b S1 (fun _ _ => True) ∧ fe Γ S1 Rx fun c S2 => ff Γ S2 Rx fun d S3 => match c with
  | .fz x => optK (keyD x) fun y => dicM b S3 fun j bs => bs.length < sizeLine ∧ match valB bs y with
    | some z => R z S3
    | none => R d (S3.set j (.dic (putKB bs y d)))
  | .mt _ => False
theorem xsetd {ff : FE} (m : M2 X o "setdefault" apos e f cpos) (ho : XE X E o fo) (he : XE X E e fe) (hf : XE X E f ff) : XE X E (.Call (.Attribute o "setdefault" apos) [e, f] [] cpos) (eSetd fo fe ff) :=
  let ⟨_, p, s⟩ := ho.ex; let ⟨_, q, t⟩ := he.ex; let ⟨_, r, t2⟩ := hf.ex
  ⟨_, pe_dsetd p q r m, fun β S w σ Γ Rx R Q hR hG hf hk hx => s β S w σ Γ Rx _ _ hR hG hf (fun b S1 w1 v h1 R1 l1 d1 => by
    obtain ⟨j0, bs0, rfl, e0, _⟩ := dicM_ok h1.1
    obtain ⟨_, rfl⟩ := id d1
    obtain ⟨us0, g0, _⟩ := R1.cellD e0
    refine ⟨w1.m j0, rfl, .inl ⟨us0, .inl g0⟩, t β S1 w1 σ Γ Rx _ _ R1 (hG.later l1) h1.2 (fun c S2 w2 u h2 R2 l2 d2 => t2 β S2 w2 σ Γ Rx _ _ R2 (hG.later (l1.trans l2)) h2 (fun d S3 w3 z h3 R3 l3 d3 => ?_) (hx.later (l1.trans l2))) (hx.later l1)⟩
    cases c with
    | mt _ => exact (show False from h3).elim
    | fz x =>
      obtain ⟨y, e1, h4⟩ := optK_ok h3
      obtain rfl := keyD_ok (show Den X.K w2.F x u from d2) e1
      obtain ⟨j, bs, ej, e2, h5, h6⟩ := dicM_ok h4
      cases ej
      obtain ⟨us, h7, h8⟩ := R3.cellD e2
      have em : w3.m j0 = w1.m j0 := (l2.trans l3).m j0 d1.1
      have l13 := (l1.trans l2).trans l3
      refine ⟨us, y, em ▸ h7, rfl, by rw [← h8.length]; exact h5, fun v' hv => ?_, fun hn => ?_⟩
      · rcases h8.val (k := y) with ⟨_, e4⟩ | ⟨z', v'', e3, e4, d4⟩
        · rw [e4] at hv; cases hv
        · rw [e4] at hv; cases hv
          rw [e3] at h6
          exact hk _ S3 w3 _ h6 R3 l13 d4
      · rcases h8.val (k := y) with ⟨e3, _⟩ | ⟨_, _, _, e4, _⟩
        · rw [e3] at h6
          obtain ⟨R4, l4⟩ := R3.setC e2 (by intro z; cases z) (o := .dK (putK us y z)) (c' := .dic (putKB bs y d)) ⟨_, upd_same, (DenBK.put (k := y) d3 h8).later later_H⟩
          have q := hk d _ _ z h6 R4 (l13.trans l4) (d3.later l4)
          rw [em] at q
          exact q
        · rw [e4] at hn; cases hn) hx⟩
end
end PL
/-! sorted of texts; d[k] = v, l[i] = v (own work) -/
namespace PL
open PySem L2 PyProof.Rows
section
variable {K : PySem.W.Frag}
theorem denStrs {F : Hp} : ∀ zs : List Str, DenL K F (zs.map .str) (zs.map V.str)
  | [] => .nil
  | z :: zs => .cons (.str z) (denStrs zs)
def gSortS : GL := fun bs S R => match bs with
  | [b] => lstD b S fun ds => asStrs ds fun zs => zs.length < 64 ∧ ∀ ys : List Str, ys.Perm zs → sortedS ys = true → R (.fz (.lst (ys.map .str))) S
  | _ => False
theorem snd_sortS : SndL K (rSortedS K) gSortS := fun β S w bs vs R Q hR hb hg hk => by
  match bs, hg, hb with
  | [b], hg, hb =>
    obtain ⟨v, rfl, h1⟩ := hb.one
    obtain ⟨l, ds, vs, rfl, h2, h3, h4⟩ := lstD_ok (k := fun ds => asStrs ds fun zs => zs.length < 64 ∧ ∀ ys : List Str, ys.Perm zs → sortedS ys = true → R (.fz (.lst (ys.map .str))) S) hR h1 hg
    obtain ⟨zs, rfl, rfl, h5, h6⟩ := asStrs_ok h4 h3
    exact ⟨l, zs, rfl, SqL.of h2, h5, fun ys p hp hs hq => hk.newL hR (h6 ys hp hs) (denStrs ys) hq⟩
def txtKeys : List (Key × B) → Option (List Str)
  | [] => some []
  | (.inr z, _) :: r => (txtKeys r).map (z :: ·)
  | (.inl _, _) :: _ => none
theorem txtKeys_ok {n : Nat} {w : Wd} : ∀ {bs : List (Key × B)} {us : List (Key × V)} {ks : List Str}, DenBK K n w bs us → txtKeys bs = some ks → us.map (·.1) = ks.map Sum.inr
  | _, _, _, .nil, h => by cases h; rfl
  | (.inr z, b) :: r, _, ks, .cons _ t, h => by
    have h : (txtKeys r).map (z :: ·) = some ks := h
    cases q : txtKeys r with
    | none => rw [q] at h; cases h
    | some ks' =>
      rw [q] at h
      cases h
      rw [List.map_cons, List.map_cons, txtKeys_ok t q]
  | (.inl _, _) :: _, _, _, .cons _ _, h => by cases h
def gSortD : GL := fun bs S R => match bs with
  | [b] => dicAt b S fun rows => optK (txtKeys rows) fun ks => ks.length < 64 ∧ ∀ ys : List Str, ys.Perm ks → sortedS ys = true → R (.fz (.lst (ys.map .str))) S
  | _ => False
theorem snd_sortD : SndL K (fun xs H Q => ∃ (a : Addr) (kvs : List (Key × V)) (ks : List Str), xs = [.ref a] ∧ Rd H a (.dK kvs) ∧ kvs.map (·.1) = ks.map Sum.inr ∧ ks.length < 64 ∧ ∀ (ys : List Str) (p : Addr), ys.Perm ks → sortedS ys = true → H p = none → Q (.ref p) (upd H p (.lst (ys.map V.str)))) gSortD := fun β S w bs vs R Q hR hb hg hk => by
  match bs, hg, hb with
  | [b], hg, hb =>
    obtain ⟨v, rfl, h1⟩ := hb.one
    obtain ⟨a, rows, us, rfl, h2, h3, h4⟩ := dicAt_ok (k := fun rows => optK (txtKeys rows) fun ks => ks.length < 64 ∧ ∀ ys : List Str, ys.Perm ks → sortedS ys = true → R (.fz (.lst (ys.map .str))) S) hR h1 hg
    obtain ⟨ks, e1, h5, h6⟩ := optK_ok h4
    exact ⟨a, us, ks, rfl, h2, txtKeys_ok h3 e1, h5, fun ys p hp hs hq => hk.newL hR (h6 ys hp hs) (denStrs ys) hq⟩
end
section
variable {X : Cx} {E : XK} {o i : Expr} {fo fi : FE} {pos : Pos}
/-- d[i] = .. -/
def gPutD (fo fi : FE) : FG := fun b Γ S R => fo Γ S noX fun d S1 => fi Γ S1 noX fun c S2 => match c with
  | .fz x => optK (keyD x) fun y => dicM d S2 fun j bs => bs.length < sizeLine ∧ R Γ (S2.set j (.dic (putKB bs y b)))
  | .mt _ => False
theorem xg_putD (hu : X.A.units + 1 < cLine) (ho : XE X (fun _ _ _ => False) o fo) (hi : XE X (fun _ _ _ => False) i fi)
    (hasg : ∀ v, assign (.Subscript o i pos) X.env v = (do
      let ov ← holding [v] (eval o X.env)
      let iv ← holding [v, ov] (eval i X.env)
      standAt pos
      holding [v, ov, iv] (setItem ov iv v)
      release [v, ov, iv] []) := by intro _; rfl) : XG X (.Subscript o i pos) (gPutD fo fi) [] :=
  let ⟨_, p, s⟩ := ho.ex; let ⟨_, q, t⟩ := hi.ex
  ⟨_, pg_sub p q (set_dict hu) hasg, fun β S w σ Γ b v R Q hR hG hb hg hk => s β S w σ Γ noX _ _ hR hG hg (fun d S1 w1 u h1 R1 l1 d1 => t β S1 w1 σ Γ noX _ _ R1 (hG.later l1) h1 (fun c S2 w2 z h2 R2 l2 d2 => by
    cases c with
    | mt _ => exact (show False from h2).elim
    | fz x =>
      obtain ⟨y, e1, h3⟩ := optK_ok h2
      obtain rfl := keyD_ok (show Den X.K w2.F x z from d2) e1
      obtain ⟨j, bs, rfl, e2, h4, h5⟩ := dicM_ok h3
      obtain ⟨_, rfl⟩ := id d1
      obtain ⟨us, h6, h7⟩ := R2.cellD e2
      have em : w2.m j = w1.m j := l2.m j d1.1
      obtain ⟨R3, l3⟩ := R2.setC e2 (by intro z; cases z) (o := .dK (putK us y v)) (c' := .dic (putKB bs y b)) ⟨_, upd_same, (DenBK.put (k := y) ((hb.later l1).later l2) h7).later later_H⟩
      refine ⟨w1.m j, _, rfl, .inl ⟨us, y, em ▸ h6, rfl, by rw [← h7.length]; exact h4, rfl⟩, ?_⟩
      have q := hk Γ _ _ σ h5 R3 ((l1.trans l2).trans l3) (hG.later ((l1.trans l2).trans l3)) fun _ _ => rfl
      rw [em] at q
      exact q) xok_no) xok_no⟩
end
end PL
namespace PL
open PySem L2
/-- {} for good -/
theorem x_dicF {X : Cx} {E : XK} {pos : Pos} : XE X E (.Dict [] [] pos) (eC (.dic [])) := ⟨_, pe_lock pe_dnewK, fun β S w σ Γ Rx R Q hR hG hf hk hx p hp => ⟨p, [], rfl, upd_same, fun o => by
  rw [upd_upd]
  obtain ⟨R1, l1⟩ := hR.newF hp (.frz o (.dK []))
  exact hk _ _ _ (.ref p) hf R1 l1 (Den.dic upd_same .nil)⟩⟩
end PL
/-! name = {k: v for ..} (own work; the step behind follows the library's rule for name = [..]) -/
namespace PL
open PySem L2 PyProof.Rows
section
variable {X : Cx}
theorem dc_stored {n : Nat} {nm : Str} {np : Pos} {kx vx tg iter : Expr} {ifs : List Expr} {scope : Scope} {own : List (Str × Nat)} {pos spos : Pos} {wi : TI} {g : TG} {tt : TT} {tk tv : TE} (calm : X.calm = true) (nod : X.N.Nodup) (at_ : X.N[n]? = some nm) (loc : X.env.scope.names.lookup nm = some .local)
    (sw : swapsWith (.DictComp kx vx [⟨tg, iter, ifs, 0⟩] scope pos) (some (.Name nm np)) spos.line X.env = pure true) (walk : PI X tg iter wi) (ok : BlkOk X.N X.env.scope scope own)
    (pg : ∀ (s : Shared) (H : Hp) (C : Addr) (cl : List (Str × Addr)) (fp : List Addr), PG (X.blk s H scope (compEnvC scope cl C X.env) fp) tg g) (pt : ∀ (s : Shared) (H : Hp) (C : Addr) (cl : List (Str × Addr)) (fp : List Addr), PTs (X.blk s H scope (compEnvC scope cl C X.env) fp) ifs tt)
    (pk : ∀ (s : Shared) (H : Hp) (C : Addr) (cl : List (Str × Addr)) (fp : List Addr), PE (X.blk s H scope (compEnvC scope cl C X.env) fp) kx tk)
    (pv : ∀ (s : Shared) (H : Hp) (C : Addr) (cl : List (Str × Addr)) (fp : List Addr), PE (X.blk s H scope (compEnvC scope cl C X.env) fp) vx tv) (fold : ∀ x, foldedSetIterable iter X.env x = pure x) :
    PS X (.Assign [.Name nm np] (.DictComp kx vx [⟨tg, iter, ifs, 0⟩] scope pos) spos) (tAsg (tDc wi g tt tk tv (own.map (·.2))) (gName n)) := by
  refine ⟨fun ps sh sg hp De inv read => ?_⟩
  rw [exec_Assign_Name_used _ _ _ _ sw]
  refine wpAny_bind (wpAny_standAt (wpAny_bind ?_))
  show wpAny _ X.A (do let _ ← comprehension (.DictComp kx vx [⟨tg, iter, ifs, 0⟩] scope pos) scope X.env (firstIterPos [⟨tg, iter, ifs, 0⟩] pos) newDict false (eval iter X.env) (some (assign (.Name nm np) X.env))) _ _ sh
  have read : tDc wi g tt tk tv (own.map (·.2)) sg hp (fun x H1 => gName n x sg H1 De.nx) := read
  refine wpAny_bind (thn (dc_core (Qf := fun _ s' => SP X ps De .next s') calm nod inv walk ok pg pt pk pv fold read fun dd cc s1 mm hp1 inv1 q ns fo => ?_) fun _ _ z => wpAny_pure (wpAny_pure z))
  show wpAny _ _ (assign (.Name nm np) X.env (.ref dd)) _ _ _
  refine wpAny_assign_Name (store_ok2 (v := V.ref dd) inv1 nod at_ (.inl loc) rfl (fun s2 inv2 ⟨a, same, where_⟩ => ?_) (.inr loc))
  obtain ⟨o0, o1, o2, o3, o4, o5⟩ := fo
  have apart : cc ≠ a := where_.elim (fun z => z ▸ o1) fun z y => o4 nm a z y.symm
  exact ⟨mm, ns.sameBut same apart, fun h3 same3 => ⟨_, hp1, inv2.turned (t' := s2.toks) (fun b o hb z => (same3.2 b hb).trans z) o0 o1 o3 o4 o5, q⟩⟩
theorem swd_true {kx vx : Expr} {gs : List Comprehension} {scope : Scope} {pos np : Pos} {nm : Str} {l : Nat} {env : Env} (kind : env.scope.kind = .function) (loc : env.scope.names.lookup nm = some .local) (line : (np.line == pos.line) = true)
    (own : (scope.names.any fun (n, k) => n == nm && (k == .local || k == .cell)) = false) : swapsWith (.DictComp kx vx gs scope pos) (some (.Name nm np)) l env = pure true := by
  have k1 : env.kindOf nm = some .local := loc
  have k2 : env.blockKind = .function := by unfold Env.blockKind; rw [kind]; rfl
  unfold swapsWith
  simp only [k2, k1, own, Expr.pos, line]
  rfl
end
end PL
namespace PL
open PySem L2
section
variable {X : Cx} {E : XK} {kx vx tg iter : Expr} {ifs : List Expr} {scope : Scope} {own : List (Str × Nat)} {fi : FI} {g : FG} {ft : FT} {fk fv : FE} {pos spos : Pos} {is : List Nat}
theorem xs_setDcM {i : Nat} {y : Str} {py : Pos} (hc : X.calm = true) (hN : X.N.Nodup) (hy : X.N[i]? = some y) (hyl : X.env.scope.names.lookup y = some .local)
    (hsw : swapsWith (.DictComp kx vx [⟨tg, iter, ifs, 0⟩] scope pos) (some (.Name y py)) spos.line X.env = pure true) (hi : XI X E tg iter fi) (ok : BlkOk X.N X.env.scope scope own) (hin : ∀ i ∈ is, i ∈ own.map (·.2))
    (hg : ∀ c : Ctx5, XG (X.blk c.1 c.2.1 scope (compEnvC scope c.2.2.2.1 c.2.2.1 X.env) c.2.2.2.2) tg g is)
    (ht : ∀ c : Ctx5, XIfs (X.blk c.1 c.2.1 scope (compEnvC scope c.2.2.2.1 c.2.2.1 X.env) c.2.2.2.2) ifs ft)
    (hk : ∀ c : Ctx5, XE (X.blk c.1 c.2.1 scope (compEnvC scope c.2.2.2.1 c.2.2.1 X.env) c.2.2.2.2) (fun _ _ _ => False) kx fk)
    (hv : ∀ c : Ctx5, XE (X.blk c.1 c.2.1 scope (compEnvC scope c.2.2.2.1 c.2.2.1 X.env) c.2.2.2.2) (fun _ _ _ => False) vx fv)
    (hs : ∀ x, foldedSetIterable iter X.env x = pure x := by intro _; rfl) :
    XS X E (.Assign [.Name y py] (.DictComp kx vx [⟨tg, iter, ifs, 0⟩] scope pos) spos) (sAsg (eDcM fi g ft fk fv (own.map (·.2))) (gN i)) :=
  let ⟨_, o, r⟩ := hi.ex
  let ⟨_, p, s⟩ := allG (Xf := fun c : Ctx5 => X.blk c.1 c.2.1 scope (compEnvC scope c.2.2.2.1 c.2.2.1 X.env) c.2.2.2.2) (K := X.K) (fun _ => rfl) hg
  let ⟨_, q, t⟩ := allIf (Xf := fun c : Ctx5 => X.blk c.1 c.2.1 scope (compEnvC scope c.2.2.2.1 c.2.2.1 X.env) c.2.2.2.2) (K := X.K) (fun _ => rfl) ht
  let ⟨_, u, v⟩ := allE (Xf := fun c : Ctx5 => X.blk c.1 c.2.1 scope (compEnvC scope c.2.2.2.1 c.2.2.1 X.env) c.2.2.2.2) (K := X.K) (fun _ => rfl) hk
  let ⟨_, u2, v2⟩ := allE (Xf := fun c : Ctx5 => X.blk c.1 c.2.1 scope (compEnvC scope c.2.2.2.1 c.2.2.1 X.env) c.2.2.2.2) (K := X.K) (fun _ => rfl) hv
  ⟨_, dc_stored hc hN hy hyl hsw o ok (fun s H C cl fp => p (s, H, C, cl, fp)) (fun s H C cl fp => q (s, H, C, cl, fp)) (fun s H C cl fp => u (s, H, C, cl, fp)) (fun s H C cl fp => u2 (s, H, C, cl, fp)) hs, fun β S w σ Γ P De hR hG hf hk =>
    dc_run r s hin t v v2 hR hG hk.x hf fun S2 w2 out D us R2 l2 h hacc hw hF h0 hl => by
      obtain ⟨R3, l3⟩ := R2.adoptC (c := .dic out) ⟨us, hw, hacc⟩ (by intro z; cases z) hF h0 hl
      have d3 : DenB X.K (S2 ++ [Cell.dic out]).length ⟨fun k => if k = S2.length then D else w2.m k, w2.F, w2.H⟩ (.mt S2.length) (.ref D) := ⟨by rw [List.length_append]; exact Nat.lt_succ_self _, congrArg V.ref (if_pos rfl).symm⟩
      exact hk.nx _ _ ⟨fun k => if k = S2.length then D else w2.m k, w2.F, w2.H⟩ _ h R3 ((hG.later (l2.trans l3)).set i d3)⟩
end
end PL
/-! list.index of a text (own work) -/
namespace PL
open PySem L2
theorem find_first {p : Str → Bool} : ∀ {zs : List Str} {j : Nat}, zs.findIdx? p = some j → (∃ z, zs[j]? = some z ∧ p z = true) ∧ ∀ (m : Nat) (z : Str), m < j → zs[m]? = some z → p z = false
  | [], j, h => by cases h
  | z :: zs, j, h => by
    rw [List.findIdx?_cons] at h
    cases q : p z with
    | true =>
      rw [q] at h
      cases h
      exact ⟨⟨z, rfl, q⟩, fun m _ hm _ => absurd hm (Nat.not_lt_zero _)⟩
    | false =>
      rw [q] at h
      cases r : zs.findIdx? p with
      | none => rw [r] at h; cases h
      | some i =>
        rw [r] at h
        cases h
        obtain ⟨⟨y, h1, h2⟩, h3⟩ := find_first r
        refine ⟨⟨y, h1, h2⟩, fun m y' hm hy => ?_⟩
        cases m with
        | zero => cases hy; exact q
        | succ m => exact h3 m y' (Nat.lt_of_succ_lt_succ hm) hy
def gIndexS (b : B) : GL := fun bs S R => match bs with
  | [.fz (.str y)] => lstD b S fun ds => asStrs ds fun zs => optK (zs.findIdx? fun z => decide (z = y)) fun j => R (.fz (.int (j : Nat))) S
  | _ => False
theorem flat_strs : ∀ zs : List Str, (zs.map V.str).all flatV = true
  | [] => rfl
  | _ :: zs => flat_strs zs
theorem snd_indexS {K : PySem.W.Frag} : SndM K (rIndex K) gIndexS := fun β S w b bs v vs R Q hR hx hb hg hk => by
  match bs, hg, hb with
  | [.fz (.str y)], hg, hb =>
    obtain ⟨u, rfl, h1⟩ := hb.one
    cases (show Den K w.F (.str y) u from h1)
    obtain ⟨l, ds, vs, rfl, h2, h3, h4⟩ := lstD_ok (k := fun ds => asStrs ds fun zs => optK (zs.findIdx? fun z => decide (z = y)) fun j => R (.fz (.int (j : Nat))) S) hR hx hg
    obtain ⟨zs, rfl, rfl, h5⟩ := asStrs_ok h4 h3
    obtain ⟨j, e1, h6⟩ := optK_ok h5
    obtain ⟨⟨z, q1, q2⟩, q3⟩ := find_first e1
    refine ⟨l, zs.map V.str, .str y, j, .str z, rfl, rfl, SqL.of h2, rfl, flat_strs zs, by rw [List.getElem?_map, q1]; rfl, ?_, fun m z' hm hz => ?_, hk.fz hR h6 (.int _)⟩
    · exact q2
    · rw [List.getElem?_map] at hz
      cases e : zs[m]? with
      | none => rw [e] at hz; cases hz
      | some z2 => rw [e] at hz; cases hz; exact q3 m z2 hm e
end PL
/-! l[i] = v (own work) -/
namespace PL
open PySem L2
section
variable {X : Cx} {o i : Expr} {fo fi : FE} {pos : Pos}
def gPutL (fo fi : FE) : FG := fun b Γ S R => fo Γ S noX fun d S1 => fi Γ S1 noX fun c S2 => match d, c with
  | .mt j, .fz (.int n) => (match S2[j]? with
    | some (.lst bs) => optK (ixN bs.length n) fun m => R Γ (S2.set j (.lst (bs.set m b)))
    | _ => False)
  | _, _ => False
theorem xg_putL (ho : XE X (fun _ _ _ => False) o fo) (hi : XE X (fun _ _ _ => False) i fi)
    (hasg : ∀ v, assign (.Subscript o i pos) X.env v = (do
      let ov ← holding [v] (eval o X.env)
      let iv ← holding [v, ov] (eval i X.env)
      standAt pos
      holding [v, ov, iv] (setItem ov iv v)
      release [v, ov, iv] []) := by intro _; rfl) : XG X (.Subscript o i pos) (gPutL fo fi) [] :=
  let ⟨_, p, s⟩ := ho.ex; let ⟨_, q, t⟩ := hi.ex
  ⟨_, pg_sub p q set_list hasg, fun β S w σ Γ b v R Q hR hG hb hg hk => s β S w σ Γ noX _ _ hR hG hg (fun d S1 w1 u h1 R1 l1 d1 => t β S1 w1 σ Γ noX _ _ R1 (hG.later l1) h1 (fun c S2 w2 z h2 R2 l2 d2 => by
    cases d with
    | fz _ => cases c <;> exact (show False from h2).elim
    | mt j =>
      cases c with
      | mt _ => exact (show False from h2).elim
      | fz x =>
        have d2 : Den X.K w2.F x z := d2
        cases d2 with
        | int n =>
          obtain ⟨bs, e2, h3⟩ := cell_lst (f := fun bs => optK (ixN bs.length n) fun m => R Γ (S2.set j (.lst (bs.set m b)))) h2
          obtain ⟨m, e3, h4⟩ := optK_ok h3
          obtain ⟨_, rfl⟩ := id d1
          obtain ⟨us, h6, h7⟩ := R2.cellL e2
          have em : w2.m j = w1.m j := l2.m j d1.1
          obtain ⟨R3, l3⟩ := R2.setC e2 (by intro z; cases z) (o := .lst (us.set m v)) (c' := .lst (bs.set m b)) ⟨_, upd_same, (DenBL.set ((hb.later l1).later l2) m h7).later later_H⟩
          refine ⟨w1.m j, us, n, m, rfl, rfl, em ▸ h6, by rw [← h7.length]; exact e3, ?_⟩
          have q := hk Γ _ _ σ h4 R3 ((l1.trans l2).trans l3) (hG.later ((l1.trans l2).trans l3)) fun _ _ => rfl
          rw [em] at q
          exact q
        | _ => exact (show False from h2).elim) xok_no) xok_no⟩
end
end PL
/-! raise of own exceptions (own work) -/
namespace PL
open PySem PySem.Spec PyProof.Rows L2
/-- an own exception class over any built-in base, to be raised -/
structure OexR (K : PySem.W.Frag) (C : Addr) : Prop where
  g : ∃ (B newId initId : String) (bmB : List Value), Ex.OexG K C B newId initId bmB
  exC : PySem.W.subIn K (.ref C) (.type "BaseException") = some true
  tyC : PySem.W.typeIn K (.ref C) = some (.type "type")
section
variable {X : Cx} {CX : CXT} {k : Nat} {C fI : Addr} {sp : Sp} {x : Str} {p pos : Pos} {e : Expr} {es : List Expr} {ta : TA}
/-- C(e, ..), made to be raised -/
theorem pmk_oexR (T : OexR X.K C) (iC : PySem.W.findIn X.K (.ref C) "__init__" = some (some (.ref fI))) (tI : PySem.W.typeIn X.K (.ref fI) = some (.type "function")) (F1 : FnR X.prog X.w X.K X.mg X.base CX k fI sp)
    (hr : Room (k + 1) X.A) (hx : Passes CX X (fun _ _ _ => False)) (hg : Gl X x) (hm : X.mg x = some (.ref C)) (ha : PA X (e :: es) ta)
    (hdb : (x == ("__debug__" : Str)) = false := by decide) (he : starEach (e :: es) X.env = (false, eval e X.env) :: starEach es X.env := by rfl) (hpl : (backTo pos (starEach es X.env)).any (·.1) = false := by rfl) :
    PMk X (.Call (.Name x p) (e :: es) [] pos) (tMkO C sp [] ta) := fun pins s σ H Q I h => by
  obtain ⟨B, newId, initId, bmB, G⟩ := T.g
  obtain ⟨nm, q, N, bs, bm, sn, sub, ab, col, dd, k0, k1, k2, k3, k5, hC, hT⟩ := G.cls
  refine wpAny_Call_Name_kw (ld_glob I hg hm (PySem.W.callWith_K (h₀ := X.base) I.ok.mod.kin G.kC (thn (ha.run pos pins s σ H _ I h) fun us s1 ⟨vs, H1, I1, r1, hz, q1⟩ => ⟨I1.kIn, ?_⟩) he hpl) hdb)
  obtain ⟨hp, g, dr, tk, os⟩ := s1
  have sz : hp.objs.size ≤ hp.objs.size + 1 := Nat.le_add_right _ 1
  have told := q1 (hp.objs.size + 1) (I1.hok.fresh sz)
  rw [List.append_nil] at told
  have old : ∀ b o, hp.get? b = some o → ((hp.push (PySem.W.kdv_tup us)).push (PySem.HandSPX.excO C hp.objs.size)).get? b = some o := fun b o z => Heap.get?_push_of_some _ (Heap.get?_push_of_some _ z)
  have there : ((hp.push (PySem.W.kdv_tup us)).push (PySem.HandSPX.excO C hp.objs.size)).get? (hp.objs.size + 1) = some (PySem.HandSPX.excO C hp.objs.size) := by heap_get
  have I2 : Inv X pins σ (upd H1 (hp.objs.size + 1) (exo (hp.objs.size + 1) C none)) ⟨(hp.push (PySem.W.kdv_tup us)).push (PySem.HandSPX.excO C hp.objs.size), g, dr, tk, os⟩ := I1.laid (t' := tk) old sz (exo_ok there)
  have few : us.length ≤ sizeLine := Nat.le_trans (Nat.le_of_eq (Paired.length r1).symm) (Nat.le_trans hz (by rw [sizeLine_eq]; decide))
  show wpAny _ _ (call (.ref C) us) _ _ _
  refine wpAny_call (PySem.HandSPX.call_own G.base hT (I1.kIn _ _ hC) (PySem.W.looks_findIn I1.kIn iC) (fun self => PySem.W.bind_fn I1.kIn self tI) few (codeAny_mono (F1 _ X.stack _ _ (Value.ref (hp.objs.size + 1) :: us) (V.ref (hp.objs.size + 1) :: vs) _ (fun _ _ _ => False) (hr.make C us []) (I2.env0.make C us []) (.cons rfl r1) told) fun r s' z => ?_))
  cases r with
  | error er => exact hx pins σ _ _ er s' I2 z
  | ok fl =>
    cases fl with
    | ret u =>
      obtain ⟨v, H2, os2, bare2, un2, hok2, rv, ev, d, fs, ea, ed, n1, q2⟩ := z
      obtain rfl := ev
      obtain ⟨h2, g2, d2, t2, os'⟩ := s'
      exact ⟨rv, mk_end (raises_own T.exC T.tyC) I1 sz old un2 hok2 os2 bare2 ea ed n1 q2⟩
    | _ => exact False.elim z
end
section
variable {K : PySem.W.Frag} {β : Base} {S : Sto} {w : Wd}
theorem Rel.sameG (R : Rel K β S w) {H' : Hp} (s : Same w.H H') : Rel K β S ⟨w.m, w.F, H'⟩ ∧ Later S.length w S.length ⟨w.m, w.F, H'⟩ := by
  refine ⟨⟨R.fr.trans s, R.keep.trans s, R.f0, R.fn, R.m0, R.n0, fun k c h hd => ?_, R.inj⟩, later_H⟩
  have L := R.live k c h hd
  obtain ⟨o, ho⟩ := L.ok.some hd
  exact ⟨L.nf, L.n0, L.ok.later later_H ((s _ _ ho).trans ho.symm)⟩
/-- the heap has grown, the new thing at a is for good -/
theorem Rel.grown (R : Rel K β S w) {H' : Hp} {a : Addr} {o : HO} (na : w.H a = none) (s : Same w.H H') (h : H' a = some o) : Rel K β S ⟨w.m, upd w.F a o, H'⟩ ∧ Later S.length w S.length ⟨w.m, upd w.F a o, H'⟩ := by
  obtain ⟨R1, l1⟩ := R.sameG s
  obtain ⟨R2, l2⟩ := R1.adoptF (D := a) (o := o) h (R.fr.free na) (R.keep.free na) (R.freshL na)
  exact ⟨R2, l1.trans l2⟩
end
/-- raise C(e): C stores e at f, its own name at code -/
def sRaise (C f : Str) (fe : FE) : FS := fun Γ S P => fe Γ S P.xe fun b S1 => match b with
  | .fz d => P.xe C [("code", .str C), (f, d)] S1
  | _ => False
section
variable {X : Cx} {E : XK} {e : Expr} {fe : FE} {pos p0 pos2 : Pos} {C fI : Addr} {cn x f : Str} {k : Nat}
theorem xs_raise (hc : clsAt X.K cn = C) (T : OexR X.K C) (iC : PySem.W.findIn X.K (.ref C) "__init__" = some (some (.ref fI))) (tI : PySem.W.typeIn X.K (.ref fI) = some (.type "function")) (F1 : FnR X.prog X.w X.K X.mg X.base CX0 k fI (Ex.spX C f cn))
    (hr : Room (k + 1) X.A) (hm : X.mg x = some (.ref C)) (hg : Gl X x) (hcalm : X.calm = true) (tk : Takes X (fun cls d _ H => E cls d H)) (he : XE X E e fe)
    (hst : starEach (e :: []) X.env = (false, eval e X.env) :: starEach [] X.env := by rfl) (hpl : (backTo pos (starEach [] X.env)).any (·.1) = false := by rfl) (hdb : (x == ("__debug__" : Str)) = false := by decide) :
    XS X E (.Raise (some (.Call (.Name x p0) [e] [] pos)) none pos2) (sRaise cn f fe) :=
  let ⟨_, p, s⟩ := he.ex
  ⟨_, ps_raise hcalm tk (pmk_oexR T iC tI F1 hr pass0 hg hm (pa_cons p pa_nil hst) hdb hst hpl), fun β S w σ Γ P D hR hG hf hk => s β S w σ Γ _ _ _ hR hG hf (fun b S1 w1 v h1 R1 l1 d1 => by
    cases b with
    | mt j => exact (show False from h1).elim
    | fz d =>
      have d1 : Den X.K w1.F d v := d1
      refine ⟨by show 1 ≤ 1000; decide, fun a na => ⟨a, v, rfl, upd_same, fun dd H' nd da kp h2 h3 => ⟨rfl, dd, _, h2, h3, (upd_ne da).symm.trans nd, ?_⟩⟩⟩
      have n1 : w1.H dd = none := (upd_ne da).symm.trans nd
      have sm : Same w1.H (upd (del H' a) dd (.xd [("code", .str cn), (f, v)])) := fun b o z => by
        have ba : b ≠ a := ne_of_none z na
        rw [upd_ne (ne_of_none z n1), del_ne ba]
        exact kp b o ba ((upd_ne ba).trans z)
      obtain ⟨R2, l2⟩ := R1.grown n1 sm upd_same
      have q := hk.xe cn _ S1 _ dd _ h1 R2 upd_same (.cons (.str _) (.cons (Den.mono l2.F d1) .nil))
      rw [hc] at q
      exact q) hk.x⟩
end
end PL
namespace Lp
open PySem L2
def topS (i : Nat) : Stmt := PySem.Challenge.pw_lumplooks_k35_lumps_told.main.body.getD i (.Pass ⟨0, 0, 0, 0⟩)
def clsB (s : Stmt) : List Stmt := match s with
  | .ClassDef _ _ _ b _ _ _ _ _ _ _ => b
  | _ => []
abbrev sBag : Stmt := topS 3
abbrev sPull : Stmt := topS 4
/-! ### the bag: what is drawn from, and one draw -/
/-- q: the cells; i: the next one; b: what is left of a great cell; s: the mixed number; c: how many draws -/
def BagAt (H : Hp) (p q : Addr) (cells : List Int) (i : Nat) (b s c : Int) : Prop :=
  H p = some (.lst [.ref q, .int (i : Nat), .int b, .int s, .int c]) ∧ H q = some (.lst (cells.map V.int)) ∧ cells.length ≤ 63 ∧ i ≤ cells.length ∧ 0 ≤ b ∧ 0 ≤ s ∧ s < 2147483579
/-- the bag at p, its cells at q -/
def Bag (H : Hp) (p q : Addr) : Prop := ∃ (cells : List Int) (i : Nat) (b s c : Int), BagAt H p q cells i b s c
/-- from H to H' the bag alone may have turned; other things may be new -/
structure Bs (p q : Addr) (H H' : Hp) : Prop where
  keep : ∀ b o, b ≠ p → H b = some o → H' b = some o
  bag : Bag H' p q
theorem lst_inj {xs ys : List V} (h : some (HO.lst xs) = some (HO.lst ys)) : xs = ys := by
  injection h with h
  injection h
theorem BagAt.ne {H : Hp} {p q : Addr} {cells : List Int} {i : Nat} {b s c : Int} (h : BagAt H p q cells i b s c) : q ≠ p := fun e => by
  obtain ⟨h1, h2, _⟩ := h
  rw [e, h1] at h2
  have e2 := lst_inj h2
  cases cells with
  | nil => cases e2
  | cons x r =>
    rw [List.map_cons] at e2
    injection e2 with e3
    cases e3
theorem Bs.refl {p q : Addr} {H : Hp} (h : Bag H p q) : Bs p q H H := ⟨fun _ _ _ e => e, h⟩
theorem Bs.trans {p q : Addr} {H H1 H2 : Hp} (a : Bs p q H H1) (b : Bs p q H1 H2) : Bs p q H H2 := ⟨fun c o n e => b.keep c o n (a.keep c o n e), b.bag⟩
theorem Bag.some {H : Hp} {p q : Addr} (h : Bag H p q) : ∃ o, H p = some o := by
  obtain ⟨cells, i, b, s, c, h1, _⟩ := h
  exact ⟨_, h1⟩
theorem Bag.nn {H : Hp} {p q r : Addr} (h : Bag H p q) (e : H r = none) : r ≠ p := fun z => by
  obtain ⟨o, h⟩ := h.some
  rw [z, h] at e
  cases e
theorem Bag.nq {H : Hp} {p q r : Addr} (h : Bag H p q) (e : H r = none) : r ≠ q := fun z => by
  obtain ⟨cells, i, b, s, c, _, h2, _⟩ := h
  rw [z, h2] at e
  cases e
/-- what is new ahead was new before -/
theorem Bs.free {p q : Addr} {H H1 : Hp} (a : Bs p q H H1) {r : Addr} (h : H1 r = none) : H r = none := by
  cases e : H r with
  | none => rfl
  | some o =>
    rw [a.keep r o (a.bag.nn h) e] at h
    cases h
theorem Bag.mut {H : Hp} {p q r : Addr} {o : HO} (h : Bag H p q) (n1 : r ≠ p) (n2 : r ≠ q) : Bag (upd H r o) p q := by
  obtain ⟨cells, i, b, s, c, h1, h2, h3⟩ := h
  exact ⟨cells, i, b, s, c, by rw [upd_ne n1.symm]; exact h1, by rw [upd_ne n2.symm]; exact h2, h3⟩
theorem Bag.upd {H : Hp} {p q r : Addr} {o : HO} (h : Bag H p q) (e : H r = none) : Bag (upd H r o) p q := h.mut (h.nn e) (h.nq e)
theorem Bs.new {p q : Addr} {H H1 : Hp} (a : Bs p q H H1) {r : Addr} {o : HO} (h : H1 r = none) : Bs p q H (upd H1 r o) :=
  ⟨fun c u n e => by
    have e1 := a.keep c u n e
    rw [upd_ne (ne_of_none e1 h)]
    exact e1, a.bag.upd h⟩
/-- a thing that is newer than H changes -/
theorem Bs.mut {p q : Addr} {H H1 : Hp} (a : Bs p q H H1) (b : Bag H p q) {r : Addr} {o : HO} (h : H r = none) : Bs p q H (upd H1 r o) :=
  ⟨fun c u n e => by
    rw [upd_ne (ne_of_none e h)]
    exact a.keep c u n e, a.bag.mut (b.nn h) (b.nq h)⟩
theorem Bs.same {p q : Addr} {H H1 H2 : Hp} (a : Bs p q H H1) (s : Same H1 H2) : Bs p q H H2 :=
  ⟨fun c u n e => s _ _ (a.keep c u n e), by
    obtain ⟨cells, i, b, s', c, h1, h2, h3⟩ := a.bag
    exact ⟨cells, i, b, s', c, s _ _ h1, s _ _ h2, h3⟩⟩
theorem Bs.seqL {K : PySem.W.Frag} {p q a : Addr} {H H1 : Hp} {xs : List V} (b : Bs p q H H1) (n : a ≠ p) (h : SqL K H a xs) : SqL K H1 a xs := by
  rcases h with (h | ⟨o, h⟩) | h
  · exact .inl (.inl (b.keep _ _ n h))
  · exact .inl (.inr ⟨o, b.keep _ _ n h⟩)
  · exact .inr h
theorem Bs.seqT {K : PySem.W.Frag} {p q a : Addr} {H H1 : Hp} {xs : List V} (b : Bs p q H H1) (n : a ≠ p) (h : SqT K H a xs) : SqT K H1 a xs := by
  rcases h with (h | ⟨o, h⟩) | h
  · exact .inl (.inl (b.keep _ _ n h))
  · exact .inl (.inr ⟨o, b.keep _ _ n h⟩)
  · exact .inr h
/-- .. all is kept but the bag: a promise of a draw -/
def spPull : Sp := fun vs H Q _ => ∃ (p q : Addr) (many : Int), vs = [.ref p, .int many] ∧ Bag H p q ∧ 0 < many ∧ many ≤ 1000000000000000000 ∧
  ∀ d H', 0 ≤ d → d < many → Bs p q H H' → Q (.int d) H'
structure TxB (mg : Str → Option Value) : Prop where
  len : mg "len" = none
  int : mg "int" = none
section
variable {P : Program} {w : World} {K : PySem.W.Frag} {mg : Str → Option Value} {base : Heap}
theorem scPull : FnScope ["_law_bag_here", "_law_many", "_law_cell", "_law_digit", "_law_state"] ["_law_bag_here", "_law_many"] (defScope sPull) := ⟨rfl, rfl, rfl, by decide +kernel, rfl, by decide +kernel, by decide +kernel⟩
theorem bag_of {H : Hp} {p q : Addr} {cells : List Int} {i : Nat} {b s c : Int} {xs : List V} (nq : q ≠ p) (h1 : xs = [.ref q, .int (i : Nat), .int b, .int s, .int c]) (h2 : H q = some (.lst (cells.map V.int))) (h3 : cells.length ≤ 63) (h4 : i ≤ cells.length) (h5 : 0 ≤ b) (h6 : 0 ≤ s) (h7 : s < 2147483579) : BagAt (upd H p (.lst xs)) p q cells i b s c :=
  ⟨by rw [upd_same, h1], by rw [upd_ne nq]; exact h2, h3, h4, h5, h6, h7⟩

theorem ok_pull {f : Addr} {fd : FuncData} {k : Nat} (F : Fun K "_law_pull" "_law_pull" sPull f fd) (T : TxB mg) : FnOk P w K mg base CX0 (k + 1) f fd ["_law_bag_here", "_law_many"] spPull := by
  refine F.ok scPull (fun vs H Q E h => ?_) (fun cdv A outer s H vs Q E hr h => ?_)
  · obtain ⟨p, q, m, rfl, _⟩ := h
    rfl
  · obtain ⟨p, q, m, rfl, ⟨cells, i, b, s, c, hB⟩, hm0, hm1, k⟩ := h
    refine ⟨_, (pss_cons (ps_asg (pe_op op_add (pe_ix ix_list (pv 0) pe_int (fun _ _ => rfl)) pe_int) (pg_sub (pv 0) pe_int set_list))
 (C8.pss_cut (ps_if (PW.pt (pw_and (pt_cmpR op_eq (pe_ix ix_list (pv 0) pe_int (fun _ _ => rfl)) pe_int (nomark _)) (pw_and1 (pt_cmpR op_lt (pe_ix ix_list (pv 0) pe_int (fun _ _ => rfl)) (pe_callB call_len_seq (by rfl) T.len PySem.boot_len (pa_cons (pe_ix ix_list (pv 0) pe_int (fun _ _ => rfl)) pa_nil)) (nomark _))))) (pss_cons (ps_set (i := 2) scPull.nd rfl (Or.inl rfl) (pe_ix ix_list (pe_ix ix_list (pv 0) pe_int (fun _ _ => rfl)) (pe_ix ix_list (pv 0) pe_int (fun _ _ => rfl)) (fun _ _ => rfl)))
 (pss_cons (ps_asg (pe_op op_add (pe_ix ix_list (pv 0) pe_int (fun _ _ => rfl)) pe_int) (pg_sub (pv 0) pe_int set_list))
 (C8.pss_cut (ps_if (pt_cmpR op_ge (pv 2) (pe_op op_pow pe_int pe_int) (nomark _)) (pss_one (ps_asg (pv 2) (pg_sub (pv 0) pe_int set_list))) pss_nil)
 (pss_one (ps_asg (pe_op op_mod (pe_callTy call_int1 (by rfl) T.int PyProof.Rows.boot_int (pa_cons (pe_op op_add (pe_op op_add (pe_op op_mul (pe_ix ix_list (pv 0) pe_int (fun _ _ => rfl)) pe_int) (pe_op op_mul (pe_op op_mod (pe_callTy call_int1 (by rfl) T.int PyProof.Rows.boot_int (pa_cons (pv 2) pa_nil)) pe_int) pe_int)) pe_int) pa_nil)) pe_int) (pg_sub (pv 0) pe_int set_list)))))) pss_nil)
 (pss_cons (ps_if (pt_cmpR op_gt (pe_ix ix_list (pv 0) pe_int (fun _ _ => rfl)) pe_int (nomark _)) (pss_cons (ps_set (i := 3) scPull.nd rfl (Or.inl rfl) (pe_op op_mod (pe_callTy call_int1 (by rfl) T.int PyProof.Rows.boot_int (pa_cons (pe_ix ix_list (pv 0) pe_int (fun _ _ => rfl)) pa_nil)) (pv 1)))
 (pss_cons (ps_asg (pe_op op_fdivW (pe_callTy call_int1 (by rfl) T.int PyProof.Rows.boot_int (pa_cons (pe_ix ix_list (pv 0) pe_int (fun _ _ => rfl)) pa_nil)) (pv 1)) (pg_sub (pv 0) pe_int set_list))
 (pss_one (ps_ret (pv 3))))) pss_nil)
 (pss_cons (ps_set (i := 4) scPull.nd rfl (Or.inl rfl) (pe_ix ix_list (pv 0) pe_int (fun _ _ => rfl)))
 (pss_cons (ps_asg (pe_op op_mod (pe_callTy call_int1 (by rfl) T.int PyProof.Rows.boot_int (pa_cons (pe_op op_add (pe_op op_add (pe_op op_add (pe_op op_pow (pv 4) pe_int) (pe_op op_mul (pv 4) pe_int)) (pe_op op_mul (pe_ix ix_list (pv 0) pe_int (fun _ _ => rfl)) pe_int)) pe_int) pa_nil)) pe_int) (pg_sub (pv 0) pe_int set_list))
 (pss_one (ps_ret (pe_op op_mod (pe_callTy call_int1 (by rfl) T.int PyProof.Rows.boot_int (pa_cons (pe_op op_add (pe_op op_fdiv (pe_ix ix_list (pv 0) pe_int (fun _ _ => rfl)) pe_int) (pe_op op_mul (pe_op op_mod (pe_callTy call_int1 (by rfl) T.int PyProof.Rows.boot_int (pa_cons (pe_ix ix_list (pv 0) pe_int (fun _ _ => rfl)) pa_nil)) pe_int) pe_int)) pa_nil)) (pv 1))))))))), ?_⟩
    have nq := BagAt.ne hB
    obtain ⟨h1, h2, h3, h4, h5, h6, h7⟩ := hB
    -- bag[4] = bag[4] + 1
    refine ⟨_, rfl, p, _, _, _, rfl, rfl, SqL.of h1, rfl, c, 1, rfl, rfl, _, rfl, p, _, _, _, rfl, rfl, h1, rfl, ?_⟩
    have g1 : BagAt (upd H p (.lst [.ref q, .int (i : Nat), .int b, .int s, .int (c + 1)])) p q cells i b s (c + 1) := bag_of nq rfl h2 h3 h4 h5 h6 h7
    refine ⟨fun σ H' => ∃ (i : Nat) (b s c : Int) (y2 : Option V), σ = [some (.ref p), some (.int m), y2, none, none] ∧ BagAt H' p q cells i b s c ∧ ∀ a, a ≠ p → H' a = H a, ?_, ?_⟩
    · -- the test
      refine ⟨_, rfl, p, _, _, _, rfl, rfl, SqL.of g1.1, rfl, rfl, _, rfl, ?_⟩
      have kp1 : ∀ a, a ≠ p → (upd H p (.lst [.ref q, .int (i : Nat), .int b, .int s, .int (c + 1)])) a = H a := fun a n => upd_ne n
      refine ite2 (fun e0 => ?_) (fun _ => iteF ⟨i, b, s, c + 1, none, rfl, g1, kp1⟩)
      refine ⟨_, rfl, p, _, _, _, rfl, rfl, SqL.of g1.1, rfl, _, rfl, p, _, _, _, rfl, rfl, SqL.of g1.1, rfl, q, _, rfl, .inl (SqL.of g1.2.1), _, _, rfl, rfl, _, rfl, ?_⟩
      refine ite2 (fun e1 => ?_) (fun _ => ⟨i, b, s, c + 1, none, rfl, g1, kp1⟩)
      have hi : i < cells.length := by
        have e2 := of_decide_eq_true e1
        rw [List.length_map] at e2
        omega
      -- cell = bag[0][bag[1]]
      have hc : (cells.map V.int)[i]? = some (.int cells[i]) := by
        rw [List.getElem?_map, List.getElem?_eq_getElem hi]
        rfl
      refine ⟨_, rfl, p, _, _, _, rfl, rfl, SqL.of g1.1, rfl, _, rfl, p, _, _, _, rfl, rfl, SqL.of g1.1, rfl, q, _, _, _, rfl, rfl, SqL.of g1.2.1, atI_nat hc, ?_⟩
      -- bag[1] = bag[1] + 1
      refine ⟨_, rfl, p, _, _, _, rfl, rfl, SqL.of g1.1, rfl, _, _, rfl, rfl, _, rfl, p, _, _, _, rfl, rfl, g1.1, rfl, ?_⟩
      have g2 : BagAt (upd (upd H p (.lst [.ref q, .int (i : Nat), .int b, .int s, .int (c + 1)])) p (.lst [.ref q, .int ((i : Int) + 1), .int b, .int s, .int (c + 1)])) p q cells (i + 1) b s (c + 1) := bag_of nq (by rw [show (((i + 1 : Nat) : Int)) = (i : Int) + 1 by omega]) g1.2.1 h3 (by omega) h5 h6 h7
      -- if cell >= 10 ** 18: bag[2] = cell
      have kp2 : ∀ a, a ≠ p → (upd (upd H p (.lst [.ref q, .int (i : Nat), .int b, .int s, .int (c + 1)])) p (.lst [.ref q, .int ((i : Int) + 1), .int b, .int s, .int (c + 1)])) a = H a := fun a n => by rw [upd_ne n, upd_ne n]
      refine ⟨fun σ H' => ∃ b : Int, σ = [some (.ref p), some (.int m), some (.int cells[i]), none, none] ∧ BagAt H' p q cells (i + 1) b s (c + 1) ∧ ∀ a, a ≠ p → H' a = H a, ?_, ?_⟩
      · refine ⟨_, rfl, 10, 18, rfl, rfl, ⟨by decide, by decide, by decide⟩, _, _, rfl, rfl, _, rfl, ?_⟩
        refine ite2 (fun e2 => ?_) (fun _ => ⟨b, rfl, g2, kp2⟩)
        have e3 := of_decide_eq_true e2
        refine ⟨_, rfl, _, rfl, p, _, _, _, rfl, rfl, g2.1, rfl, ?_⟩
        refine ⟨cells[i], rfl, bag_of nq rfl g2.2.1 h3 (by omega) (Int.le_trans (by decide) e3) h6 h7, fun a n => by rw [upd_ne n]; exact kp2 a n⟩
      · rintro σ H3 ⟨b, rfl, g3, kp3⟩
        have b0 := g3.2.2.2.2.1
        refine ⟨_, rfl, p, _, _, _, rfl, rfl, SqL.of g3.1, rfl, _, _, rfl, rfl, .inl ⟨by omega, by omega⟩, _, rfl, .inl ⟨_, rfl, _, _, rfl, rfl, (by show (0 : Int) < 2147483497; decide), _, _, rfl, rfl, .inr ⟨by decide, by decide⟩, _, _, rfl, rfl, _, _, rfl, rfl, .inl ⟨_, rfl, _, _, rfl, rfl, (by show (0 : Int) < 2147483579; decide), _, rfl, p, _, _, _, rfl, rfl, g3.1, rfl, ?_⟩⟩⟩
        exact ⟨i + 1, b, _, c + 1, _, rfl, bag_of nq rfl g3.2.1 h3 (by omega) b0 (Int.emod_nonneg _ (by decide)) (Int.emod_lt_of_pos _ (by decide)), fun a n => by rw [upd_ne n]; exact kp3 a n⟩
    · rintro σ H1 ⟨i, b, s, c, y2, rfl, g, kp⟩
      obtain ⟨h1, h2, h3, h4, h5, h6, h7⟩ := id g
      have fin : ∀ (H2 : Hp) (d : Int), (∃ i b s c, BagAt H2 p q cells i b s c) → (∀ a, a ≠ p → H2 a = H a) → 0 ≤ d → d < m → Q (.int d) H2 := fun H2 d ⟨i, b, s, c, g⟩ kk d0 d1 =>
        k d H2 d0 d1 ⟨fun a o n e => (kk a n).trans e, ⟨cells, i, b, s, c, g⟩⟩
      have mw : m.natAbs < 2 ^ 60 := by omega
      refine ⟨_, rfl, p, _, _, _, rfl, rfl, SqL.of h1, rfl, _, _, rfl, rfl, _, rfl, ?_⟩
      refine ite2 (fun e0 => ?_) (fun _ => ?_)
      · have b0 : 0 < b := of_decide_eq_true e0
        refine ⟨_, rfl, p, _, _, _, rfl, rfl, SqL.of h1, rfl, .inl ⟨_, rfl, _, rfl, _, _, rfl, rfl, hm0, ?_⟩⟩
        refine ⟨_, rfl, p, _, _, _, rfl, rfl, SqL.of h1, rfl, .inl ⟨_, rfl, _, rfl, _, _, rfl, rfl, wide_div hm0 mw (by decide) (by decide), _, rfl, p, _, _, _, rfl, rfl, h1, rfl, ?_⟩⟩
        refine ⟨_, rfl, fin _ _ ⟨i, b / m, s, c, bag_of nq rfl h2 h3 h4 (Int.ediv_nonneg (by omega) (by omega)) h6 h7⟩ (fun a n => by rw [upd_ne n]; exact kp a n) (Int.emod_nonneg _ (by omega)) (Int.emod_lt_of_pos _ hm0)⟩
      · refine ⟨_, rfl, p, _, _, _, rfl, rfl, SqL.of h1, rfl, ?_⟩
        refine ⟨_, rfl, _, 3, rfl, rfl, ⟨by decide, by decide, by omega⟩, _, rfl, _, _, rfl, rfl, .inr ⟨by decide, by decide⟩, _, _, rfl, rfl, _, rfl, p, _, _, _, rfl, rfl, SqL.of h1, rfl, _, _, rfl, rfl, .inr ⟨by decide, by decide⟩, _, _, rfl, rfl, _, _, rfl, rfl, .inl ⟨_, rfl, _, _, rfl, rfl, (by show (0 : Int) < 2147483579; decide), _, rfl, p, _, _, _, rfl, rfl, h1, rfl, ?_⟩⟩
        have g2 : BagAt _ p q cells i b ((s ^ (3 : Int).toNat + s * 40111 + c * 1299583 + 61027) % 2147483579) c := bag_of (H := H1) (xs := [.ref q, .int (i : Nat), .int b, .int ((s ^ (3 : Int).toNat + s * 40111 + c * 1299583 + 61027) % 2147483579), .int c]) nq rfl h2 h3 h4 h5 (Int.emod_nonneg _ (by decide)) (Int.emod_lt_of_pos _ (by decide))
        refine ⟨_, rfl, p, _, _, _, rfl, rfl, SqL.of g2.1, rfl, _, _, rfl, rfl, ⟨by decide, by decide⟩, _, rfl, p, _, _, _, rfl, rfl, SqL.of g2.1, rfl, .inl ⟨_, rfl, _, _, rfl, rfl, (by show (0 : Int) < 7919; decide), _, _, rfl, rfl, .inr ⟨by decide, by decide⟩, _, _, rfl, rfl, .inl ⟨_, rfl, _, rfl, _, _, rfl, rfl, hm0, ?_⟩⟩⟩
        exact fin _ _ ⟨i, b, _, c, g2⟩ (fun a n => by rw [upd_ne n]; exact kp a n) (Int.emod_nonneg _ (by omega)) (Int.emod_lt_of_pos _ hm0)

theorem cutV_map (ns : List Int) (lo hi : Option Int) : ∃ ms : List Int, cutV (ns.map V.int) lo hi = ms.map V.int ∧ ms.length ≤ ns.length := by
  refine ⟨(ns.drop (HT.sIx ns.length 0 lo)).take (HT.sIx ns.length ns.length hi - HT.sIx ns.length 0 lo), ?_, ?_⟩
  · unfold cutV
    rw [List.length_map, List.map_take, List.map_drop]
  · rw [List.length_take, List.length_drop]
    omega
theorem get_int {ns : List Int} {i : Nat} {x : V} (h : (ns.map V.int)[i]? = some x) : ∃ u, x = .int u ∧ ns[i]? = some u ∧ i < ns.length := by
  rw [List.getElem?_map] at h
  cases e : ns[i]? with
  | none =>
    rw [e] at h
    cases h
  | some u =>
    rw [e] at h
    exact ⟨u, (Option.some.inj h).symm, rfl, (List.getElem?_eq_some_iff.mp e).1⟩
theorem same_upd {H : Hp} {p : Addr} {o : HO} (h : H p = none) : Same H (upd H p o) := fun b x e => by
  rw [upd_ne (ne_of_none e h)]
  exact e
theorem same_mut {H H' : Hp} {p : Addr} {o : HO} (e : Same H H') (h : H p = none) : Same H (upd H' p o) := fun a u ha => by
  rw [upd_ne (ne_of_none ha h)]
  exact e a u ha
theorem sz63 {n : Nat} (h : n ≤ 63) : n < sizeLine := Nat.lt_of_le_of_lt h (by decide)
def spBag (K : PySem.W.Frag) : Sp := fun vs H Q _ => ∃ (a : Addr) (ns : List Int), vs = [.ref a] ∧ SqL K H a (ns.map V.int) ∧ ns.length ≤ 63 ∧ ∀ p q H', H p = none → H q = none → Same H H' → Bag H' p q → Q (.ref p) H'
theorem scBag : FnScope ["_law_script", "_law_state", "_law_cell"] ["_law_script"] (defScope sBag) := ⟨rfl, rfl, rfl, by decide +kernel, rfl, by decide +kernel, by decide +kernel⟩
theorem ok_bag {f : Addr} {fd : FuncData} {k : Nat} (F : Fun K "_law_bag" "_law_bag" sBag f fd) (T : TxB mg) : FnOk P w K mg base CX0 (k + 1) f fd ["_law_script"] (spBag K) := by
  refine F.ok scBag (fun vs H Q E h => ?_) (fun cdv A outer s H vs Q E hr h => ?_)
  · obtain ⟨a, ns, rfl, _⟩ := h
    rfl
  · obtain ⟨a, ns, rfl, hS, hlen, k⟩ := h
    refine ⟨_, (pss_cons (ps_set (i := 1) scBag.nd rfl (Or.inl rfl) pe_int)
 (pss_cons (ps_for PassesOwn.never rfl (pi_list (pe_slice sl_list (pv 0) po_none (po_some pe_int))) (pg_name (i := 2) scBag.nd rfl (Or.inl rfl))
 (pss_one (ps_set (i := 1) scBag.nd rfl (Or.inl rfl) (pe_op op_mod (pe_callTy call_int1 (by rfl) T.int PyProof.Rows.boot_int (pa_cons (pe_op op_add (pe_op op_add (pe_op op_mul (pv 1) pe_int) (pe_op op_mod (pe_callTy call_int1 (by rfl) T.int PyProof.Rows.boot_int (pa_cons (pv 2) pa_nil)) pe_int)) pe_int) pa_nil)) pe_int))))
 (pss_one (ps_ret (pe_lst (pa_cons (pe_lc (own := [("_law_cell", 2)]) (g := gName 2) (tt := tYes) rfl scBag.nd (pi_list (pe_slice sl_list (pv 0) po_none (po_some pe_int))) (blkOk_by (own := [("_law_cell", 2)]) (N := ["_law_script", "_law_state", "_law_cell"]) (sc := defScope sBag) (by decide +kernel)) (fun _ _ _ _ _ => (pg_name (i := 2) scBag.nd rfl (Or.inl rfl))) (fun _ _ _ _ _ => pts_nil) (fun _ _ _ _ _ => (pe_callTy call_int1 (by rfl) T.int PyProof.Rows.boot_int (pa_cons (pv 2) pa_nil)))) (pa_cons pe_int (pa_cons pe_int (pa_cons (pv 1) (pa_cons pe_int pa_nil)))))))))), ?_⟩
    obtain ⟨ms, em, lm⟩ := cutV_map ns none (some 63)
    refine ⟨_, rfl, 63, rfl, a, _, rfl, hS, fun r nr => ?_⟩
    have s1 : Same H (upd H r (.lst (cutV (ns.map V.int) none (some 63)))) := same_upd nr
    refine ⟨r, rfl, ⟨_, SqL.of upd_same⟩, for_list (K := K) (a := r) (xs := ms.map V.int) (fun i σ H' => ∃ (st : Int) (y2 : Option V), σ = [some (.ref a), some (.int st), y2] ∧ 0 ≤ st ∧ st < 2147483579 ∧ H' = upd H r (.lst (cutV (ns.map V.int) none (some 63))))
      ⟨10021, none, rfl, by decide, by decide, rfl⟩ (fun i σ H' _ ⟨_, _, _, _, _, e⟩ => by rw [e, em]; exact SqL.of upd_same) ?_ ?_⟩
    · rintro i x σ H' hi ⟨st, y2, rfl, st0, st1, rfl⟩
      obtain ⟨u, rfl, _, _⟩ := get_int hi
      refine ⟨_, rfl, _, _, rfl, rfl, .inr ⟨by decide, by decide⟩, _, rfl, .inl ⟨_, rfl, _, _, rfl, rfl, (by show (0 : Int) < 2147483563; decide), _, _, rfl, rfl, _, _, rfl, rfl, .inl ⟨_, rfl, _, _, rfl, rfl, (by show (0 : Int) < 2147483579; decide), ?_⟩⟩⟩
      exact ⟨_, _, rfl, Int.emod_nonneg _ (by decide), Int.emod_lt_of_pos _ (by decide), rfl⟩
    · rintro σ H' ⟨st, y2, rfl, st0, st1, rfl⟩
      refine ⟨_, rfl, 63, rfl, a, _, rfl, s1.seq hS, fun r2 nr2 => ?_⟩
      have s2 := same_upd (o := .lst (cutV (ns.map V.int) none (some 63))) nr2
      refine ⟨r2, rfl, ⟨_, SqL.of upd_same⟩, fun D nD => lc_list (K := K) (a := r2) (xs := ms.map V.int) (fun i H' => Same (upd (upd H r (.lst (cutV (ns.map V.int) none (some 63)))) r2 (.lst (cutV (ns.map V.int) none (some 63)))) H' ∧ H' D = some (.lst ((ms.take i).map V.int))) ⟨same_upd nD, upd_same⟩ (fun i H' _ h => h.1.seq (by rw [← em]; exact SqL.of upd_same)) ?_ ?_⟩
      · rintro i x H' hi ⟨hs, hD⟩
        obtain ⟨u, rfl, hu, _⟩ := get_int hi
        refine ⟨rfl, _, rfl, .inl ⟨_, rfl, _, hD, sz63 (by rw [List.length_map, List.length_take]; omega), same_mut hs nD, ?_⟩⟩
        rw [upd_same, List.take_add_one, hu, List.map_append]
        rfl
      · rintro H' ⟨hs, hD⟩
        refine ⟨_, rfl, (by show 5 ≤ sizeLine; decide), fun p np => ?_⟩
        have sa : Same H H' := (s1.trans s2).trans hs
        refine k p D _ (sa.free np) ((s1.trans s2).free nD) (sa.trans (same_upd np)) ⟨ms, 0, 0, st, 0, by rw [upd_same]; rfl, ?_, by omega, by omega, by decide, st0, st1⟩
        rw [upd_ne (ne_of_none hD np), hD, List.length_map, List.take_length]
theorem at_ofN {α : Type} {xs : List α} {z : Int} {j : Nat} {v : α} (e : z = (j : Int)) (h : xs[j]? = some v) : atI xs z = some v := by
  rw [e]
  exact atI_nat h

end
end Lp
namespace PL
open PySem L2 Lp
/-! ### the bag, a draw; name = [..] -/
section
variable {K : PySem.W.Frag} {β : Base} {S : Sto} {w : Wd}
theorem Rel.sameH (R : Rel K β S w) {H' : Hp} (s : Same w.H H') : Rel K β S ⟨w.m, w.F, H'⟩ ∧ Later S.length w S.length ⟨w.m, w.F, H'⟩ := by
  refine ⟨⟨fun a o h => s _ _ (R.fr _ _ h), fun a o h => s _ _ (R.keep _ _ h), R.f0, R.fn, R.m0, R.n0, fun k c h hd => ?_, R.inj⟩, later_H⟩
  have L := R.live k c h hd
  obtain ⟨o, ho⟩ := L.ok.some hd
  exact ⟨L.nf, L.n0, L.ok.later later_H ((s _ _ ho).trans ho.symm)⟩
/-- the bag's cell turns -/
theorem Rel.bagC (R : Rel K β S w) {k : Nat} (hk : S[k]? = some .bag) {H' : Hp} (s : ∀ b o, b ≠ w.m k → w.H b = some o → H' b = some o) (hc : CellOk K S.length ⟨w.m, w.F, H'⟩ (w.m k) .bag) : Rel K β S ⟨w.m, w.F, H'⟩ ∧ Later S.length w S.length ⟨w.m, w.F, H'⟩ := by
  have L0 := R.live k .bag hk (by intro z; cases z)
  refine ⟨⟨fun a o h => s _ _ (fun e => by rw [e, L0.nf] at h; cases h) (R.fr _ _ h), fun a o h => s _ _ (fun e => by rw [e, L0.n0] at h; cases h) (R.keep _ _ h), R.f0, R.fn, R.m0, R.n0, fun j c h hd => ?_, R.inj⟩, later_H⟩
  have L := R.live j c h hd
  by_cases e : j = k
  · subst e
    rw [hk] at h
    cases h
    exact ⟨L.nf, L.n0, hc⟩
  · have ne : w.m j ≠ w.m k := fun z => e (R.inj j k c .bag h hk hd (by intro z; cases z) z)
    obtain ⟨o, ho⟩ := L.ok.some hd
    exact ⟨L.nf, L.n0, L.ok.later later_H ((s _ _ ne ho).trans ho.symm)⟩
end
/-- the bag is made -/
def W_bag : FW := fun bs S _ R => match bs with
  | [.fz .scr] => R (.mt S.length) (S ++ [.bag])
  | _ => False
/-- a number below many is drawn -/
def W_pull : FW := fun bs S _ R => match bs with
  | [.mt k, .fz (.int many)] => S[k]? = some .bag ∧ (0 < many ∧ many ≤ 1000000000000000000) ∧ ∀ d, 0 ≤ d → d < many → R (.fz (.int d)) S
  | _ => False
section
variable {P : Program} {w : World} {K : PySem.W.Frag} {mg : Str → Option Value} {base : Heap}
theorem spP_bag {vs : List V} {H : Hp} {Q : VK} {E : XK} (h : spP K W_bag vs H Q E) : spBag K vs H Q E := by
  obtain ⟨β, S, w, bs, R, rfl, hR, hb, hW, hk⟩ := h
  match bs, hW, hb with
  | [.fz .scr], hW, hb =>
    obtain ⟨v, rfl, h1⟩ := hb.one
    cases (show Den K w.F .scr v from h1) with
    | @scr a ns h2 h3 =>
      refine ⟨a, ns, rfl, sqL_same hR.fr h2, h3, fun p q H' hp hq s ⟨cells, i, b, s', c, g1, g2, g3, g4, g5, g6, g7⟩ => ?_⟩
      obtain ⟨R1, l1⟩ := hR.sameH s
      have hpq : q ≠ p := fun e => by
        subst e
        rw [g1] at g2
        have e2 := Lp.lst_inj (Option.some.inj g2 ▸ rfl : some (HO.lst [V.ref q, .int (i : Nat), .int b, .int s', .int c]) = some (.lst (cells.map V.int)))
        cases cells with
        | nil => cases e2
        | cons x r => cases e2
      obtain ⟨R2, l2⟩ := R1.adoptF (D := q) (o := .lst (cells.map V.int)) g2 (hR.fr.free hq) (hR.keep.free hq) fun k c h1 h2 e => by
        obtain ⟨o, ho⟩ := (hR.live k c h1 h2).ok.some h2
        have e : w.m k = q := e
        rw [e, hq] at ho; cases ho
      obtain ⟨R3, l3⟩ := R2.adoptC (D := p) (c := .bag) ⟨q, cells, i, b, s', c, g1, upd_same, g3, g4, g5, g6, g7⟩ (by intro z; cases z) ((upd_ne hpq.symm).trans (hR.fr.free hp)) (hR.keep.free hp) fun k c h1 h2 e => by
        obtain ⟨o, ho⟩ := (hR.live k c h1 h2).ok.some h2
        have e : w.m k = p := e
        rw [e, hp] at ho; cases ho
      exact hk _ _ ⟨fun k => if k = S.length then p else w.m k, upd w.F q (.lst (cells.map V.int)), H'⟩ (.ref p) hW R3 ((l1.trans l2).trans l3) ⟨by rw [List.length_append]; exact Nat.lt_succ_self _, congrArg V.ref (if_pos rfl).symm⟩
theorem spP_pull {vs : List V} {H : Hp} {Q : VK} {E : XK} (h : spP K W_pull vs H Q E) : spPull vs H Q E := by
  obtain ⟨β, S, w, bs, R, rfl, hR, hb, hW, hk⟩ := h
  match bs, hW, hb with
  | [.mt k, .fz (.int many)], hW, hb =>
    obtain ⟨v, u, rfl, h1, h2⟩ := hb.two
    obtain ⟨_, rfl⟩ := (show k < S.length ∧ v = .ref (w.m k) from h1)
    have e := denInt h2
    subst e
    obtain ⟨e1, ⟨m0, m1⟩, h3⟩ := hW
    have L := hR.live k .bag e1 (by intro z; cases z)
    obtain ⟨q, cells, i, b, s, c, g1, g2, g3⟩ := (show ∃ (q : Addr) (cells : List Int) (i : Nat) (b s c : Int), w.H (w.m k) = some (.lst [.ref q, .int (i : Nat), .int b, .int s, .int c]) ∧ w.F q = some (.lst (cells.map V.int)) ∧ cells.length ≤ 63 ∧ i ≤ cells.length ∧ 0 ≤ b ∧ 0 ≤ s ∧ s < 2147483579 from L.ok)
    refine ⟨w.m k, q, many, rfl, ⟨cells, i, b, s, c, g1, hR.fr _ _ g2, g3⟩, m0, m1, fun d H' d0 d1 bs => ?_⟩
    have nq : q ≠ w.m k := fun e => by rw [e, L.nf] at g2; cases g2
    obtain ⟨cells', i', b', s', c', k1, k2, k3⟩ := bs.bag
    have e2 := bs.keep q _ nq (hR.fr _ _ g2)
    rw [e2] at k2
    obtain ⟨R1, l1⟩ := hR.bagC e1 (H' := H') (fun b o n h => bs.keep b o n h) ⟨q, cells', i', b', s', c', k1, g2.trans k2, k3⟩
    exact hk _ S ⟨w.m, w.F, H'⟩ (.int d) (h3 d d0 d1) R1 l1 (.int d)
theorem okB {f : Addr} {fd : FuncData} {ps : List Str} {k : Nat} (F : FnOk P w K mg base CX0 k f fd ps (spBag K)) : FnOk P w K mg base CX0 k f fd ps (spP K W_bag) := F.imp fun _ _ _ _ h => spP_bag h
theorem okQ {f : Addr} {fd : FuncData} {ps : List Str} {k : Nat} (F : FnOk P w K mg base CX0 k f fd ps spPull) : FnOk P w K mg base CX0 k f fd ps (spP K W_pull) := F.imp fun _ _ _ _ h => spP_pull h
end
section
variable {X : Cx} {E : XK} {elt tg iter : Expr} {ifs : List Expr} {scope : Scope} {own : List (Str × Nat)} {fi : FI} {g : FG} {ft : FT} {fe : FE} {pos spos : Pos} {is : List Nat}
theorem xs_setLcG {i : Nat} {y : Str} {py : Pos} {fin : List B → Sto → RB → Prop} (hc : X.calm = true) (hN : X.N.Nodup) (hy : X.N[i]? = some y) (hyl : X.env.scope.names.lookup y = some .local)
    (hsw : swapsWith (.ListComp elt [⟨tg, iter, ifs, 0⟩] scope pos) (some (.Name y py)) spos.line X.env = pure true) (hi : XI X E tg iter fi) (ok : BlkOk X.N X.env.scope scope own) (hin : ∀ i ∈ is, i ∈ own.map (·.2))
    (hg : ∀ c : Ctx5, XG (X.blk c.1 c.2.1 scope (compEnvC scope c.2.2.2.1 c.2.2.1 X.env) c.2.2.2.2) tg g is)
    (ht : ∀ c : Ctx5, XIfs (X.blk c.1 c.2.1 scope (compEnvC scope c.2.2.2.1 c.2.2.1 X.env) c.2.2.2.2) ifs ft)
    (he : ∀ c : Ctx5, XE (X.blk c.1 c.2.1 scope (compEnvC scope c.2.2.2.1 c.2.2.1 X.env) c.2.2.2.2) (fun _ _ _ => False) elt fe)
    (hfin : ∀ β S w out R Q D us, Rel X.K β S w → fin out S R → DenBL X.K S.length w out us → w.H D = some (.lst us) → w.F D = none → β.H0 D = none → (∀ k c, S[k]? = some c → c ≠ .dead → w.m k ≠ D) → KOk X.K β S.length w R Q → Q (.ref D) w.H)
    (hs : ∀ x, foldedSetIterable iter X.env x = pure x := by intro _; rfl) :
    XS X E (.Assign [.Name y py] (.ListComp elt [⟨tg, iter, ifs, 0⟩] scope pos) spos) (sAsg (fun Γ S Rx R => fi Γ S Rx fun ds S1 => lcW g ft fe (EvWipe Γ (own.map (·.2))) ds [] S1 fun out S2 => fin out S2 R) (gN i)) :=
  let ⟨_, o, r⟩ := hi.ex
  let ⟨_, p, s⟩ := allG (Xf := fun c : Ctx5 => X.blk c.1 c.2.1 scope (compEnvC scope c.2.2.2.1 c.2.2.1 X.env) c.2.2.2.2) (K := X.K) (fun _ => rfl) hg
  let ⟨_, q, t⟩ := allIf (Xf := fun c : Ctx5 => X.blk c.1 c.2.1 scope (compEnvC scope c.2.2.2.1 c.2.2.1 X.env) c.2.2.2.2) (K := X.K) (fun _ => rfl) ht
  let ⟨_, u, v⟩ := allE (Xf := fun c : Ctx5 => X.blk c.1 c.2.1 scope (compEnvC scope c.2.2.2.1 c.2.2.1 X.env) c.2.2.2.2) (K := X.K) (fun _ => rfl) he
  ⟨_, ps_setLc hc hN hy hyl hsw o ok (fun s H C cl fp => p (s, H, C, cl, fp)) (fun s H C cl fp => q (s, H, C, cl, fp)) (fun s H C cl fp => u (s, H, C, cl, fp)) hs, fun β S w σ Γ P D hR hG hf hk =>
    lc_snd r s hin t v hfin β S w σ Γ _ _ _ hR hG hf (fun b S1 w1 v h1 R1 l1 d1 => hk.nx _ S1 w1 _ h1 R1 ((hG.later l1).set i d1)) hk.x⟩
theorem xs_setLc {i : Nat} {y : Str} {py : Pos} (hc : X.calm = true) (hN : X.N.Nodup) (hy : X.N[i]? = some y) (hyl : X.env.scope.names.lookup y = some .local)
    (hsw : swapsWith (.ListComp elt [⟨tg, iter, ifs, 0⟩] scope pos) (some (.Name y py)) spos.line X.env = pure true) (hi : XI X E tg iter fi) (ok : BlkOk X.N X.env.scope scope own) (hin : ∀ i ∈ is, i ∈ own.map (·.2))
    (hg : ∀ c : Ctx5, XG (X.blk c.1 c.2.1 scope (compEnvC scope c.2.2.2.1 c.2.2.1 X.env) c.2.2.2.2) tg g is)
    (ht : ∀ c : Ctx5, XIfs (X.blk c.1 c.2.1 scope (compEnvC scope c.2.2.2.1 c.2.2.1 X.env) c.2.2.2.2) ifs ft)
    (he : ∀ c : Ctx5, XE (X.blk c.1 c.2.1 scope (compEnvC scope c.2.2.2.1 c.2.2.1 X.env) c.2.2.2.2) (fun _ _ _ => False) elt fe)
    (hs : ∀ x, foldedSetIterable iter X.env x = pure x := by intro _; rfl) :
    XS X E (.Assign [.Name y py] (.ListComp elt [⟨tg, iter, ifs, 0⟩] scope pos) spos) (sAsg (eLc fi g ft fe (own.map (·.2))) (gN i)) :=
  xs_setLcG (fin := fun out S2 R => asDs out fun os => R (.fz (.lst os)) S2) hc hN hy hyl hsw hi ok hin hg ht he (fun β S w out R Q D us hR h hacc hw hF h0 hl hk => by
    obtain ⟨os, h2, h3⟩ := asDs_ok h hacc
    obtain ⟨R2, l2⟩ := hR.adoptF hw hF h0 hl
    exact hk _ S ⟨w.m, upd w.F D (.lst us), w.H⟩ (.ref D) h2 R2 l2 (Den.lst (vs := us) upd_same (DenL.mono l2.F h3))) hs
theorem xs_setLcM {i : Nat} {y : Str} {py : Pos} (hc : X.calm = true) (hN : X.N.Nodup) (hy : X.N[i]? = some y) (hyl : X.env.scope.names.lookup y = some .local)
    (hsw : swapsWith (.ListComp elt [⟨tg, iter, ifs, 0⟩] scope pos) (some (.Name y py)) spos.line X.env = pure true) (hi : XI X E tg iter fi) (ok : BlkOk X.N X.env.scope scope own) (hin : ∀ i ∈ is, i ∈ own.map (·.2))
    (hg : ∀ c : Ctx5, XG (X.blk c.1 c.2.1 scope (compEnvC scope c.2.2.2.1 c.2.2.1 X.env) c.2.2.2.2) tg g is)
    (ht : ∀ c : Ctx5, XIfs (X.blk c.1 c.2.1 scope (compEnvC scope c.2.2.2.1 c.2.2.1 X.env) c.2.2.2.2) ifs ft)
    (he : ∀ c : Ctx5, XE (X.blk c.1 c.2.1 scope (compEnvC scope c.2.2.2.1 c.2.2.1 X.env) c.2.2.2.2) (fun _ _ _ => False) elt fe)
    (hs : ∀ x, foldedSetIterable iter X.env x = pure x := by intro _; rfl) :
    XS X E (.Assign [.Name y py] (.ListComp elt [⟨tg, iter, ifs, 0⟩] scope pos) spos) (sAsg (eLcM fi g ft fe (own.map (·.2))) (gN i)) :=
  xs_setLcG (fin := fun out S2 R => R (B.mt S2.length) (S2 ++ [Cell.lst out])) hc hN hy hyl hsw hi ok hin hg ht he (fun β S w out R Q D us hR h hacc hw hF h0 hl hk => by
    obtain ⟨R2, l2⟩ := hR.adoptC (c := .lst out) ⟨us, hw, hacc⟩ (by intro z; cases z) hF h0 hl
    exact hk _ _ ⟨fun k => if k = S.length then D else w.m k, w.F, w.H⟩ (.ref D) h R2 l2 ⟨by rw [List.length_append]; exact Nat.lt_succ_self _, congrArg V.ref (if_pos rfl).symm⟩) hs
end
end PL

namespace PL
open PySem L2 Lp
abbrev s__law_bag : Stmt := topS 3
abbrev s__law_pull : Stmt := topS 4
abbrev s__law_pick : Stmt := topS 5
abbrev s__law_names : Stmt := topS 7
abbrev s_Lump_init : Stmt := (clsB (topS 1)).getD 0 (.Pass ⟨0, 0, 0, 0⟩)
abbrev s_Lump_is_open : Stmt := (clsB (topS 1)).getD 3 (.Pass ⟨0, 0, 0, 0⟩)
abbrev s_Lump__words : Stmt := (clsB (topS 1)).getD 7 (.Pass ⟨0, 0, 0, 0⟩)
abbrev s_Lump_repr : Stmt := (clsB (topS 1)).getD 6 (.Pass ⟨0, 0, 0, 0⟩)
abbrev s_Lump_len : Stmt := (clsB (topS 1)).getD 5 (.Pass ⟨0, 0, 0, 0⟩)
abbrev s_Lump_looks : Stmt := (clsB (topS 1)).getD 4 (.Pass ⟨0, 0, 0, 0⟩)
abbrev s_Lump_pegs : Stmt := (clsB (topS 1)).getD 2 (.Pass ⟨0, 0, 0, 0⟩)
abbrev s_Lump_names : Stmt := (clsB (topS 1)).getD 1 (.Pass ⟨0, 0, 0, 0⟩)
abbrev s__law_same : Stmt := topS 6
abbrev s_law : Stmt := topS 8
structure Ad where
  f__law_bag : Addr
  d__law_bag : FuncData
  f__law_pull : Addr
  d__law_pull : FuncData
  f__law_pick : Addr
  d__law_pick : FuncData
  f__law_names : Addr
  d__law_names : FuncData
  f_Lump_init : Addr
  d_Lump_init : FuncData
  f_Lump_is_open : Addr
  d_Lump_is_open : FuncData
  q_Lump_is_open : Addr
  f_Lump__words : Addr
  d_Lump__words : FuncData
  f_Lump_repr : Addr
  d_Lump_repr : FuncData
  f_Lump_len : Addr
  d_Lump_len : FuncData
  f_Lump_looks : Addr
  d_Lump_looks : FuncData
  f_Lump_pegs : Addr
  d_Lump_pegs : FuncData
  f_Lump_names : Addr
  d_Lump_names : FuncData
  f__law_same : Addr
  d__law_same : FuncData
  f_law : Addr
  d_law : FuncData
  C_Lump : Addr
  g_Lump_init_is_loose_pegs_names : List Value → List Value → List Value
structure Fx (P : Program) (K : PySem.W.Frag) (mg : Str → Option Value) (A : Ad) : Prop where
  F__law_bag : Fun K "_law_bag" "_law_bag" s__law_bag A.f__law_bag A.d__law_bag
  b__law_bag : Binds K A.d__law_bag ["_law_script"] []
  m__law_bag : mg "_law_bag" = some (.ref A.f__law_bag)
  F__law_pull : Fun K "_law_pull" "_law_pull" s__law_pull A.f__law_pull A.d__law_pull
  b__law_pull : Binds K A.d__law_pull ["_law_bag_here", "_law_many"] []
  m__law_pull : mg "_law_pull" = some (.ref A.f__law_pull)
  F__law_pick : Fun K "_law_pick" "_law_pick" s__law_pick A.f__law_pick A.d__law_pick
  b__law_pick : Binds K A.d__law_pick ["_law_bag_here", "_law_rows"] []
  m__law_pick : mg "_law_pick" = some (.ref A.f__law_pick)
  F__law_names : Fun K "_law_names" "_law_names" s__law_names A.f__law_names A.d__law_names
  b__law_names : Binds K A.d__law_names ["_law_bag_here", "_law_many"] []
  m__law_names : mg "_law_names" = some (.ref A.f__law_names)
  F_Lump_init : Fun K "__init__" "Lump.__init__" s_Lump_init A.f_Lump_init A.d_Lump_init
  b_Lump_init : Binds K A.d_Lump_init ["self", "names", "pegs", "is_loose"] []
  F_Lump_is_open : Fun K "is_open" "Lump.is_open" s_Lump_is_open A.f_Lump_is_open A.d_Lump_is_open
  b_Lump_is_open : Binds K A.d_Lump_is_open ["self"] []
  F_Lump__words : Fun K "_words" "Lump._words" s_Lump__words A.f_Lump__words A.d_Lump__words
  b_Lump__words : Binds K A.d_Lump__words ["self"] []
  F_Lump_repr : Fun K "__repr__" "Lump.__repr__" s_Lump_repr A.f_Lump_repr A.d_Lump_repr
  b_Lump_repr : Binds K A.d_Lump_repr ["self"] []
  F_Lump_len : Fun K "__len__" "Lump.__len__" s_Lump_len A.f_Lump_len A.d_Lump_len
  b_Lump_len : Binds K A.d_Lump_len ["self"] []
  F_Lump_looks : Fun K "looks" "Lump.looks" s_Lump_looks A.f_Lump_looks A.d_Lump_looks
  b_Lump_looks : Binds K A.d_Lump_looks ["self"] []
  F_Lump_pegs : Fun K "pegs" "Lump.pegs" s_Lump_pegs A.f_Lump_pegs A.d_Lump_pegs
  b_Lump_pegs : Binds K A.d_Lump_pegs ["self"] []
  F_Lump_names : Fun K "names" "Lump.names" s_Lump_names A.f_Lump_names A.d_Lump_names
  b_Lump_names : Binds K A.d_Lump_names ["self"] []
  F__law_same : Fun K "_law_same" "_law_same" s__law_same A.f__law_same A.d__law_same
  b__law_same : Binds K A.d__law_same ["_law_found", "_law_due"] []
  m__law_same : mg "_law_same" = some (.ref A.f__law_same)
  F_law : Fun K "law" "law" s_law A.f_law A.d_law
  b_law : Binds K A.d_law ["_law_script"] []
  m_law : mg "law" = some (.ref A.f_law)
  n_Lump : clsAt K "Lump" = A.C_Lump
  m_Lump : mg "Lump" = some (.ref A.C_Lump)
  c_Lump : Cls K A.C_Lump
  k_Lump : Mk K A.C_Lump A.f_Lump_init
  p_Lump_is_open : PropOf K A.C_Lump "is_open" A.q_Lump_is_open A.f_Lump_is_open
  a_Lump__is_loose : NoAttr K A.C_Lump "_is_loose"
  a_Lump__names : NoAttr K A.C_Lump "_names"
  a_Lump__pegs : NoAttr K A.C_Lump "_pegs"
  M_Lump__words : Meth K A.C_Lump "_words" A.f_Lump__words
  M_Lump_looks : Meth K A.C_Lump "looks" A.f_Lump_looks
  M_Lump_names : Meth K A.C_Lump "names" A.f_Lump_names
  M_Lump_pegs : Meth K A.C_Lump "pegs" A.f_Lump_pegs
  h_Lump_len : PySem.W.findIn K (.ref A.C_Lump) "__len__" = some (some (.ref A.f_Lump_len))
  hf_Lump_len : PySem.W.isFn K (.ref A.f_Lump_len) = true
  h_Lump_repr : PySem.W.findIn K (.ref A.C_Lump) "__repr__" = some (some (.ref A.f_Lump_repr))
  hf_Lump_repr : PySem.W.isFn K (.ref A.f_Lump_repr) = true
  kb_Lump_init_is_loose_pegs_names : KBn K A.d_Lump_init ["self", "names", "pegs", "is_loose"] 1 ["is_loose", "pegs", "names"] A.g_Lump_init_is_loose_pegs_names fun vs zs => vs ++ permA [2, 1, 0] zs
  z_all : mg "all" = none
  z_bool : mg "bool" = none
  z_int : mg "int" = none
  z_isinstance : mg "isinstance" = none
  z_len : mg "len" = none
  z_list : mg "list" = none
  z_range : mg "range" = none
  z_repr : mg "repr" = none
  z_str : mg "str" = none
  z_tuple : mg "tuple" = none
  z_zip : mg "zip" = none
section
variable {P : Program} {w : World} {K : PySem.W.Frag} {mg : Str → Option Value} {base : Heap} {A : Ad}
theorem ok__law_bag (T : Fx P K mg A) : FnOk P w K mg base CX0 1 A.f__law_bag A.d__law_bag ["_law_script"] (spP K W_bag) := okB (ok_bag T.F__law_bag ⟨T.z_len, T.z_int⟩)
theorem ok__law_pull (T : Fx P K mg A) : FnOk P w K mg base CX0 1 A.f__law_pull A.d__law_pull ["_law_bag_here", "_law_many"] (spP K W_pull) := okQ (ok_pull T.F__law_pull ⟨T.z_len, T.z_int⟩)
theorem sc__law_pick : FnScope ["_law_bag_here", "_law_rows"] ["_law_bag_here", "_law_rows"] (defScope s__law_pick) := ⟨rfl, rfl, rfl, by decide +kernel, rfl, by decide +kernel, by decide +kernel⟩
def W__law_pick : FW := defW 2 0 (sRet (eOp gIx (eVar 1) (eCallC (gBag W_pull []) (aCons (eVar 0) (aCons (eCall gLen (aCons (eVar 1) aNil)) aNil)))))
theorem ok__law_pick (T : Fx P K mg A) : FnOk P w K mg base CX0 2 A.f__law_pick A.d__law_pick ["_law_bag_here", "_law_rows"] (spP K W__law_pick) :=
  okP T.F__law_pick sc__law_pick rfl rfl fun cdv A0 outer s H E hr =>
 (xss_one (xs_ret (xix ix_seq snd_ix (xvar (pv 1)) (xcall (snd_bag0 .nil) (ok__law_pull T) (hr.mono (by decide)) (by rfl) T.m__law_pull T.F__law_pull.kp T.b__law_pull .nil pass0 (xa_cons (xvar (pv 0)) (xa_cons (xcallB call_len snd_len (by rfl) T.z_len PySem.boot_len (xa_cons (xvar (pv 1)) xa_nil)) xa_nil))) (fun _ _ => rfl))))
theorem sc__law_names : FnScope ["_law_bag_here", "_law_many", "_law_letters", "_law_stem", "_law_at", "_law_first", "_law_k"] ["_law_bag_here", "_law_many"] (defScope s__law_names) := ⟨rfl, rfl, rfl, by decide +kernel, rfl, by decide +kernel, by decide +kernel⟩
def W__law_names : FW := defW 2 5 (sSeq (sAsg (eC (.str "abcdefghijklmnopqrstuvwxyz")) (gN 2)) (sSeq (sAsg (eBM tyS gJoin (eC (.str "")) (aCons (eLc (iRng1P (aCons (eCallC (gBag W__law_pick []) (aCons (eVar 0) (aCons (eLst (aCons (eC (.int 0)) (aCons (eC (.int 0)) (aCons (eC (.int 1)) (aCons (eC (.int 3)) (aCons (eC (.int 7)) aNil)))))) aNil))) aNil)) (gN 6) tYesP (eCallC (gBag W__law_pick []) (aCons (eVar 0) (aCons (eVar 2) aNil))) [6]) aNil)) (gN 3)) (sSeq (sAsg (eTup (aCons (eCallC (gBag W_pull []) (aCons (eVar 0) (aCons (eOp (gD2 dAdd) (eCall gLen (aCons (eVar 3) aNil)) (eC (.int 1))) aNil))) (aCons (eCallC (gBag W_pull []) (aCons (eVar 0) (aCons (eC (.int 26)) aNil))) aNil))) (gT 2 (gsC (gN 4) (gsC (gN 5) gsN)))) (sRet (eLc (iRng1P (aCons (eVar 1) aNil)) (gN 6) tYesP (eOp (gD2 dAdd) (eOp (gD2 dAdd) (eSl (eVar 3) oNone (oSome (eVar 4))) (eOp gIx (eVar 2) (eOp (gD2 dMod) (eCall gInt (aCons (eOp (gD2 dAdd) (eVar 5) (eOp (gD2 dMul) (eC (.int 5)) (eVar 6))) aNil)) (eC (.int 26))))) (eSl (eVar 3) (oSome (eVar 4)) oNone)) [6])))))
theorem ok__law_names (T : Fx P K mg A) : FnOk P w K mg base CX0 3 A.f__law_names A.d__law_names ["_law_bag_here", "_law_many"] (spP K W__law_names) :=
  okP T.F__law_names sc__law_names rfl rfl fun cdv A0 outer s H E hr =>
 (xss_cons (xs_set (i := 2) sc__law_names.nd rfl (Or.inr rfl) xstr)
 (xss_cons (xs_set (i := 3) sc__law_names.nd rfl (Or.inr rfl) (xjoin xstr (x_lc (own := [("_law_k", 6)]) rfl sc__law_names.nd (xi_range1 (by rfl) T.z_range (xa_cons (xcall (snd_bag0 .nil) (ok__law_pick T) (hr.mono (by decide)) (by rfl) T.m__law_pick T.F__law_pick.kp T.b__law_pick .nil pass0 (xa_cons (xvar (pv 0)) (xa_cons (x_lst (xa_cons xint (xa_cons xint (xa_cons xint (xa_cons xint (xa_cons xint xa_nil)))))) xa_nil))) xa_nil)) (blkOk_by (own := [("_law_k", 6)]) (N := ["_law_bag_here", "_law_many", "_law_letters", "_law_stem", "_law_at", "_law_first", "_law_k"]) (sc := defScope s__law_names) (by decide +kernel)) (by decide) (fun _ => (xg_name (pg_name (i := 6) sc__law_names.nd rfl (Or.inl rfl)))) (fun _ => xifs_nil) (fun _ => (xcall (snd_bag0 .nil) (ok__law_pick T) (hr.mono (by decide)) (by rfl) T.m__law_pick T.F__law_pick.kp T.b__law_pick .nil pass0 (xa_cons (xvar (pv 0)) (xa_cons (xvar (pv 2)) xa_nil))))) fun p q => pe_join p q))
 (xss_cons (xs_asg (x_tup (xa_cons (xcall (snd_bag0 .nil) (ok__law_pull T) (hr.mono (by decide)) (by rfl) T.m__law_pull T.F__law_pull.kp T.b__law_pull .nil pass0 (xa_cons (xvar (pv 0)) (xa_cons (xop op_addA snd_add (xcallB call_len snd_len (by rfl) T.z_len PySem.boot_len (xa_cons (xvar (pv 3)) xa_nil)) xint) xa_nil))) (xa_cons (xcall (snd_bag0 .nil) (ok__law_pull T) (hr.mono (by decide)) (by rfl) T.m__law_pull T.F__law_pull.kp T.b__law_pull .nil pass0 (xa_cons (xvar (pv 0)) (xa_cons xint xa_nil))) xa_nil))) (xg_tup rfl (xgs_cons (xg_name (pg_name (i := 4) sc__law_names.nd rfl (Or.inr rfl))) (xgs_cons (xg_name (pg_name (i := 5) sc__law_names.nd rfl (Or.inr rfl))) xgs_nil))))
 (xss_one (xs_ret (x_lc (own := [("_law_k", 6)]) rfl sc__law_names.nd (xi_range1 (by rfl) T.z_range (xa_cons (xvar (pv 1)) xa_nil)) (blkOk_by (own := [("_law_k", 6)]) (N := ["_law_bag_here", "_law_many", "_law_letters", "_law_stem", "_law_at", "_law_first", "_law_k"]) (sc := defScope s__law_names) (by decide +kernel)) (by decide) (fun _ => (xg_name (pg_name (i := 6) sc__law_names.nd rfl (Or.inl rfl)))) (fun _ => xifs_nil) (fun _ => (xop op_addA snd_add (xop op_addA snd_add (xsl (xvar (pv 3)) xo_none (xo_some (xvar (pv 4)))) (xix ix_seq snd_ix (xvar (pv 2)) (xop op_mod snd_mod (xcallTy call_intA snd_int (by rfl) T.z_int PyProof.Rows.boot_int (xa_cons (xop op_addA snd_add (xvar (pv 5)) (xop op_mul snd_mul xint (xvar (pv 6)))) xa_nil)) xint) (fun _ _ => rfl))) (xsl (xvar (pv 3)) (xo_some (xvar (pv 4))) xo_none)))))))))
theorem sc_Lump_init : FnScope ["self", "names", "pegs", "is_loose"] ["self", "names", "pegs", "is_loose"] (defScope s_Lump_init) := ⟨rfl, rfl, rfl, by decide +kernel, rfl, by decide +kernel, by decide +kernel⟩
def W_Lump_init : FW := defW 4 0 (sSeq (sFldP "Lump" "_names" (eVar 0) (eCall gList (aCons (eVar 1) aNil))) (sSeq (sFldP "Lump" "_pegs" (eVar 0) (eCall gList (aCons (eVar 2) aNil))) (sFldP "Lump" "_is_loose" (eVar 0) (eVar 3))))
theorem ok_Lump_init (T : Fx P K mg A) : FnOk P w K mg base CX0 1 A.f_Lump_init A.d_Lump_init ["self", "names", "pegs", "is_loose"] (spP K W_Lump_init) :=
  okP T.F_Lump_init sc_Lump_init rfl rfl fun cdv A0 outer s H E hr =>
 (xss_cons (xs_fld (C := A.C_Lump) T.n_Lump T.c_Lump T.a_Lump__names (xvar (pv 0)) (xcallTy call_list_of snd_list (by rfl) T.z_list PyProof.Rows.boot_list (xa_cons (xvar (pv 1)) xa_nil)) rfl)
 (xss_cons (xs_fld (C := A.C_Lump) T.n_Lump T.c_Lump T.a_Lump__pegs (xvar (pv 0)) (xcallTy call_list_of snd_list (by rfl) T.z_list PyProof.Rows.boot_list (xa_cons (xvar (pv 2)) xa_nil)) rfl)
 (xss_one (xs_fld (C := A.C_Lump) T.n_Lump T.c_Lump T.a_Lump__is_loose (xvar (pv 0)) (xvar (pv 3)) rfl))))
theorem sc_Lump_is_open : FnScope ["self"] ["self"] (defScope s_Lump_is_open) := ⟨rfl, rfl, rfl, by decide +kernel, rfl, by decide +kernel, by decide +kernel⟩
def W_Lump_is_open : FW := defW 1 0 (sRet (eOr (eUn (gFld "Lump" "_is_loose") (eVar 0)) (eOp (gD2 (dCmp fun i j => decide (j < i))) (eCall gLen (aCons (eUn (gFld "Lump" "_pegs") (eVar 0)) aNil)) (eC (.int 0)))))
theorem ok_Lump_is_open (T : Fx P K mg A) : FnOk P w K mg base CX0 1 A.f_Lump_is_open A.d_Lump_is_open ["self"] (spP K W_Lump_is_open) :=
  okP T.F_Lump_is_open sc_Lump_is_open rfl rfl fun cdv A0 outer s H E hr =>
 (xss_one (xs_ret (x_or (xfld (C := A.C_Lump) T.n_Lump T.c_Lump T.a_Lump__is_loose (xvar (pv 0)) rfl) (x_one (xcmp op_gt snd_cmp (xcallB call_len snd_len (by rfl) T.z_len PySem.boot_len (xa_cons (xfld (C := A.C_Lump) T.n_Lump T.c_Lump T.a_Lump__pegs (xvar (pv 0)) rfl) xa_nil)) xint (nomark _))))))
theorem sc_Lump__words : FnScope ["self"] ["self"] (defScope s_Lump__words) := ⟨rfl, rfl, rfl, by decide +kernel, rfl, by decide +kernel, by decide +kernel⟩
def W_Lump__words : FW := defW 1 0 (sRet (eBM tyS gJoin (eC (.str " ")) (aCons (eLst (aStar (eUn (gFld "Lump" "_names") (eVar 0)) (aStar (eUn (gFld "Lump" "_pegs") (eVar 0)) aNil))) aNil)))
theorem ok_Lump__words (T : Fx P K mg A) : FnOk P w K mg base CX0 1 A.f_Lump__words A.d_Lump__words ["self"] (spP K W_Lump__words) :=
  okP T.F_Lump__words sc_Lump__words rfl rfl fun cdv A0 outer s H E hr =>
 (xss_one (xs_ret (xjoin xstr (x_lst (xa_star (xfld (C := A.C_Lump) T.n_Lump T.c_Lump T.a_Lump__names (xvar (pv 0)) rfl) (xa_star (xfld (C := A.C_Lump) T.n_Lump T.c_Lump T.a_Lump__pegs (xvar (pv 0)) rfl) xa_nil))) fun p q => pe_join p q)))
theorem sc_Lump_repr : FnScope ["self"] ["self"] (defScope s_Lump_repr) := ⟨rfl, rfl, rfl, by decide +kernel, rfl, by decide +kernel, by decide +kernel⟩
def W_Lump_repr : FW := defW 1 0 (sSeq (sIf (tOf (eProp "Lump" (gPure W_Lump_is_open []) (eVar 0))) (sRet (jsW [(eC (.str "Lump(")), (eUn (gD1 dFmt) (eMethC "Lump" "_words" (gPure W_Lump__words []) (eVar 0) aNil)), (eC (.str ": open)"))] Str.empty)) sNext) (sRet (jsW [(eC (.str "Lump(")), (eUn (gD1 dFmt) (eMethC "Lump" "_words" (gPure W_Lump__words []) (eVar 0) aNil)), (eC (.str ": closed)"))] Str.empty)))
theorem ok_Lump_repr (T : Fx P K mg A) : FnOk P w K mg base CX0 3 A.f_Lump_repr A.d_Lump_repr ["self"] (spP K W_Lump_repr) :=
  okP T.F_Lump_repr sc_Lump_repr rfl rfl fun cdv A0 outer s H E hr =>
 (xss_cons (xs_if (xt_val (xprop' (C := A.C_Lump) T.n_Lump (snd_pure0 .nil) (xvar (pv 0)) fun p => pe_prop p T.c_Lump T.p_Lump_is_open (ok_Lump_is_open T) (hr.mono (by decide)) T.b_Lump_is_open .nil pass0 rfl) (by intro _; rfl))
 (xss_one (xs_ret (xjoined (.cons xstr (.cons (xfmt (xmeth0 (C := A.C_Lump) T.n_Lump (snd_pure0 .nil) (xvar (pv 0)) fun p => pe_meth0 p T.c_Lump T.M_Lump__words (ok_Lump__words T) (hr.mono (by decide)) T.b_Lump__words .nil pass0)) (.cons xstr .nil))))))
 xss_nil)
 (xss_one (xs_ret (xjoined (.cons xstr (.cons (xfmt (xmeth0 (C := A.C_Lump) T.n_Lump (snd_pure0 .nil) (xvar (pv 0)) fun p => pe_meth0 p T.c_Lump T.M_Lump__words (ok_Lump__words T) (hr.mono (by decide)) T.b_Lump__words .nil pass0)) (.cons xstr .nil)))))))
theorem sc_Lump_len : FnScope ["self"] ["self"] (defScope s_Lump_len) := ⟨rfl, rfl, rfl, by decide +kernel, rfl, by decide +kernel, by decide +kernel⟩
def W_Lump_len : FW := defW 1 0 (sRet (eCall gLen (aCons (eLst (aStar (eUn (gFld "Lump" "_names") (eVar 0)) (aStar (eUn (gFld "Lump" "_pegs") (eVar 0)) aNil))) aNil)))
theorem ok_Lump_len (T : Fx P K mg A) : FnOk P w K mg base CX0 1 A.f_Lump_len A.d_Lump_len ["self"] (spP K W_Lump_len) :=
  okP T.F_Lump_len sc_Lump_len rfl rfl fun cdv A0 outer s H E hr =>
 (xss_one (xs_ret (xcallB call_len snd_len (by rfl) T.z_len PySem.boot_len (xa_cons (x_lst (xa_star (xfld (C := A.C_Lump) T.n_Lump T.c_Lump T.a_Lump__names (xvar (pv 0)) rfl) (xa_star (xfld (C := A.C_Lump) T.n_Lump T.c_Lump T.a_Lump__pegs (xvar (pv 0)) rfl) xa_nil))) xa_nil))))
theorem sc_Lump_looks : FnScope ["self"] ["self"] (defScope s_Lump_looks) := ⟨rfl, rfl, rfl, by decide +kernel, rfl, by decide +kernel, by decide +kernel⟩
def W_Lump_looks : FW := defW 1 0 (sRet (eIf (tOf (eProp "Lump" (gPure W_Lump_is_open []) (eVar 0))) (eCall gLen (aCons (eUn (gFld "Lump" "_names") (eVar 0)) aNil)) (eOp (gD2 dSub) (eCall gLen (aCons (eUn (gFld "Lump" "_names") (eVar 0)) aNil)) (eC (.int 1)))))
theorem ok_Lump_looks (T : Fx P K mg A) : FnOk P w K mg base CX0 3 A.f_Lump_looks A.d_Lump_looks ["self"] (spP K W_Lump_looks) :=
  okP T.F_Lump_looks sc_Lump_looks rfl rfl fun cdv A0 outer s H E hr =>
 (xss_one (xs_ret (x_if (xt_val (xprop' (C := A.C_Lump) T.n_Lump (snd_pure0 .nil) (xvar (pv 0)) fun p => pe_prop p T.c_Lump T.p_Lump_is_open (ok_Lump_is_open T) (hr.mono (by decide)) T.b_Lump_is_open .nil pass0 rfl) (by intro _; rfl)) (xcallB call_len snd_len (by rfl) T.z_len PySem.boot_len (xa_cons (xfld (C := A.C_Lump) T.n_Lump T.c_Lump T.a_Lump__names (xvar (pv 0)) rfl) xa_nil)) (xop op_sub snd_sub (xcallB call_len snd_len (by rfl) T.z_len PySem.boot_len (xa_cons (xfld (C := A.C_Lump) T.n_Lump T.c_Lump T.a_Lump__names (xvar (pv 0)) rfl) xa_nil)) xint))))
theorem sc_Lump_pegs : FnScope ["self"] ["self"] (defScope s_Lump_pegs) := ⟨rfl, rfl, rfl, by decide +kernel, rfl, by decide +kernel, by decide +kernel⟩
def W_Lump_pegs : FW := defW 1 0 (sRet (eCall gListM (aCons (eUn (gFld "Lump" "_pegs") (eVar 0)) aNil)))
theorem ok_Lump_pegs (T : Fx P K mg A) : FnOk P w K mg base CX0 1 A.f_Lump_pegs A.d_Lump_pegs ["self"] (spP K W_Lump_pegs) :=
  okP T.F_Lump_pegs sc_Lump_pegs rfl rfl fun cdv A0 outer s H E hr =>
 (xss_one (xs_ret (xcallTy call_list_of snd_listM (by rfl) T.z_list PyProof.Rows.boot_list (xa_cons (xfld (C := A.C_Lump) T.n_Lump T.c_Lump T.a_Lump__pegs (xvar (pv 0)) rfl) xa_nil))))
theorem sc_Lump_names : FnScope ["self"] ["self"] (defScope s_Lump_names) := ⟨rfl, rfl, rfl, by decide +kernel, rfl, by decide +kernel, by decide +kernel⟩
def W_Lump_names : FW := defW 1 0 (sRet (eCall gListM (aCons (eUn (gFld "Lump" "_names") (eVar 0)) aNil)))
theorem ok_Lump_names (T : Fx P K mg A) : FnOk P w K mg base CX0 1 A.f_Lump_names A.d_Lump_names ["self"] (spP K W_Lump_names) :=
  okP T.F_Lump_names sc_Lump_names rfl rfl fun cdv A0 outer s H E hr =>
 (xss_one (xs_ret (xcallTy call_list_of snd_listM (by rfl) T.z_list PyProof.Rows.boot_list (xa_cons (xfld (C := A.C_Lump) T.n_Lump T.c_Lump T.a_Lump__names (xvar (pv 0)) rfl) xa_nil))))
/-! what the laws compare: data, equal -/
def dataOk : Nat → D → Bool
  | 0, _ => false
  | _ + 1, .non => true
  | _ + 1, .bl _ => true
  | _ + 1, .int _ => true
  | _ + 1, .str _ => true
  | n + 1, .lst ds => ds.all (dataOk n)
  | n + 1, .tup ds => ds.all (dataOk n)
  | _, _ => false
def W_sameN (n : Nat) : FW := fun bs S _ R => match bs with
  | [.fz a, .fz b] => (a = b ∧ dataOk n a = true) ∧ R (.fz (.bl true)) S
  | _ => False
theorem FnOk.impW {P : Program} {w : World} {K : PySem.W.Frag} {mg : Str → Option Value} {base : Heap} {f : Addr} {fd : FuncData} {ps : List Str} {k : Nat} {W W' : FW} (F : FnOk P w K mg base CX0 k f fd ps (spP K W)) (h : ∀ bs S R, W' bs S noX R → W bs S noX R) : FnOk P w K mg base CX0 k f fd ps (spP K W') :=
  F.imp fun _ _ _ _ ⟨β, S, w, bs, R, e, hR, hb, hW, hk⟩ => ⟨β, S, w, bs, R, e, hR, hb, h bs S R hW, hk⟩
theorem zip_self : ∀ ds : List D, zipD ds ds = ds.map fun d => .tup [d, d]
  | [] => rfl
  | d :: ds => congrArg _ (zip_self ds)
def sameF (n : Nat) : FS := (sSeq (sIf (tOf (eIsiT isa0 [(.ty "list"), (.ty "tuple")] (eVar 1))) (sSeq (sIf (tBl (eOp (gD2 (dEq true)) (eCall (gIsi isa0) (aCons (eVar 0) (aCons (eC (.ty "list")) aNil))) (eCall (gIsi isa0) (aCons (eVar 1) (aCons (eC (.ty "list")) aNil))))) (sRet (eC (.bl false))) sNext) (sSeq (sIf (tBl (eOp (gD2 (dEq true)) (eCall (gIsi isa0) (aCons (eVar 0) (aCons (eC (.ty "tuple")) aNil))) (eCall (gIsi isa0) (aCons (eVar 1) (aCons (eC (.ty "tuple")) aNil))))) (sRet (eC (.bl false))) sNext) (sRet (eAnd (eOp (gD2 (dEq false)) (eCall gLen (aCons (eVar 0) aNil)) (eCall gLen (aCons (eVar 1) aNil))) (eCall gAllL (aCons (eLc (iZipP (aCons (eVar 0) (aCons (eVar 1) aNil))) (gT 2 (gsC (gN 2) (gsC (gN 3) gsN))) tYesP (eCallC (gPure (W_sameN n) []) (aCons (eVar 2) (aCons (eVar 3) aNil))) [2, 3]) aNil)))))) sNext) (sSeq (sIf (tOrP (tBl (eOp (gD2 dIsN) (eVar 1) (eC .non))) (tBl (eOp (gD2 dIsN) (eVar 0) (eC .non)))) (sRet (eAnd (eOp (gD2 dIsN) (eVar 1) (eC .non)) (eOp (gD2 dIsN) (eVar 0) (eC .non)))) sNext) (sSeq (sIf (tBl (eOp (gD2 (dEq true)) (eCall (gIsi isa0) (aCons (eVar 1) (aCons (eC (.ty "bool")) aNil))) (eCall (gIsi isa0) (aCons (eVar 0) (aCons (eC (.ty "bool")) aNil))))) (sRet (eC (.bl false))) sNext) (sSeq (sIf (tBl (eOp (gD2 (dEq true)) (eCall (gIsi isa0) (aCons (eVar 1) (aCons (eC (.ty "int")) aNil))) (eCall (gIsi isa0) (aCons (eVar 0) (aCons (eC (.ty "int")) aNil))))) (sRet (eC (.bl false))) sNext) (sRet (eAnd (eOp (gD2 (dEq false)) (eCall (gIsi isa0) (aCons (eVar 1) (aCons (eC (.ty "str")) aNil))) (eCall (gIsi isa0) (aCons (eVar 0) (aCons (eC (.ty "str")) aNil)))) (eOp (gD2 (dEq false)) (eVar 0) (eVar 1))))))))
theorem sc__law_same : FnScope ["_law_found", "_law_due", "_law_one", "_law_two"] ["_law_found", "_law_due"] (defScope s__law_same) := ⟨rfl, rfl, rfl, by decide +kernel, rfl, by decide +kernel, by decide +kernel⟩
theorem okR__law_same (T : Fx P K mg A) (n : Nat) (ih : FnOk P w K mg base CX0 (n + 1) A.f__law_same A.d__law_same ["_law_found", "_law_due"] (spP K (W_sameN n))) :
    FnOk P w K mg base CX0 (n + 2) A.f__law_same A.d__law_same ["_law_found", "_law_due"] (spP K (defW 2 2 (sameF n))) :=
  okP T.F__law_same sc__law_same rfl rfl fun cdv A0 outer s H E hr =>
 (xss_cons (xs_if (xt_val (xisiT isa0_ok (by rfl) T.z_isinstance PyProof.Rows.boot_isinstance (xvar (pv 1)) (.cons (pe_bltn (v := .ty "list") (by rfl) T.z_list PyProof.Rows.boot_list rfl) (fun _ => .ty _) (.ty _) (.cons (pe_bltn (v := .ty "tuple") (by rfl) T.z_tuple PyProof.Rows.boot_tuple rfl) (fun _ => .ty _) (.ty _) .nil))) (by intro _; rfl))
 (xss_cons (xs_if (xt_cmp (op_neA hr.units) snd_ne (xcallB call_isi (snd_isi isa0_ok) (by rfl) T.z_isinstance PyProof.Rows.boot_isinstance (xa_cons (xvar (pv 0)) (xa_cons (xc (pe_bltn (v := .ty "list") (by rfl) T.z_list PyProof.Rows.boot_list rfl) fun _ => .ty _) xa_nil))) (xcallB call_isi (snd_isi isa0_ok) (by rfl) T.z_isinstance PyProof.Rows.boot_isinstance (xa_cons (xvar (pv 1)) (xa_cons (xc (pe_bltn (v := .ty "list") (by rfl) T.z_list PyProof.Rows.boot_list rfl) fun _ => .ty _) xa_nil))) (nomark _))
 (xss_one (xs_ret xbl))
 xss_nil)
 (xss_cons (xs_if (xt_cmp (op_neA hr.units) snd_ne (xcallB call_isi (snd_isi isa0_ok) (by rfl) T.z_isinstance PyProof.Rows.boot_isinstance (xa_cons (xvar (pv 0)) (xa_cons (xc (pe_bltn (v := .ty "tuple") (by rfl) T.z_tuple PyProof.Rows.boot_tuple rfl) fun _ => .ty _) xa_nil))) (xcallB call_isi (snd_isi isa0_ok) (by rfl) T.z_isinstance PyProof.Rows.boot_isinstance (xa_cons (xvar (pv 1)) (xa_cons (xc (pe_bltn (v := .ty "tuple") (by rfl) T.z_tuple PyProof.Rows.boot_tuple rfl) fun _ => .ty _) xa_nil))) (nomark _))
 (xss_one (xs_ret xbl))
 xss_nil)
 (xss_one (xs_ret (x_and (xcmp (op_eqA hr.units) snd_eq (xcallB call_len snd_len (by rfl) T.z_len PySem.boot_len (xa_cons (xvar (pv 0)) xa_nil)) (xcallB call_len snd_len (by rfl) T.z_len PySem.boot_len (xa_cons (xvar (pv 1)) xa_nil)) (nomark _)) (x_one (xcallB (cr_all rfl) snd_allL (by rfl) T.z_all PyProof.Rows.boot_all (xa_cons (x_lc (own := [("_law_one", 2), ("_law_two", 3)]) rfl sc__law_same.nd (xi_zip (by rfl) T.z_zip (xa_cons (xvar (pv 0)) (xa_cons (xvar (pv 1)) xa_nil))) (blkOk_by (own := [("_law_one", 2), ("_law_two", 3)]) (N := ["_law_found", "_law_due", "_law_one", "_law_two"]) (sc := defScope s__law_same) (by decide +kernel)) (by decide) (fun _ => (xg_tup rfl (xgs_cons (xg_name (pg_name (i := 2) sc__law_same.nd rfl (Or.inl rfl))) (xgs_cons (xg_name (pg_name (i := 3) sc__law_same.nd rfl (Or.inl rfl))) xgs_nil)))) (fun _ => xifs_nil) (fun _ => (xcall (snd_pure0 .nil) ih (hr.mono (by omega)) (by rfl) T.m__law_same T.F__law_same.kp T.b__law_same .nil pass0 (xa_cons (xvar (pv 2)) (xa_cons (xvar (pv 3)) xa_nil))))) xa_nil))))))))
 xss_nil)
 (xss_cons (xs_if (xt_w (xw_or (xt_cmp op_isN snd_isN (xvar (pv 1)) xnon (nomark _)) (xw_or1 (xt_cmp op_isN snd_isN (xvar (pv 0)) xnon (nomark _)))))
 (xss_one (xs_ret (x_and (xcmp op_isN snd_isN (xvar (pv 1)) xnon (nomark _)) (x_one (xcmp op_isN snd_isN (xvar (pv 0)) xnon (nomark _))))))
 xss_nil)
 (xss_cons (xs_if (xt_cmp (op_neA hr.units) snd_ne (xcallB call_isi (snd_isi isa0_ok) (by rfl) T.z_isinstance PyProof.Rows.boot_isinstance (xa_cons (xvar (pv 1)) (xa_cons (xc (pe_bltn (v := .ty "bool") (by rfl) T.z_bool PyProof.Rows.boot_bool rfl) fun _ => .ty _) xa_nil))) (xcallB call_isi (snd_isi isa0_ok) (by rfl) T.z_isinstance PyProof.Rows.boot_isinstance (xa_cons (xvar (pv 0)) (xa_cons (xc (pe_bltn (v := .ty "bool") (by rfl) T.z_bool PyProof.Rows.boot_bool rfl) fun _ => .ty _) xa_nil))) (nomark _))
 (xss_one (xs_ret xbl))
 xss_nil)
 (xss_cons (xs_if (xt_cmp (op_neA hr.units) snd_ne (xcallB call_isi (snd_isi isa0_ok) (by rfl) T.z_isinstance PyProof.Rows.boot_isinstance (xa_cons (xvar (pv 1)) (xa_cons (xc (pe_bltn (v := .ty "int") (by rfl) T.z_int PyProof.Rows.boot_int rfl) fun _ => .ty _) xa_nil))) (xcallB call_isi (snd_isi isa0_ok) (by rfl) T.z_isinstance PyProof.Rows.boot_isinstance (xa_cons (xvar (pv 0)) (xa_cons (xc (pe_bltn (v := .ty "int") (by rfl) T.z_int PyProof.Rows.boot_int rfl) fun _ => .ty _) xa_nil))) (nomark _))
 (xss_one (xs_ret xbl))
 xss_nil)
 (xss_one (xs_ret (x_and (xcmp (op_eqA hr.units) snd_eq (xcallB call_isi (snd_isi isa0_ok) (by rfl) T.z_isinstance PyProof.Rows.boot_isinstance (xa_cons (xvar (pv 1)) (xa_cons (xc (pe_bltn (v := .ty "str") (by rfl) T.z_str PyProof.Rows.boot_str rfl) fun _ => .ty _) xa_nil))) (xcallB call_isi (snd_isi isa0_ok) (by rfl) T.z_isinstance PyProof.Rows.boot_isinstance (xa_cons (xvar (pv 0)) (xa_cons (xc (pe_bltn (v := .ty "str") (by rfl) T.z_str PyProof.Rows.boot_str rfl) fun _ => .ty _) xa_nil))) (nomark _)) (x_one (xcmp (op_eqA hr.units) snd_eq (xvar (pv 0)) (xvar (pv 1)) (nomark _))))))))))

end
end PL
namespace PL
open PySem L2 Lp
/-! ### _law_same of what is equal -/
theorem lcW_map {g : FG} {ft : FT} {fe : FE} {Γ0 : Ev} {h : D → D} {ds : List D} {acc : List B} {S : Sto} {R : List B → Sto → Prop}
    (he : ∀ d ∈ ds, ∀ (R' : List B → Sto → Prop) (acc' : List B) (ds' : List D), lcW g ft fe Γ0 ds' (acc' ++ [.fz (h d)]) S R' → lcW g ft fe Γ0 (d :: ds') acc' S R')
    (hR : R (acc ++ ds.map fun d => .fz (h d)) S) : lcW g ft fe Γ0 ds acc S R := by
  induction ds generalizing acc with
  | nil => rw [List.map_nil, List.append_nil] at hR; exact hR
  | cons d ds ih =>
    refine he d List.mem_cons_self R acc ds ?_
    refine ih (fun d' hd' => he d' (List.mem_cons_of_mem _ hd')) ?_
    rw [List.append_assoc]
    exact hR
theorem all_true (ds : List D) : (ds.map fun _ => true).all id = true := by
  induction ds with
  | nil => rfl
  | cons d ds ih => exact ih
theorem same_zip {n : Nat} {Γ0 : Ev} {S : Sto} {R : List B → Sto → Prop} {ds : List D} (hl : Γ0.length = 4) (hd : ds.all (dataOk n) = true) (hR : R (ds.map fun _ => .fz (.bl true)) S) :
    lcW (gT 2 (gsC (gN 2) (gsC (gN 3) gsN))) tYesP (eCallC (gPure (W_sameN n) []) (aCons (eVar 2) (aCons (eVar 3) aNil))) Γ0 (zipD ds ds) [] S R := by
  rw [zip_self]
  refine lcW_map (h := fun _ => .bl true) (fun d hm R' acc' ds' h => ?_) (by rw [List.map_map]; exact hR)
  obtain ⟨d0, hd0, rfl⟩ := List.mem_map.mp hm
  match Γ0, hl with
  | [_, _, _, _], _ => exact ⟨rfl, ⟨rfl, List.all_eq_true.mp hd d0 hd0⟩, h⟩
theorem neb {α : Type} [DecidableEq α] (x : α) : (false != decide (x = x)) = true := by rw [decide_eq_true rfl]; rfl
theorem asDs_fz {α : Type} (f : α → D) (xs : List α) {k : List D → Prop} (h : k (xs.map f)) : asDs (xs.map fun d => .fz (f d)) k := by
  have := asDs_map (ds := xs.map f) (k := k) h
  rw [List.map_map] at this
  exact this
theorem asBls_c {α : Type} (f : α → Bool) (xs : List α) {k : List Bool → Prop} (h : k (xs.map f)) : asBls (xs.map fun d => .bl (f d)) k := by
  have := asBls_map (is := xs.map f) (k := k) h
  rw [List.map_map] at this
  exact this
theorem same_pure (n : Nat) (bs : List B) (S : Sto) (R : RB) (h : W_sameN (n + 1) bs S noX R) : defW 2 2 (sameF n) bs S noX R := by
  match bs, h with
  | [.fz a, .fz b], h =>
    obtain ⟨⟨rfl, hd⟩, hR⟩ := h
    cases a with
    | non => exact ⟨rfl, by decide, ⟨.ty "list", _, rfl⟩, hR⟩
    | bl k => exact ⟨rfl, by decide, ⟨.ty "list", _, rfl⟩, (by rw [neb]; exact hR : R (.fz (.bl (false != decide (k = k)))) S)⟩
    | int i => exact ⟨rfl, by decide, ⟨.ty "list", _, rfl⟩, (by rw [neb]; exact hR : R (.fz (.bl (false != decide (i = i)))) S)⟩
    | str z => exact ⟨rfl, by decide, ⟨.ty "list", _, rfl⟩, (by rw [neb]; exact hR : R (.fz (.bl (false != decide (z = z)))) S)⟩
    | lst ds =>
      refine ⟨rfl, by decide, ⟨.ty "list", _, rfl⟩, cnd_t (neb _) ?_⟩
      refine same_zip rfl hd ?_
      refine asDs_fz _ _ (asBls_c _ _ ?_)
      rw [all_true]
      exact hR
    | tup ds =>
      refine ⟨rfl, by decide, ⟨.ty "list", _, rfl⟩, cnd_t (neb _) ?_⟩
      refine same_zip rfl hd ?_
      refine asDs_fz _ _ (asBls_c _ _ ?_)
      rw [all_true]
      exact hR
    | _ => cases hd
section
variable {P : Program} {w : World} {K : PySem.W.Frag} {mg : Str → Option Value} {base : Heap} {A : Ad}
theorem ok__law_same (T : Fx P K mg A) : ∀ n : Nat, FnOk P w K mg base CX0 (n + 1) A.f__law_same A.d__law_same ["_law_found", "_law_due"] (spP K (W_sameN n))
  | 0 => T.F__law_same.ok sc__law_same (fun _ _ _ _ ⟨_, _, _, bs, _, _, _, _, hW, _⟩ => by
      match bs, hW with
      | [.fz a, .fz b], hW => exact (Bool.false_ne_true hW.1.2).elim) fun _ _ _ _ _ _ _ _ _ ⟨_, _, _, bs, _, _, _, _, hW, _⟩ => by
      exfalso
      match bs, hW with
      | [.fz a, .fz b], hW => exact Bool.false_ne_true hW.1.2
  | n + 1 => FnOk.impW (okR__law_same T n (ok__law_same T n)) fun bs S R h => same_pure n bs S R h
end
end PL

namespace PL
open PySem L2 Lp
section
variable {P : Program} {w : World} {K : PySem.W.Frag} {mg : Str → Option Value} {base : Heap} {A : Ad}
theorem sc_law : FnScope ["_law_script", "_law_bag_here", "_law_turn", "_law_names_z", "_law_at", "_law_loose", "_law_things", "_law_pegs_z", "_law_given", "_law_made", "_law_wide", "_law_text", "_law_again", "_law_found", "_law_late"] ["_law_script"] (defScope s_law) := ⟨rfl, rfl, rfl, by decide +kernel, rfl, by decide +kernel, by decide +kernel⟩
def F_law_0 : FS := (sSeq (sAsg (eLst (aCons (eMethC "Lump" "names" (gPureZ W_Lump_names []) (eVar 9) aNil) (aCons (eMethC "Lump" "pegs" (gPureZ W_Lump_pegs []) (eVar 9) aNil) (aCons (eProp "Lump" (gPure W_Lump_is_open []) (eVar 9)) (aCons (eMethC "Lump" "looks" (gPure W_Lump_looks []) (eVar 9) aNil) (aCons (eCall (gLenO "Lump" (gPure W_Lump_len [])) (aCons (eVar 9) aNil)) (aCons (eCall (gReprO "Lump" (gPure W_Lump_repr [])) (aCons (eVar 9) aNil)) aNil))))))) (gN 13)) (sSeq (sIf (tNotP (tOf (eCallC (gPure (W_sameN 4) []) (aCons (eVar 13) (aCons (eLst (aCons (eVar 6) (aCons (eVar 7) (aCons (eVar 10) (aCons (eOp (gD2 dSub) (eVar 4) (eCall gInt (aCons (eNot (eVar 10)) aNil))) (aCons (eCall gLen (aCons (eVar 3) aNil)) (aCons (eVar 11) aNil))))))) aNil))))) (sRet (eC (.bl false))) sNext) (sSeq (sExpr (eBM tyL gClear (eMethC "Lump" "names" (gPureM W_Lump_names []) (eVar 9) aNil) aNil)) (sExpr (eBM tyL gAppend (eMethC "Lump" "pegs" (gPureM W_Lump_pegs []) (eVar 9) aNil) (aCons (eC (.str "q")) aNil))))))
def F_law_1 : FS := (sSeq (sAsg (eMkK (gMake "Lump" W_Lump_init []) [2, 1, 0] 3 (aCons (eNot (eVar 5)) (aCons (eTup aNil) (aCons (eCall gTuple (aCons (eVar 6) aNil)) aNil)))) (gN 14)) (sIf (tNotP (tOf (eCallC (gPure (W_sameN 4) []) (aCons (eLst (aCons (eMethC "Lump" "names" (gPureZ W_Lump_names []) (eVar 14) aNil) (aCons (eMethC "Lump" "pegs" (gPureZ W_Lump_pegs []) (eVar 14) aNil) (aCons (eProp "Lump" (gPure W_Lump_is_open []) (eVar 14)) (aCons (eMethC "Lump" "looks" (gPure W_Lump_looks []) (eVar 14) aNil) aNil))))) (aCons (eLst (aCons (eVar 6) (aCons (eLst aNil) (aCons (eNot (eVar 5)) (aCons (eOp (gD2 dSub) (eVar 4) (eCall gInt (aCons (eVar 5) aNil))) aNil))))) aNil))))) (sRet (eC (.bl false))) sNext))
def F_law_2 : FS := (sSeq (sForC [12, 13] (iRng1P (aCons (eC (.int 2)) aNil)) (gN 12) F_law_0) F_law_1)
def F_law_3 : FS := (sSeq (sExpr (eBM tyL gAppend (eOp gIx (eVar 8) (eC (.int 0))) (aCons (eC (.str "q")) aNil))) (sSeq (sExpr (eBM tyL gAppend (eOp gIx (eVar 8) (eC (.int 1))) (aCons (eC (.str "q")) aNil))) (sSeq (sAsg (eOp (gD2 dAdd) (eOp (gD2 dAdd) (eOp (gD2 dAdd) (eC (.str "Lump(")) (eBM tyS gJoin (eC (.str " ")) (aCons (eVar 3) aNil))) (eC (.str ": "))) (eIf (tOf (eVar 10)) (eC (.str "open)")) (eC (.str "closed)")))) (gN 11)) F_law_2)))
def F_law_4 : FS := (sSeq (sAsg (eCallC (gBag W__law_names []) (aCons (eVar 1) (aCons (eOp (gD2 dAdd) (eC (.int 1)) (eCallC (gBag W_pull []) (aCons (eVar 1) (aCons (eC (.int 6)) aNil)))) aNil))) (gN 3)) (sSeq (sPar 4 5 (aCons (eOp (gD2 dAdd) (eC (.int 1)) (eCallC (gBag W_pull []) (aCons (eVar 1) (aCons (eCall gLen (aCons (eVar 3) aNil)) aNil)))) (aCons (eOp (gD2 (dEq false)) (eCallC (gBag W_pull []) (aCons (eVar 1) (aCons (eC (.int 2)) aNil))) (eC (.int 0))) aNil))) (sSeq (sPar 6 7 (aCons (eSl (eVar 3) oNone (oSome (eVar 4))) (aCons (eSl (eVar 3) (oSome (eVar 4)) oNone) aNil))) (sSeq (sAsg (eLstM (aCons (eCall gListM (aCons (eVar 6) aNil)) (aCons (eCall gListM (aCons (eVar 7) aNil)) aNil))) (gN 8)) (sSeq (sPar 9 10 (aCons (eCallC (gMkA "Lump" W_Lump_init []) (aCons (eOp gIx (eVar 8) (eC (.int 0))) (aCons (eOp gIx (eVar 8) (eC (.int 1))) (aCons (eVar 5) aNil)))) (aCons (eOr (eVar 5) (eOp (gD2 (dEq true)) (eVar 7) (eLst aNil))) aNil))) F_law_3)))))
def W_law : FW := defW 1 14 (sSeq (sAsg (eCallC (gAll W_bag []) (aCons (eVar 0) aNil)) (gN 1)) (sSeq (sForC [2, 3, 4, 5, 6, 7, 8, 9, 10, 11, 12, 13, 14] (iRng1P (aCons (eC (.int 6)) aNil)) (gN 2) F_law_4) (sRet (eC (.bl true)))))
theorem ok_law (T : Fx P K mg A) : FnOk P w K mg base CX0 6 A.f_law A.d_law ["_law_script"] (spP K W_law) :=
  okP T.F_law sc_law rfl rfl fun cdv A0 outer s H E hr =>
 (xss_cons (xs_set (i := 1) sc_law.nd rfl (Or.inl rfl) (xcall (snd_all0 .nil) (ok__law_bag T) (hr.mono (by decide)) (by rfl) T.m__law_bag T.F__law_bag.kp T.b__law_bag .nil pass0 (xa_cons (xvar (pv 0)) xa_nil)))
 (xss_cons (xs_forC [2, 3, 4, 5, 6, 7, 8, 9, 10, 11, 12, 13, 14] PassesOwn.never rfl (xi_range1 (by rfl) T.z_range (xa_cons xint xa_nil)) (xg_name (pg_name (i := 2) sc_law.nd rfl (Or.inl rfl)))
 (xss_cons (xs_set (i := 3) sc_law.nd rfl (Or.inl rfl) (xcall (snd_bag0 .nil) (ok__law_names T) (hr.mono (by decide)) (by rfl) T.m__law_names T.F__law_names.kp T.b__law_names .nil pass0 (xa_cons (xvar (pv 1)) (xa_cons (xop op_addA snd_add xint (xcall (snd_bag0 .nil) (ok__law_pull T) (hr.mono (by decide)) (by rfl) T.m__law_pull T.F__law_pull.kp T.b__law_pull .nil pass0 (xa_cons (xvar (pv 1)) (xa_cons xint xa_nil)))) xa_nil))))
 (xss_cons (xs_par (fun h => ps_par (i := 4) (j := 5) rfl sc_law.nd rfl rfl (by decide) rfl rfl h (by rfl)) (xa_cons (xop op_addA snd_add xint (xcall (snd_bag0 .nil) (ok__law_pull T) (hr.mono (by decide)) (by rfl) T.m__law_pull T.F__law_pull.kp T.b__law_pull .nil pass0 (xa_cons (xvar (pv 1)) (xa_cons (xcallB call_len snd_len (by rfl) T.z_len PySem.boot_len (xa_cons (xvar (pv 3)) xa_nil)) xa_nil)))) (xa_cons (xcmp (op_eqA hr.units) snd_eq (xcall (snd_bag0 .nil) (ok__law_pull T) (hr.mono (by decide)) (by rfl) T.m__law_pull T.F__law_pull.kp T.b__law_pull .nil pass0 (xa_cons (xvar (pv 1)) (xa_cons xint xa_nil))) xint (nomark _)) xa_nil)))
 (xss_cons (xs_par (fun h => ps_par (i := 6) (j := 7) rfl sc_law.nd rfl rfl (by decide) rfl rfl h (by rfl)) (xa_cons (xsl (xvar (pv 3)) xo_none (xo_some (xvar (pv 4)))) (xa_cons (xsl (xvar (pv 3)) (xo_some (xvar (pv 4))) xo_none) xa_nil)))
 (xss_cons (xs_set (i := 8) sc_law.nd rfl (Or.inl rfl) (x_lstM (xa_cons (xcallTy call_list_of snd_listM (by rfl) T.z_list PyProof.Rows.boot_list (xa_cons (xvar (pv 6)) xa_nil)) (xa_cons (xcallTy call_list_of snd_listM (by rfl) T.z_list PyProof.Rows.boot_list (xa_cons (xvar (pv 7)) xa_nil)) xa_nil))))
 (xss_cons (xs_par (fun h => ps_par (i := 9) (j := 10) rfl sc_law.nd rfl rfl (by decide) rfl rfl h (by rfl)) (xa_cons (xmkA (C := A.C_Lump) T.n_Lump .nil T.k_Lump (ok_Lump_init T) (hr.mono (by decide)) (by rfl) T.m_Lump T.b_Lump_init .nil pass0 (xa_cons (xix ix_seq snd_ix (xvar (pv 8)) xint (fun _ _ => rfl)) (xa_cons (xix ix_seq snd_ix (xvar (pv 8)) xint (fun _ _ => rfl)) (xa_cons (xvar (pv 5)) xa_nil)))) (xa_cons (x_or (xvar (pv 5)) (x_one (xcmp (op_neA hr.units) snd_ne (xvar (pv 7)) (x_lst xa_nil) (nomark _)))) xa_nil)))
 (xss_cons (xs_expr (xbm snd_append snd_tyL (xix ix_seq snd_ix (xvar (pv 8)) xint (fun _ _ => rfl)) (xa_cons xstr xa_nil) fun p q => pe_bm PySem.F.plainAttrs_list PySem.F.slot_list_append PySem.F.type_list_append mt_append p q))
 (xss_cons (xs_expr (xbm snd_append snd_tyL (xix ix_seq snd_ix (xvar (pv 8)) xint (fun _ _ => rfl)) (xa_cons xstr xa_nil) fun p q => pe_bm PySem.F.plainAttrs_list PySem.F.slot_list_append PySem.F.type_list_append mt_append p q))
 (xss_cons (xs_set (i := 11) sc_law.nd rfl (Or.inl rfl) (xop op_addA snd_add (xop op_addA snd_add (xop op_addA snd_add xstr (xjoin xstr (xvar (pv 3)) fun p q => pe_join p q)) xstr) (x_if (xt_val (xvar (pv 10)) (by intro _; rfl)) xstr xstr)))
 (xss_cons (xs_forC [12, 13] PassesOwn.never rfl (xi_range1 (by rfl) T.z_range (xa_cons xint xa_nil)) (xg_name (pg_name (i := 12) sc_law.nd rfl (Or.inl rfl)))
 (xss_cons (xs_set (i := 13) sc_law.nd rfl (Or.inl rfl) (x_lst (xa_cons (xmeth0 (C := A.C_Lump) T.n_Lump (snd_pureZ0 .nil) (xvar (pv 9)) fun p => pe_meth0 p T.c_Lump T.M_Lump_names (ok_Lump_names T) (hr.mono (by decide)) T.b_Lump_names .nil pass0) (xa_cons (xmeth0 (C := A.C_Lump) T.n_Lump (snd_pureZ0 .nil) (xvar (pv 9)) fun p => pe_meth0 p T.c_Lump T.M_Lump_pegs (ok_Lump_pegs T) (hr.mono (by decide)) T.b_Lump_pegs .nil pass0) (xa_cons (xprop' (C := A.C_Lump) T.n_Lump (snd_pure0 .nil) (xvar (pv 9)) fun p => pe_prop p T.c_Lump T.p_Lump_is_open (ok_Lump_is_open T) (hr.mono (by decide)) T.b_Lump_is_open .nil pass0 rfl) (xa_cons (xmeth0 (C := A.C_Lump) T.n_Lump (snd_pure0 .nil) (xvar (pv 9)) fun p => pe_meth0 p T.c_Lump T.M_Lump_looks (ok_Lump_looks T) (hr.mono (by decide)) T.b_Lump_looks .nil pass0) (xa_cons (xcallB (call_lenOwn (C := A.C_Lump) (((ok_Lump_len T)).raw T.b_Lump_len .nil) (hr.mono (by decide)) T.h_Lump_len T.hf_Lump_len) (T.n_Lump ▸ snd_lenO (cn := "Lump") (snd_pure0 .nil)) (by rfl) T.z_len PySem.boot_len (xa_cons (xvar (pv 9)) xa_nil)) (xa_cons (xcallB (call_reprOwn (C := A.C_Lump) (((ok_Lump_repr T)).raw T.b_Lump_repr .nil) (hr.mono (by decide)) T.h_Lump_repr T.hf_Lump_repr) (T.n_Lump ▸ snd_reprO (cn := "Lump") (snd_pure0 .nil)) (by rfl) T.z_repr (by decide +kernel) (xa_cons (xvar (pv 9)) xa_nil)) xa_nil))))))))
 (xss_cons (xs_if (xt_not (xt_val (xcall (snd_pure0 .nil) (ok__law_same T 4) (hr.mono (by decide)) (by rfl) T.m__law_same T.F__law_same.kp T.b__law_same .nil pass0 (xa_cons (xvar (pv 13)) (xa_cons (x_lst (xa_cons (xvar (pv 6)) (xa_cons (xvar (pv 7)) (xa_cons (xvar (pv 10)) (xa_cons (xop op_sub snd_sub (xvar (pv 4)) (xcallTy call_intA snd_int (by rfl) T.z_int PyProof.Rows.boot_int (xa_cons (x_not (xvar (pv 10))) xa_nil))) (xa_cons (xcallB call_len snd_len (by rfl) T.z_len PySem.boot_len (xa_cons (xvar (pv 3)) xa_nil)) (xa_cons (xvar (pv 11)) xa_nil))))))) xa_nil))) (by intro _; rfl)))
 (xss_one (xs_ret xbl))
 xss_nil)
 (xss_cons (xs_expr (xbm0 snd_clear snd_tyL (xmeth0 (C := A.C_Lump) T.n_Lump (snd_pureM0 .nil) (xvar (pv 9)) fun p => pe_meth0 p T.c_Lump T.M_Lump_names (ok_Lump_names T) (hr.mono (by decide)) T.b_Lump_names .nil pass0) fun p => pe_bm0 PySem.F.plainAttrs_list PySem.F.slot_list_clear PySem.F.type_list_clear mt_clear p))
 (xss_one (xs_expr (xbm snd_append snd_tyL (xmeth0 (C := A.C_Lump) T.n_Lump (snd_pureM0 .nil) (xvar (pv 9)) fun p => pe_meth0 p T.c_Lump T.M_Lump_pegs (ok_Lump_pegs T) (hr.mono (by decide)) T.b_Lump_pegs .nil pass0) (xa_cons xstr xa_nil) fun p q => pe_bm PySem.F.plainAttrs_list PySem.F.slot_list_append PySem.F.type_list_append mt_append p q)))))))
 (xss_cons (xs_set (i := 14) sc_law.nd rfl (Or.inl rfl) (xmkK (C := A.C_Lump) T.n_Lump T.k_Lump (ok_Lump_init T) (hr.mono (by decide)) (by rfl) T.m_Lump T.kb_Lump_init_is_loose_pegs_names pass0 (xk_cons (x_not (xvar (pv 5))) (xk_cons (x_tup xa_nil) (xk_cons (xcallTy call_tuple_of snd_tuple (by rfl) T.z_tuple PyProof.Rows.boot_tuple (xa_cons (xvar (pv 6)) xa_nil)) xk_nil)))))
 (xss_one (xs_if (xt_not (xt_val (xcall (snd_pure0 .nil) (ok__law_same T 4) (hr.mono (by decide)) (by rfl) T.m__law_same T.F__law_same.kp T.b__law_same .nil pass0 (xa_cons (x_lst (xa_cons (xmeth0 (C := A.C_Lump) T.n_Lump (snd_pureZ0 .nil) (xvar (pv 14)) fun p => pe_meth0 p T.c_Lump T.M_Lump_names (ok_Lump_names T) (hr.mono (by decide)) T.b_Lump_names .nil pass0) (xa_cons (xmeth0 (C := A.C_Lump) T.n_Lump (snd_pureZ0 .nil) (xvar (pv 14)) fun p => pe_meth0 p T.c_Lump T.M_Lump_pegs (ok_Lump_pegs T) (hr.mono (by decide)) T.b_Lump_pegs .nil pass0) (xa_cons (xprop' (C := A.C_Lump) T.n_Lump (snd_pure0 .nil) (xvar (pv 14)) fun p => pe_prop p T.c_Lump T.p_Lump_is_open (ok_Lump_is_open T) (hr.mono (by decide)) T.b_Lump_is_open .nil pass0 rfl) (xa_cons (xmeth0 (C := A.C_Lump) T.n_Lump (snd_pure0 .nil) (xvar (pv 14)) fun p => pe_meth0 p T.c_Lump T.M_Lump_looks (ok_Lump_looks T) (hr.mono (by decide)) T.b_Lump_looks .nil pass0) xa_nil))))) (xa_cons (x_lst (xa_cons (xvar (pv 6)) (xa_cons (x_lst xa_nil) (xa_cons (x_not (xvar (pv 5))) (xa_cons (xop op_sub snd_sub (xvar (pv 4)) (xcallTy call_intA snd_int (by rfl) T.z_int PyProof.Rows.boot_int (xa_cons (xvar (pv 5)) xa_nil))) xa_nil))))) xa_nil))) (by intro _; rfl)))
 (xss_one (xs_ret xbl))
 xss_nil)))))))))))))
 (xss_one (xs_ret xbl))))
end
end PL
namespace PL
open PySem L2 Lp
abbrev lumpD (xs ys : List Str) (lo : Bool) : D := .ins "Lump" [("_names", .lst (xs.map .str)), ("_pegs", .lst (ys.map .str)), ("_is_loose", .bl lo)]
def wide (ys : List Str) (lo : Bool) : Bool := lo || !ys.isEmpty
variable {xs ys : List Str} {lo : Bool} {S : Sto} {Rx : XP} {R : RB}
theorem names_of (h : R (.mt 0) [.lst ((xs.map .str).map .fz)]) : W_Lump_names [.fz (lumpD xs ys lo)] [] noX R := ⟨rfl, rfl, h⟩
theorem pegs_of (h : R (.mt 0) [.lst ((ys.map .str).map .fz)]) : W_Lump_pegs [.fz (lumpD xs ys lo)] [] noX R := ⟨rfl, rfl, h⟩
theorem len_pos (ys : List Str) : decide ((0 : Int) < ((ys.map D.str).length : Int)) = !ys.isEmpty := by
  cases ys with
  | nil => rfl
  | cons y ys => exact decide_eq_true (by rw [List.length_map, List.length_cons]; omega)
theorem open_of (h : R (.fz (.bl (wide ys lo))) []) : W_Lump_is_open [.fz (lumpD xs ys lo)] [] noX R := by
  cases lo with
  | true => exact ⟨rfl, rfl, h⟩
  | false =>
    refine ⟨rfl, rfl, rfl, ?_⟩
    show R (.fz (.bl (decide ((0 : Int) < ((ys.map D.str).length : Int))))) []
    rw [len_pos]
    exact h
theorem looks_of (h : R (.fz (.int (xs.length - (if (!wide ys lo) = true then 1 else 0)))) []) : W_Lump_looks [.fz (lumpD xs ys lo)] [] noX R := by
  refine ⟨rfl, rfl, open_of ?_⟩
  show cnd (wide ys lo) _ _
  cases e : wide ys lo with
  | true =>
    rw [e] at h
    refine ⟨rfl, ?_⟩
    show R (.fz (.int ((xs.map D.str).length : Int))) []
    rw [List.length_map]
    rw [show ((xs.length : Int) - if (!true) = true then 1 else 0) = xs.length from Int.sub_zero _] at h
    exact h
  | false =>
    rw [e] at h
    refine ⟨rfl, ?_⟩
    show R (.fz (.int (((xs.map D.str).length : Int) - 1))) []
    rw [List.length_map]
    exact h
theorem map_app (xs ys : List Str) : (xs.map D.str).map B.fz ++ (List.map B.fz (ys.map D.str) ++ []) = List.map B.fz ((xs ++ ys).map D.str) := by
  rw [List.append_nil, List.map_append, List.map_append]
theorem len_of (hs : (xs ++ ys).length ≤ 100) (h : R (.fz (.int ((xs ++ ys).length : Int))) []) : W_Lump_len [.fz (lumpD xs ys lo)] [] noX R := by
  refine ⟨rfl, rfl, rfl, ?_, asDs_intro (map_app xs ys) ?_⟩
  · show (((xs.map D.str).map B.fz ++ (List.map B.fz (ys.map D.str) ++ [])).length) ≤ sizeLine
    rw [map_app, List.length_map, List.length_map]
    exact Nat.le_trans hs (by decide)
  · show R (.fz (.int (((xs ++ ys).map D.str).length : Int))) []
    rw [List.length_map]
    exact h
def tailW (w : Bool) : Str := match w with | true => (": open)" : Str) | false => (": closed)" : Str)
def lumpText (zs : List Str) (w : Bool) : Str := ((Str.empty ++ ("Lump(" : Str)) ++ Txt.join " " zs) ++ tailW w
theorem small_join {zs : List Str} (hz : ∀ z ∈ zs, z.length ≤ 8) (hs : zs.length ≤ 100) : (zs.map (·.length)).sum + zs.length * (" " : Str).length ≤ 1000 := by
  have e := sum_le (fun z : Str => z.length) 8 zs hz
  have e1 : (" " : Str).length = 1 := by decide
  rw [e1]
  show (zs.map fun z => z.length).sum + _ ≤ _
  omega
theorem words_of (hz : ∀ z ∈ xs ++ ys, z.length ≤ 8) (hs : (xs ++ ys).length ≤ 100) (h : R (.fz (.str (Txt.join " " (xs ++ ys)))) []) : W_Lump__words [.fz (lumpD xs ys lo)] [] noX R := by
  have sj := small_join hz hs
  refine ⟨rfl, trivial, rfl, rfl, ?_, asDs_intro (map_app xs ys) ?_⟩
  · show (((xs.map D.str).map B.fz ++ (List.map B.fz (ys.map D.str) ++ [])).length) ≤ sizeLine
    rw [map_app, List.length_map, List.length_map]
    exact Nat.le_trans hs (by decide)
  · exact asStrs_m ⟨Nat.le_trans sj (by decide), h⟩
theorem repr_of (hz : ∀ z ∈ xs ++ ys, z.length ≤ 8) (hs : (xs ++ ys).length ≤ 100) (h : R (.fz (.str (lumpText (xs ++ ys) (wide ys lo)))) []) : W_Lump_repr [.fz (lumpD xs ys lo)] [] noX R := by
  have sj := small_join hz hs
  have jl : (Txt.join " " (xs ++ ys)).length ≤ 1000 := Nat.le_trans (join_len " " (xs ++ ys)) sj
  have sz : sizeLine = 16777216 := rfl
  have l1 : (Str.empty ++ ("Lump(" : Str)).length = 5 := by decide +kernel
  have l2 := Str.length_append (Str.empty ++ ("Lump(" : Str)) (Txt.join " " (xs ++ ys))
  have l3 := Str.length_append (Str.empty ++ ("Lump(" : Str) ++ Txt.join " " (xs ++ ys)) (": open)" : Str)
  have l30 : (": open)" : Str).length = 7 := by decide +kernel
  have l4 := Str.length_append (Str.empty ++ ("Lump(" : Str) ++ Txt.join " " (xs ++ ys)) (": closed)" : Str)
  have l40 : (": closed)" : Str).length = 9 := by decide +kernel
  refine ⟨rfl, rfl, open_of ?_⟩
  show cnd (wide ys lo) _ _
  cases e : wide ys lo with
  | true =>
    rw [e] at h
    exact ⟨by omega, ⟨rfl, rfl⟩, words_of hz hs ⟨by omega, by omega, by omega, h⟩⟩
  | false =>
    rw [e] at h
    exact ⟨by omega, ⟨rfl, rfl⟩, words_of hz hs ⟨by omega, by omega, by omega, h⟩⟩
end PL

namespace PL
open PySem L2 Lp
theorem pick_lst {ds : List D} {R : RB} (h0 : 0 < ds.length) (h1 : ds.length ≤ 1000000000000000000) (hR : ∀ d ∈ ds, R (.fz d) [.bag]) : W__law_pick [.mt 0, .fz (.lst ds)] [.bag] noX R :=
  ⟨rfl, rfl, trivial, rfl, ⟨by omega, by omega⟩, fun d d0 d1 => ⟨rfl, optK_in (k := fun d => R (.fz d) [.bag]) d0 d1 hR⟩⟩
theorem pick_str {z : Str} {R : RB} (h0 : 0 < z.length) (h1 : z.length ≤ sizeLine) (hR : ∀ c ∈ z.cps.toList, R (.fz (.str ⟨#[c]⟩)) [.bag]) : W__law_pick [.mt 0, .fz (.str z)] [.bag] noX R :=
  ⟨rfl, h1, rfl, trivial, rfl, ⟨by omega, by have : sizeLine = 16777216 := rfl; omega⟩, fun d d0 d1 => ⟨rfl, h1, optK_in (k := fun c => R (.fz (.str ⟨#[c]⟩)) [.bag]) d0 (by have : z.cps.toList.length = z.length := Array.length_toList; omega) hR⟩⟩
theorem range_in {lo : Int} {n : Nat} {d : D} (h : d ∈ rangeD lo n) : ∃ k : Int, (lo ≤ k ∧ k < lo + n) ∧ d = .int k := by
  obtain ⟨k, hk, rfl⟩ := List.mem_map.mp h
  have := List.mem_range.mp hk
  exact ⟨lo + k, ⟨by omega, by omega⟩, rfl⟩
theorem letters_len : (Str.ofString "abcdefghijklmnopqrstuvwxyz").length = 26 := by decide +kernel
theorem letters_ok : okS (Str.ofString "abcdefghijklmnopqrstuvwxyz") := by decide +kernel
theorem names_spec {n : Int} {R : RB} (h0 : 0 ≤ n) (h1 : n ≤ 1000) (hR : ∀ zs : List Str, zs.length = n.toNat → (∀ z ∈ zs, z.length ≤ 8 ∧ okS z) → R (.fz (.lst (zs.map .str))) [.bag]) : W__law_names [.mt 0, .fz (.int n)] [.bag] noX R := by
  refine ⟨rfl, trivial, (by decide : 5 ≤ sizeLine), rfl, trivial, pick_lst (ds := [.int 0, .int 0, .int 1, .int 3, .int 7]) (by decide) (by decide) fun d hd => ⟨rfl, ?_⟩⟩
  have hd : ∃ j : Int, d = .int j ∧ 0 ≤ j ∧ j ≤ 7 := by
    simp only [List.mem_cons, List.not_mem_nil, or_false] at hd
    rcases hd with rfl | rfl | rfl | rfl | rfl <;> exact ⟨_, rfl, by decide, by decide⟩
  obtain ⟨j, rfl, j0, j1⟩ := hd
  refine ⟨⟨by omega, by have : (sizeLine : Int) = 16777216 := rfl; omega⟩, ?_⟩
  refine lcW_vals (fun b => ∃ z, b = .fz (.str z) ∧ (z.length = 1 ∧ okS z)) (fun d _ acc nx hn => ?_) fun bs hl hb => ?_
  · refine ⟨rfl, trivial, ?_⟩
    refine pick_str (by rw [letters_len]; decide) (by rw [letters_len]; decide) fun c hc => ⟨rfl, ?_⟩
    exact hn _ ⟨_, rfl, rfl, okS_one letters_ok hc⟩
  · obtain ⟨zs, rfl, hz⟩ := strs_of hb
    refine asDs_strs (asStrs_m ⟨?_, ?_⟩)
    · have e1 := sum_le (fun z : Str => z.length) 1 zs fun z hz' => Nat.le_of_eq (hz z hz').1
      have e0 : (Str.ofString "").length = 0 := by decide
      have e2 : zs.length ≤ 7 := by
        rw [List.length_map] at hl
        rw [hl, range_len]
        omega
      rw [e0]
      show (zs.map fun z => z.length).sum + _ ≤ _
      omega
    have hs : (Txt.join (Str.ofString "") zs).length ≤ 7 := by
      rw [PySem.W.KT.join_ones zs fun z h => (hz z h).1]
      rw [List.length_map] at hl
      rw [hl, range_len]
      omega
    have hk : okS (Txt.join (Str.ofString "") zs) := okS_join (by decide +kernel) fun z h => (hz z h).2
    generalize Txt.join (Str.ofString "") zs = st at hs hk
    have hz7 : (sizeLine : Nat) = 16777216 := rfl
    refine ⟨by omega, rfl, trivial, rfl, ⟨by omega, by omega⟩, fun a a0 a1 => ⟨rfl, rfl, trivial, rfl, ⟨by decide, by decide⟩, fun f f0 f1 => ⟨rfl, (by decide : 2 ≤ sizeLine), rfl, ⟨by omega, by have : (sizeLine : Int) = 16777216 := rfl; omega⟩, ?_⟩⟩⟩
    refine lcW_vals (fun b => ∃ z, b = .fz (.str z) ∧ (z.length ≤ 8 ∧ okS z)) (fun d hd acc nx hn => ?_) fun bs hl hb => ?_
    · obtain ⟨k, hk', rfl⟩ := range_in hd
      have hl26 : (Str.ofString "abcdefghijklmnopqrstuvwxyz").cps.toList.length = 26 := by rw [Array.length_toList]; exact letters_len
      have m0 := Int.emod_nonneg (f + 5 * k) (by decide : (26 : Int) ≠ 0)
      have m1 := Int.emod_lt_of_pos (f + 5 * k) (by decide : (0 : Int) < 26)
      have c2 := cutS_two st a0
      have l26 : (Str.ofString "abcdefghijklmnopqrstuvwxyz").length ≤ sizeLine := by rw [letters_len]; decide
      refine ⟨by omega, .inl ⟨by decide, by decide⟩, (by decide : (0 : Int) < 26), l26, optK_in (by exact m0) (by rw [hl26]; exact m1) fun c hc => ?_⟩
      have c1 : (Str.mk #[c]).length = 1 := rfl
      have a1 : (cutS st none (some a) ++ Str.mk #[c]).length = (cutS st none (some a)).length + 1 := PySem.Str.length_append _ _
      have a2 := PySem.Str.length_append (cutS st none (some a) ++ Str.mk #[c]) (cutS st (some a) none)
      exact ⟨by omega, by omega, by omega, hn _ ⟨_, rfl, by omega, okS_app (okS_app (okS_cut hk _ _) (okS_one letters_ok hc)) (okS_cut hk _ _)⟩⟩
    · obtain ⟨ys, rfl, hy⟩ := strs_of hb
      refine asDs_strs (hR ys ?_ hy)
      rw [List.length_map] at hl
      rw [hl, range_len]
end PL

namespace PL
open PySem L2 Lp
theorem cut_strs (xs ys : List Str) {k : Int} (hk : (xs.length : Int) = k) : cutA ((xs ++ ys).map D.str) none (some k) = xs.map D.str ∧ cutA ((xs ++ ys).map D.str) (some k) none = ys.map D.str := by
  subst hk
  rw [cutA_to _ (by omega), cutA_from _ (by omega), Int.toNat_natCast, List.map_append]
  exact ⟨by rw [← List.length_map (as := xs) (f := D.str)]; exact List.take_left, by rw [← List.length_map (as := xs) (f := D.str)]; exact List.drop_left⟩
theorem two_ways {α : Type} (zs : List α) {a : Int} (h0 : 0 ≤ a) (h1 : a < zs.length) : ∃ xs ys, zs = xs ++ ys ∧ (xs.length : Int) = 1 + a :=
  ⟨zs.take (1 + a).toNat, zs.drop (1 + a).toNat, (List.take_append_drop _ _).symm, by rw [List.length_take, Nat.min_eq_left (by omega)]; omega⟩
theorem len_lt (xs : List Str) (h : xs.length ≤ 100) : ((xs.map D.str).map B.fz).length < sizeLine := by
  rw [List.length_map, List.length_map]
  exact Nat.lt_of_le_of_lt h (by decide)
theorem text1 {j : Str} (h : j.length ≤ 1000) : ("Lump(" : Str).length + j.length ≤ sizeLine := by
  have l : ("Lump(" : Str).length = 5 := by decide +kernel
  have sz : sizeLine = 16777216 := rfl
  omega
theorem text2 {j : Str} (h : j.length ≤ 1000) : (("Lump(" : Str) ++ j).length + (": " : Str).length ≤ sizeLine := by
  have l : ("Lump(" : Str).length = 5 := by decide +kernel
  have l2 : (": " : Str).length = 2 := by decide +kernel
  have e := Str.length_append ("Lump(" : Str) j
  have sz : sizeLine = 16777216 := rfl
  omega
theorem text3 {j w : Str} (h : j.length ≤ 1000) (hw : w.length ≤ 10) : (("Lump(" : Str) ++ j ++ (": " : Str)).length + w.length ≤ sizeLine := by
  have l : ("Lump(" : Str).length = 5 := by decide +kernel
  have l2 : (": " : Str).length = 2 := by decide +kernel
  have e := Str.length_append ("Lump(" : Str) j
  have e2 := Str.length_append (("Lump(" : Str) ++ j) (": " : Str)
  have sz : sizeLine = 16777216 := rfl
  omega
theorem app_assoc (a b c : Str) : (a ++ b) ++ c = a ++ (b ++ c) := by
  have e : ((a ++ b) ++ c).cps = (a ++ (b ++ c)).cps := by rw [Str.cps_append, Str.cps_append, Str.cps_append, Str.cps_append, Array.append_assoc]
  exact congrArg Str.mk e
theorem empty_app (a : Str) : Str.empty ++ a = a := PySem.W.KT.empty_app a
def lastW (w : Bool) : Str := match w with | true => ("open)" : Str) | false => ("closed)" : Str)
theorem text_eq (zs : List Str) (w : Bool) : lumpText zs w = (("Lump(" : Str) ++ Txt.join " " zs ++ (": " : Str)) ++ lastW w := by
  unfold lumpText
  rw [empty_app, app_assoc _ (": " : Str) (lastW w)]
  congr 1
  cases w <;> decide +kernel
theorem strs_ok (n : Nat) (xs : List Str) : dataOk (n + 2) (.lst (xs.map .str)) = true := by
  show (xs.map D.str).all (dataOk (n + 1)) = true
  rw [List.all_eq_true]
  intro d hd
  obtain ⟨z, _, rfl⟩ := List.mem_map.mp hd
  rfl
theorem found_ok {xs ys : List Str} {w : Bool} {i j : Int} {t : Str} : dataOk 4 (.lst [.lst (xs.map .str), .lst (ys.map .str), .bl w, .int i, .int j, .str t]) = true := by
  show (dataOk 3 (.lst (xs.map .str)) && (dataOk 3 (.lst (ys.map .str)) && true)) = true
  rw [strs_ok, strs_ok]
  rfl
theorem found_eq {xs ys : List Str} {lo w : Bool} {a : Int} (hw : wide ys lo = w) (hx : (xs.length : Int) = 1 + a) :
    D.lst [.lst (xs.map .str), .lst (ys.map .str), .bl (wide ys lo), .int (xs.length - (if (!wide ys lo) = true then 1 else 0)), .int ((xs ++ ys).length : Int), .str (lumpText (xs ++ ys) (wide ys lo))] =
    D.lst [.lst (xs.map .str), .lst (ys.map .str), .bl w, .int (1 + a - (if (!w) = true then 1 else 0)), .int (((xs ++ ys).map D.str).length : Int), .str ((("Lump(" : Str) ++ Txt.join " " (xs ++ ys) ++ (": " : Str)) ++ lastW w)] := by
  rw [hw, hx, text_eq, List.length_map]
theorem below_fz (n : Nat) (xs : List Str) (z : Str) : ((xs.map D.str).map B.fz ++ [B.fz (D.str z)]).all (belowB n) = true := by
  rw [List.all_append, Bool.and_eq_true]
  refine ⟨?_, rfl⟩
  rw [List.all_eq_true]
  intro b hb
  obtain ⟨d, _, rfl⟩ := List.mem_map.mp hb
  rfl
theorem shut4 {n : Nat} {Γ : Ev} {A C : List B} (hn : n = 4) (hΓ : Γ.all (belowO n) = true) (ha : A.all (belowB n) = true) (hb : C.all (belowB n) = true) : shut n Γ [.bag, .lst A, .lst C, .lst [.mt 1, .mt 2]] = true := by
  subst hn
  show (Γ.all (belowO 4) && (true && (A.all (belowB 4) && (C.all (belowB 4) && true)))) = true
  rw [hΓ, ha, hb]
  rfl
def E35 (d : D) (xs ys : List Str) (a : Int) (lo w : Bool) (o11 o12 o13 o14 : Option B) : Ev := [some (.fz .scr), some (.mt 0), some (.fz d), some (.fz (.lst ((xs ++ ys).map .str))), some (.fz (.int (1 + a))), some (.fz (.bl lo)), some (.fz (.lst (xs.map .str))), some (.fz (.lst (ys.map .str))), some (.mt 3), some (.fz (lumpD xs ys lo)), some (.fz (.bl w)), o11, o12, o13, o14]
abbrev S35 (A C : List B) : Sto := [.bag, .lst A, .lst C, .lst [.mt 1, .mt 2]]
def T35 (xs ys : List Str) (w : Bool) : Str := (("Lump(" : Str) ++ Txt.join " " (xs ++ ys) ++ (": " : Str)) ++ lastW w
section
variable {d : D} {xs ys : List Str} {lo w : Bool} {a : Int} {A C : List B} {P : EndsP} {o11 o12 o13 o14 : Option B}
theorem in0 (hw : wide ys lo = w) (hx : (xs.length : Int) = 1 + a) (hz8 : ∀ z ∈ xs ++ ys, z.length ≤ 8) (hn : (xs ++ ys).length ≤ 100)
    (h : ∀ o12 o13 S, S.take 4 = S35 A C → P.nx (E35 d xs ys a lo w (some (.fz (.str (T35 xs ys w)))) o12 o13 o14) S) : F_law_0 (E35 d xs ys a lo w (some (.fz (.str (T35 xs ys w)))) o12 o13 o14) (S35 A C) P := by
  have hyn : ys.length ≤ 100 := by rw [List.length_append] at hn; omega
  refine ⟨⟨rfl, rfl⟩, names_of (xs := xs) (ys := ys) (lo := lo) (asDs_map ?_)⟩
  refine ⟨⟨rfl, rfl⟩, pegs_of (xs := xs) (ys := ys) (lo := lo) (asDs_map ?_)⟩
  refine ⟨rfl, open_of (xs := xs) (ys := ys) (lo := lo) ?_⟩
  refine ⟨⟨rfl, rfl⟩, looks_of (xs := xs) (ys := ys) (lo := lo) ?_⟩
  refine ⟨rfl, len_of (xs := xs) (ys := ys) (lo := lo) hn ⟨⟨by omega, by omega⟩, ?_⟩⟩
  refine ⟨rfl, repr_of (xs := xs) (ys := ys) (lo := lo) hz8 hn ?_⟩
  refine ⟨(by decide : 6 ≤ sizeLine), (by decide : 6 ≤ sizeLine), ⟨?_, found_ok⟩, ?_⟩
  · exact found_eq (xs := xs) (ys := ys) (lo := lo) hw hx
  · refine ⟨⟨rfl, rfl⟩, names_of (xs := xs) (ys := ys) (lo := lo) (asDs_map ⟨trivial, ⟨rfl, rfl⟩, pegs_of (xs := xs) (ys := ys) (lo := lo) (asDs_map ⟨trivial, len_lt ys hyn, ?_⟩)⟩)⟩
    exact h _ _ _ rfl
theorem found2_ok {xs : List Str} {w : Bool} {i : Int} : dataOk 4 (.lst [.lst (xs.map .str), .lst [], .bl w, .int i]) = true := by
  show (dataOk 3 (.lst (xs.map .str)) && true) = true
  rw [strs_ok]
  rfl
theorem found2_eq {xs : List Str} {lo : Bool} {a : Int} (hx : (xs.length : Int) = 1 + a) :
    D.lst [.lst (xs.map .str), .lst (([] : List Str).map .str), .bl (wide [] (!lo)), .int (xs.length - (if (!wide [] (!lo)) = true then 1 else 0))] = D.lst [.lst (xs.map .str), .lst [], .bl (!lo), .int (1 + a - (if lo = true then 1 else 0))] := by
  rw [hx]
  cases lo <;> rfl
theorem late1 (hx : (xs.length : Int) = 1 + a) {S : Sto} (h : ∀ o14, P.nx (E35 d xs ys a lo w o11 o12 o13 o14) S) : F_law_1 (E35 d xs ys a lo w o11 o12 o13 o14) S P := by
  refine ⟨(by decide : 0 ≤ sizeLine), rfl, ⟨rfl, ⟨⟨rfl, Nat.le_of_ble_eq_true rfl⟩, ⟨⟨rfl, Nat.le_of_ble_eq_true rfl⟩, ⟨⟨rfl, Nat.le_of_ble_eq_true rfl⟩, ?_⟩⟩⟩⟩⟩
  refine ⟨⟨rfl, rfl⟩, names_of (xs := xs) (ys := []) (lo := !lo) (asDs_map ?_)⟩
  refine ⟨⟨rfl, rfl⟩, pegs_of (xs := xs) (ys := []) (lo := !lo) ?_⟩
  refine ⟨rfl, open_of (xs := xs) (ys := []) (lo := !lo) ?_⟩
  refine ⟨⟨rfl, rfl⟩, looks_of (xs := xs) (ys := []) (lo := !lo) ?_⟩
  refine ⟨(by decide : 4 ≤ sizeLine), (by decide : 0 ≤ sizeLine), (by decide : 4 ≤ sizeLine), ⟨found2_eq hx, found2_ok⟩, ?_⟩
  exact h _
theorem loop2 (hw : wide ys lo = w) (hx : (xs.length : Int) = 1 + a) (hz8 : ∀ z ∈ xs ++ ys, z.length ≤ 8) (hn : (xs ++ ys).length ≤ 100) (hA : A.all (belowB 4) = true) (hC : C.all (belowB 4) = true)
    (h : ∀ o14, P.nx (E35 d xs ys a lo w (some (.fz (.str (T35 xs ys w)))) none none o14) (S35 A C)) : F_law_2 (E35 d xs ys a lo w (some (.fz (.str (T35 xs ys w)))) o12 o13 none) (S35 A C) P := by
  refine ⟨⟨by decide, by decide⟩, forC_cut (Γ0 := E35 d xs ys a lo w (some (.fz (.str (T35 xs ys w)))) none none none) (S0 := S35 A C) (shut4 rfl rfl hA hC) ⟨rfl, rfl⟩ (fun d2 _ nx2 hn2 => ?_) ?_⟩
  · exact in0 hw hx hz8 hn fun o12 o13 S e => hn2 _ _ rfl e
  · exact late1 hx h
theorem tail3 (hw : wide ys lo = w) (hx : (xs.length : Int) = 1 + a) (hz8 : ∀ z ∈ xs ++ ys, z.length ≤ 8) (hn : (xs ++ ys).length ≤ 100)
    (h : ∀ o11 o12 o13 o14 S, S.take 1 = [.bag] → P.nx (E35 d xs ys a lo w o11 o12 o13 o14) S) : F_law_3 (E35 d xs ys a lo w o11 o12 o13 none) (S35 ((xs.map D.str).map B.fz) ((ys.map D.str).map B.fz)) P := by
  have hxn : xs.length ≤ 100 := by rw [List.length_append] at hn; omega
  have hyn : ys.length ≤ 100 := by rw [List.length_append] at hn; omega
  have hj : (Txt.join " " (xs ++ ys)).length ≤ 1000 := Nat.le_trans (join_len " " (xs ++ ys)) (small_join hz8 hn)
  refine ⟨trivial, len_lt xs hxn, trivial, len_lt ys hyn, trivial, asStrs_m ⟨Nat.le_trans (small_join hz8 hn) (by decide), text1 hj, text2 hj, ?_⟩⟩
  cases w with
  | true => exact ⟨text3 hj (by decide +kernel), loop2 hw hx hz8 hn (below_fz 4 xs _) (below_fz 4 ys _) fun o14 => h _ _ _ _ _ rfl⟩
  | false => exact ⟨text3 hj (by decide +kernel), loop2 hw hx hz8 hn (below_fz 4 xs _) (below_fz 4 ys _) fun o14 => h _ _ _ _ _ rfl⟩
theorem ne_nil_g {S : Sto} {R : RB} (h : ∀ y ∈ ys, okS y) (hk : R (.fz (.bl (!ys.isEmpty))) S) : gD2 (dEq true) (.fz (.lst (ys.map .str))) (.fz (.lst [])) S R := ne_nil_strs (k := fun d => R (.fz d) S) h hk
theorem turn4 {o3 o4 o5 o6 o7 o8 o9 o10 : Option B} (h : ∀ Γ S, EvWipe Γ [2, 3, 4, 5, 6, 7, 8, 9, 10, 11, 12, 13, 14] = [some (.fz .scr), some (.mt 0), none, none, none, none, none, none, none, none, none, none, none, none, none] → S.take 1 = [.bag] → P.nx Γ S) :
    F_law_4 [some (.fz .scr), some (.mt 0), some (.fz d), o3, o4, o5, o6, o7, o8, o9, o10, o11, o12, o13, none] [.bag] P := by
  refine ⟨rfl, trivial, rfl, ⟨by decide, by decide⟩, fun p p0 p1 => ⟨rfl, rfl, trivial, names_spec (by omega) (by omega) fun zs hl hz => ⟨rfl, ?_⟩⟩⟩
  refine ⟨rfl, trivial, rfl, ⟨by rw [List.length_map]; omega, by rw [List.length_map]; omega⟩, fun a a0 a1 => ⟨rfl, rfl, trivial, rfl, ⟨by decide, by decide⟩, fun l l0 l1 => ⟨rfl, ?_⟩⟩⟩
  rw [List.length_map] at a1
  obtain ⟨xs, ys, rfl, hx⟩ := two_ways zs a0 a1
  obtain ⟨e1, e2⟩ := cut_strs xs ys hx
  have hz8 : ∀ z ∈ xs ++ ys, z.length ≤ 8 := fun z h => (hz z h).1
  have hn : (xs ++ ys).length ≤ 100 := by omega
  have hyk : ∀ y ∈ ys, okS y := fun y h => (hz y (List.mem_append_right _ h)).2
  clear a0 a1
  refine ⟨(by decide : 2 ≤ sizeLine), ?_⟩
  rw [e1, e2]
  refine ⟨rfl, asDs_map ⟨⟨rfl, Nat.le_of_ble_eq_true rfl⟩, asDs_map ⟨⟨rfl, Nat.le_of_ble_eq_true rfl⟩, ⟨⟨rfl, Nat.le_of_ble_eq_true rfl⟩, rfl, ?_⟩⟩⟩⟩
  generalize (false != decide (l = 0)) = lo
  cases lo with
  | true => exact tail3 (w := true) rfl hx hz8 hn fun _ _ _ _ S e => h _ S rfl e
  | false =>
    refine ⟨(by decide : 0 ≤ sizeLine), ?_⟩
    refine asDs_map (ds := []) ?_
    refine ne_nil_g hyk ?_
    exact tail3 (lo := false) rfl hx hz8 hn fun _ _ _ _ S e => h _ S rfl e
end
theorem law_pure {R : RB} (hR : ∀ S, R (.fz (.bl true)) S) : W_law [.fz .scr] [] noX R := by
  refine ⟨rfl, ⟨by decide, by decide⟩, forC_cut (Γ0 := [some (.fz .scr), some (.mt 0), none, none, none, none, none, none, none, none, none, none, none, none, none]) (S0 := [.bag]) rfl ⟨rfl, rfl⟩ (fun d _ nx hn => ?_) ?_⟩
  · exact turn4 fun Γ S e1 e2 => hn Γ S e1 e2
  · exact hR _
end PL

namespace Lp
open PySem L2
def spLaw (K : PySem.W.Frag) : Sp := fun vs H Q _ => ∃ (a : Addr) (ns : List Int), vs = [.ref a] ∧ SqL K H a (ns.map V.int) ∧ ns.length ≤ 63 ∧ ∀ H', Q (.bl true) H'
end Lp
namespace PL
open PySem L2 Lp
theorem law_meets {P : Program} {w : World} {K : PySem.W.Frag} {mg : Str → Option Value} {base : Heap} {f : Addr} {fd : FuncData} (F : FnOk P w K mg base CX0 6 f fd ["_law_script"] (spP K W_law)) : FnOk P w K mg base CX0 6 f fd ["_law_script"] (spLaw K) :=
  F.imp fun vs H Q E ⟨a, ns, e, h1, h2, h3⟩ =>
    ⟨⟨H, H, fun _ => 0, 0⟩, [], ⟨fun _ => 0, H, H⟩, [.fz .scr], fun b _ => b = .fz (.bl true), rfl,
      ⟨.refl _, .refl _, .refl _, fun _ _ h => .inl h, fun _ h => absurd h (Nat.not_lt_zero _), Nat.le_refl _, fun k c h _ => (by cases h), fun i j ci cj h _ _ _ _ => (by cases h)⟩,
      by rw [e]; exact .cons (b := .fz .scr) (Den.scr h1 h2) .nil, law_pure fun _ => rfl, fun b S' w' v hb _ _ hd => by
        subst hb
        cases (show Den K w'.F (.bl true) v from hd)
        exact h3 _⟩
end PL
namespace Lp
open PySem L2 PL
theorem all_mk {l : PySem.W.OpenLaw} {w : World} {K : PySem.W.Frag} {h : Heap} {mg : Str → Option Value} {fa : Addr} (X : K.In h) (G : h.Ns mainGlobals mg) (hfa : mg "law" = some (.ref fa))
    {C_Lump q_Lump_is_open : Addr} {q_Lump_is_openR : List Value}
    {f1 : Addr} {od1 an1 : Option Addr} {sl1 : Array (Option Value)} {oc1 kV1 dc1 pm1 cd1 ct1 : Value}
    {f2 : Addr} {od2 an2 : Option Addr} {sl2 : Array (Option Value)} {oc2 kV2 dc2 pm2 cd2 ct2 : Value}
    {f3 : Addr} {od3 an3 : Option Addr} {sl3 : Array (Option Value)} {oc3 kV3 dc3 pm3 cd3 ct3 : Value}
    {f4 : Addr} {od4 an4 : Option Addr} {sl4 : Array (Option Value)} {oc4 kV4 dc4 pm4 cd4 ct4 : Value}
    {f5 : Addr} {od5 an5 : Option Addr} {sl5 : Array (Option Value)} {oc5 kV5 dc5 pm5 cd5 ct5 : Value}
    {f6 : Addr} {od6 an6 : Option Addr} {sl6 : Array (Option Value)} {oc6 kV6 dc6 pm6 cd6 ct6 : Value}
    {f7 : Addr} {od7 an7 : Option Addr} {sl7 : Array (Option Value)} {oc7 kV7 dc7 pm7 cd7 ct7 : Value}
    {f8 : Addr} {od8 an8 : Option Addr} {sl8 : Array (Option Value)} {oc8 kV8 dc8 pm8 cd8 ct8 : Value}
    {f9 : Addr} {od9 an9 : Option Addr} {sl9 : Array (Option Value)} {oc9 kV9 dc9 pm9 cd9 ct9 : Value}
    {f10 : Addr} {od10 an10 : Option Addr} {sl10 : Array (Option Value)} {oc10 kV10 dc10 pm10 cd10 ct10 : Value}
    {f11 : Addr} {od11 an11 : Option Addr} {sl11 : Array (Option Value)} {oc11 kV11 dc11 pm11 cd11 ct11 : Value}
    {f12 : Addr} {od12 an12 : Option Addr} {sl12 : Array (Option Value)} {oc12 kV12 dc12 pm12 cd12 ct12 : Value}
    {f13 : Addr} {od13 an13 : Option Addr} {sl13 : Array (Option Value)} {oc13 kV13 dc13 pm13 cd13 ct13 : Value}
    {f14 : Addr} {od14 an14 : Option Addr} {sl14 : Array (Option Value)} {oc14 kV14 dc14 pm14 cd14 ct14 : Value}
    (n_Lump : PySem.W.nsIn K mainGlobals "Lump" = some (some (.ref C_Lump)))
    (q_Lump_is_open1 : PySem.W.findIn K (.ref C_Lump) "is_open" = some (some (.ref q_Lump_is_open)))
    (q_Lump_is_open2 : PySem.W.specialIn K (.ref q_Lump_is_open) "__get__" = some (some (.builtin "property.__get__")))
    (q_Lump_is_open3 : PySem.W.takesIn K (.ref q_Lump_is_open) = some true)
    (q_Lump_is_open4 : PySem.W.recIn K q_Lump_is_open "property" = some (.ref f6 :: q_Lump_is_openR))
    (a1 : PySem.W.nsIn K mainGlobals "_law_bag" = some (some (.ref f1)))
    (l1 : K.lookup f1 = some ⟨oc1, od1, .func (PySem.W.fnOf "_law_bag" "_law_bag" (defArgs s__law_bag) (defBody s__law_bag) (defScope s__law_bag) .none kV1 dc1 pm1 an1 cd1 ct1), sl1⟩)
    (c1 : PySem.W.codeIn K cd1 "_law_bag" = true) (k1 : PySem.W.keepIn K (.ref f1) = true)
    (a2 : PySem.W.nsIn K mainGlobals "_law_pull" = some (some (.ref f2)))
    (l2 : K.lookup f2 = some ⟨oc2, od2, .func (PySem.W.fnOf "_law_pull" "_law_pull" (defArgs s__law_pull) (defBody s__law_pull) (defScope s__law_pull) .none kV2 dc2 pm2 an2 cd2 ct2), sl2⟩)
    (c2 : PySem.W.codeIn K cd2 "_law_pull" = true) (k2 : PySem.W.keepIn K (.ref f2) = true)
    (a3 : PySem.W.nsIn K mainGlobals "_law_pick" = some (some (.ref f3)))
    (l3 : K.lookup f3 = some ⟨oc3, od3, .func (PySem.W.fnOf "_law_pick" "_law_pick" (defArgs s__law_pick) (defBody s__law_pick) (defScope s__law_pick) .none kV3 dc3 pm3 an3 cd3 ct3), sl3⟩)
    (c3 : PySem.W.codeIn K cd3 "_law_pick" = true) (k3 : PySem.W.keepIn K (.ref f3) = true)
    (a4 : PySem.W.nsIn K mainGlobals "_law_names" = some (some (.ref f4)))
    (l4 : K.lookup f4 = some ⟨oc4, od4, .func (PySem.W.fnOf "_law_names" "_law_names" (defArgs s__law_names) (defBody s__law_names) (defScope s__law_names) .none kV4 dc4 pm4 an4 cd4 ct4), sl4⟩)
    (c4 : PySem.W.codeIn K cd4 "_law_names" = true) (k4 : PySem.W.keepIn K (.ref f4) = true)
    (a5 : PySem.W.findIn K (.ref C_Lump) "__init__" = some (some (.ref f5)))
    (i5 : PySem.W.isFn K (.ref f5) = true)
    (l5 : K.lookup f5 = some ⟨oc5, od5, .func (PySem.W.fnOf "__init__" "Lump.__init__" (defArgs s_Lump_init) (defBody s_Lump_init) (defScope s_Lump_init) .none kV5 dc5 pm5 an5 cd5 ct5), sl5⟩)
    (c5 : PySem.W.codeIn K cd5 "Lump.__init__" = true) (k5 : PySem.W.keepIn K (.ref f5) = true)
    (l6 : K.lookup f6 = some ⟨oc6, od6, .func (PySem.W.fnOf "is_open" "Lump.is_open" (defArgs s_Lump_is_open) (defBody s_Lump_is_open) (defScope s_Lump_is_open) .none kV6 dc6 pm6 an6 cd6 ct6), sl6⟩)
    (c6 : PySem.W.codeIn K cd6 "Lump.is_open" = true) (k6 : PySem.W.keepIn K (.ref f6) = true)
    (a7 : PySem.W.findIn K (.ref C_Lump) "_words" = some (some (.ref f7)))
    (i7 : PySem.W.isFn K (.ref f7) = true)
    (l7 : K.lookup f7 = some ⟨oc7, od7, .func (PySem.W.fnOf "_words" "Lump._words" (defArgs s_Lump__words) (defBody s_Lump__words) (defScope s_Lump__words) .none kV7 dc7 pm7 an7 cd7 ct7), sl7⟩)
    (c7 : PySem.W.codeIn K cd7 "Lump._words" = true) (k7 : PySem.W.keepIn K (.ref f7) = true)
    (a8 : PySem.W.findIn K (.ref C_Lump) "__repr__" = some (some (.ref f8)))
    (i8 : PySem.W.isFn K (.ref f8) = true)
    (l8 : K.lookup f8 = some ⟨oc8, od8, .func (PySem.W.fnOf "__repr__" "Lump.__repr__" (defArgs s_Lump_repr) (defBody s_Lump_repr) (defScope s_Lump_repr) .none kV8 dc8 pm8 an8 cd8 ct8), sl8⟩)
    (c8 : PySem.W.codeIn K cd8 "Lump.__repr__" = true) (k8 : PySem.W.keepIn K (.ref f8) = true)
    (a9 : PySem.W.findIn K (.ref C_Lump) "__len__" = some (some (.ref f9)))
    (i9 : PySem.W.isFn K (.ref f9) = true)
    (l9 : K.lookup f9 = some ⟨oc9, od9, .func (PySem.W.fnOf "__len__" "Lump.__len__" (defArgs s_Lump_len) (defBody s_Lump_len) (defScope s_Lump_len) .none kV9 dc9 pm9 an9 cd9 ct9), sl9⟩)
    (c9 : PySem.W.codeIn K cd9 "Lump.__len__" = true) (k9 : PySem.W.keepIn K (.ref f9) = true)
    (a10 : PySem.W.findIn K (.ref C_Lump) "looks" = some (some (.ref f10)))
    (i10 : PySem.W.isFn K (.ref f10) = true)
    (l10 : K.lookup f10 = some ⟨oc10, od10, .func (PySem.W.fnOf "looks" "Lump.looks" (defArgs s_Lump_looks) (defBody s_Lump_looks) (defScope s_Lump_looks) .none kV10 dc10 pm10 an10 cd10 ct10), sl10⟩)
    (c10 : PySem.W.codeIn K cd10 "Lump.looks" = true) (k10 : PySem.W.keepIn K (.ref f10) = true)
    (a11 : PySem.W.findIn K (.ref C_Lump) "pegs" = some (some (.ref f11)))
    (i11 : PySem.W.isFn K (.ref f11) = true)
    (l11 : K.lookup f11 = some ⟨oc11, od11, .func (PySem.W.fnOf "pegs" "Lump.pegs" (defArgs s_Lump_pegs) (defBody s_Lump_pegs) (defScope s_Lump_pegs) .none kV11 dc11 pm11 an11 cd11 ct11), sl11⟩)
    (c11 : PySem.W.codeIn K cd11 "Lump.pegs" = true) (k11 : PySem.W.keepIn K (.ref f11) = true)
    (a12 : PySem.W.findIn K (.ref C_Lump) "names" = some (some (.ref f12)))
    (i12 : PySem.W.isFn K (.ref f12) = true)
    (l12 : K.lookup f12 = some ⟨oc12, od12, .func (PySem.W.fnOf "names" "Lump.names" (defArgs s_Lump_names) (defBody s_Lump_names) (defScope s_Lump_names) .none kV12 dc12 pm12 an12 cd12 ct12), sl12⟩)
    (c12 : PySem.W.codeIn K cd12 "Lump.names" = true) (k12 : PySem.W.keepIn K (.ref f12) = true)
    (a13 : PySem.W.nsIn K mainGlobals "_law_same" = some (some (.ref f13)))
    (l13 : K.lookup f13 = some ⟨oc13, od13, .func (PySem.W.fnOf "_law_same" "_law_same" (defArgs s__law_same) (defBody s__law_same) (defScope s__law_same) .none kV13 dc13 pm13 an13 cd13 ct13), sl13⟩)
    (c13 : PySem.W.codeIn K cd13 "_law_same" = true) (k13 : PySem.W.keepIn K (.ref f13) = true)
    (a14 : PySem.W.nsIn K mainGlobals "law" = some (some (.ref f14)))
    (l14 : K.lookup f14 = some ⟨oc14, od14, .func (PySem.W.fnOf "law" "law" (defArgs s_law) (defBody s_law) (defScope s_law) .none kV14 dc14 pm14 an14 cd14 ct14), sl14⟩)
    (c14 : PySem.W.codeIn K cd14 "law" = true) (k14 : PySem.W.keepIn K (.ref f14) = true)
    (z_all : PySem.W.nsIn K mainGlobals "all" = some none)
    (z_bool : PySem.W.nsIn K mainGlobals "bool" = some none)
    (z_int : PySem.W.nsIn K mainGlobals "int" = some none)
    (z_isinstance : PySem.W.nsIn K mainGlobals "isinstance" = some none)
    (z_len : PySem.W.nsIn K mainGlobals "len" = some none)
    (z_list : PySem.W.nsIn K mainGlobals "list" = some none)
    (z_range : PySem.W.nsIn K mainGlobals "range" = some none)
    (z_repr : PySem.W.nsIn K mainGlobals "repr" = some none)
    (z_str : PySem.W.nsIn K mainGlobals "str" = some none)
    (z_tuple : PySem.W.nsIn K mainGlobals "tuple" = some none)
    (z_zip : PySem.W.nsIn K mainGlobals "zip" = some none)
    (kM_Lump : PySem.W.makesIn K C_Lump = true)
    (kC_Lump : PySem.W.keepIn K (.ref C_Lump) = true)
    (c1_Lump : PySem.W.plainGet K C_Lump Str.empty = true)
    (c2_Lump : PySem.W.hasDictIn K C_Lump = true)
    (c3_Lump : PySem.W.plainOver K C_Lump = true)
    (c4_Lump : PySem.W.findIn K (.ref C_Lump) "__setattr__" = some (some (.builtin "object.__setattr__")))
    (a_Lump__is_loose : PySem.W.findIn K (.ref C_Lump) "_is_loose" = some none)
    (a_Lump__names : PySem.W.findIn K (.ref C_Lump) "_names" = some none)
    (a_Lump__pegs : PySem.W.findIn K (.ref C_Lump) "_pegs" = some none) :
    ∃ fd : FuncData, (∀ (s : Shared) (v : Value), BindsTo s fd ⟨[v], []⟩ [("_law_script", v)]) ∧ ∀ base : Heap, K.In base → base.Ns mainGlobals mg → FnOk l.prog w K mg base CX0 6 fa fd ["_law_script"] (spLaw K) := by
  have e := hfa.symm.trans (PySem.W.mg_of X G a14)
  cases e
  have F1 := fun_mk (st := s__law_bag) l1 c1 k1
  have b1 := F1.binds (ps := ["_law_script"]) fun _ _ _ _ _ _ us hl => match us, hl with | [_], _ => rfl
  have F2 := fun_mk (st := s__law_pull) l2 c2 k2
  have b2 := F2.binds (ps := ["_law_bag_here", "_law_many"]) fun _ _ _ _ _ _ us hl => match us, hl with | [_, _], _ => rfl
  have F3 := fun_mk (st := s__law_pick) l3 c3 k3
  have b3 := F3.binds (ps := ["_law_bag_here", "_law_rows"]) fun _ _ _ _ _ _ us hl => match us, hl with | [_, _], _ => rfl
  have F4 := fun_mk (st := s__law_names) l4 c4 k4
  have b4 := F4.binds (ps := ["_law_bag_here", "_law_many"]) fun _ _ _ _ _ _ us hl => match us, hl with | [_, _], _ => rfl
  have F5 := fun_mk (st := s_Lump_init) l5 c5 k5
  have b5 := F5.binds (ps := ["self", "names", "pegs", "is_loose"]) fun _ _ _ _ _ _ us hl => match us, hl with | [_, _, _, _], _ => rfl
  have F6 := fun_mk (st := s_Lump_is_open) l6 c6 k6
  have b6 := F6.binds (ps := ["self"]) fun _ _ _ _ _ _ us hl => match us, hl with | [_], _ => rfl
  have F7 := fun_mk (st := s_Lump__words) l7 c7 k7
  have b7 := F7.binds (ps := ["self"]) fun _ _ _ _ _ _ us hl => match us, hl with | [_], _ => rfl
  have F8 := fun_mk (st := s_Lump_repr) l8 c8 k8
  have b8 := F8.binds (ps := ["self"]) fun _ _ _ _ _ _ us hl => match us, hl with | [_], _ => rfl
  have F9 := fun_mk (st := s_Lump_len) l9 c9 k9
  have b9 := F9.binds (ps := ["self"]) fun _ _ _ _ _ _ us hl => match us, hl with | [_], _ => rfl
  have F10 := fun_mk (st := s_Lump_looks) l10 c10 k10
  have b10 := F10.binds (ps := ["self"]) fun _ _ _ _ _ _ us hl => match us, hl with | [_], _ => rfl
  have F11 := fun_mk (st := s_Lump_pegs) l11 c11 k11
  have b11 := F11.binds (ps := ["self"]) fun _ _ _ _ _ _ us hl => match us, hl with | [_], _ => rfl
  have F12 := fun_mk (st := s_Lump_names) l12 c12 k12
  have b12 := F12.binds (ps := ["self"]) fun _ _ _ _ _ _ us hl => match us, hl with | [_], _ => rfl
  have F13 := fun_mk (st := s__law_same) l13 c13 k13
  have b13 := F13.binds (ps := ["_law_found", "_law_due"]) fun _ _ _ _ _ _ us hl => match us, hl with | [_, _], _ => rfl
  have F14 := fun_mk (st := s_law) l14 c14 k14
  have b14 := F14.binds (ps := ["_law_script"]) fun _ _ _ _ _ _ us hl => match us, hl with | [_], _ => rfl
  have T : PL.Fx l.prog K mg {
      f__law_bag := f1,
      d__law_bag := PySem.W.fnOf "_law_bag" "_law_bag" (defArgs s__law_bag) (defBody s__law_bag) (defScope s__law_bag) .none kV1 dc1 pm1 an1 cd1 ct1,
      f__law_pull := f2,
      d__law_pull := PySem.W.fnOf "_law_pull" "_law_pull" (defArgs s__law_pull) (defBody s__law_pull) (defScope s__law_pull) .none kV2 dc2 pm2 an2 cd2 ct2,
      f__law_pick := f3,
      d__law_pick := PySem.W.fnOf "_law_pick" "_law_pick" (defArgs s__law_pick) (defBody s__law_pick) (defScope s__law_pick) .none kV3 dc3 pm3 an3 cd3 ct3,
      f__law_names := f4,
      d__law_names := PySem.W.fnOf "_law_names" "_law_names" (defArgs s__law_names) (defBody s__law_names) (defScope s__law_names) .none kV4 dc4 pm4 an4 cd4 ct4,
      f_Lump_init := f5,
      d_Lump_init := PySem.W.fnOf "__init__" "Lump.__init__" (defArgs s_Lump_init) (defBody s_Lump_init) (defScope s_Lump_init) .none kV5 dc5 pm5 an5 cd5 ct5,
      f_Lump_is_open := f6,
      d_Lump_is_open := PySem.W.fnOf "is_open" "Lump.is_open" (defArgs s_Lump_is_open) (defBody s_Lump_is_open) (defScope s_Lump_is_open) .none kV6 dc6 pm6 an6 cd6 ct6,
      q_Lump_is_open := q_Lump_is_open,
      f_Lump__words := f7,
      d_Lump__words := PySem.W.fnOf "_words" "Lump._words" (defArgs s_Lump__words) (defBody s_Lump__words) (defScope s_Lump__words) .none kV7 dc7 pm7 an7 cd7 ct7,
      f_Lump_repr := f8,
      d_Lump_repr := PySem.W.fnOf "__repr__" "Lump.__repr__" (defArgs s_Lump_repr) (defBody s_Lump_repr) (defScope s_Lump_repr) .none kV8 dc8 pm8 an8 cd8 ct8,
      f_Lump_len := f9,
      d_Lump_len := PySem.W.fnOf "__len__" "Lump.__len__" (defArgs s_Lump_len) (defBody s_Lump_len) (defScope s_Lump_len) .none kV9 dc9 pm9 an9 cd9 ct9,
      f_Lump_looks := f10,
      d_Lump_looks := PySem.W.fnOf "looks" "Lump.looks" (defArgs s_Lump_looks) (defBody s_Lump_looks) (defScope s_Lump_looks) .none kV10 dc10 pm10 an10 cd10 ct10,
      f_Lump_pegs := f11,
      d_Lump_pegs := PySem.W.fnOf "pegs" "Lump.pegs" (defArgs s_Lump_pegs) (defBody s_Lump_pegs) (defScope s_Lump_pegs) .none kV11 dc11 pm11 an11 cd11 ct11,
      f_Lump_names := f12,
      d_Lump_names := PySem.W.fnOf "names" "Lump.names" (defArgs s_Lump_names) (defBody s_Lump_names) (defScope s_Lump_names) .none kV12 dc12 pm12 an12 cd12 ct12,
      f__law_same := f13,
      d__law_same := PySem.W.fnOf "_law_same" "_law_same" (defArgs s__law_same) (defBody s__law_same) (defScope s__law_same) .none kV13 dc13 pm13 an13 cd13 ct13,
      f_law := fa,
      d_law := PySem.W.fnOf "law" "law" (defArgs s_law) (defBody s_law) (defScope s_law) .none kV14 dc14 pm14 an14 cd14 ct14,
      C_Lump := C_Lump,
      g_Lump_init_is_loose_pegs_names := fun us ws => us ++ PL.permA [2, 1, 0] ws } := {
      F__law_bag := F1,
      b__law_bag := b1,
      m__law_bag := PySem.W.mg_of X G a1,
      F__law_pull := F2,
      b__law_pull := b2,
      m__law_pull := PySem.W.mg_of X G a2,
      F__law_pick := F3,
      b__law_pick := b3,
      m__law_pick := PySem.W.mg_of X G a3,
      F__law_names := F4,
      b__law_names := b4,
      m__law_names := PySem.W.mg_of X G a4,
      F_Lump_init := F5,
      b_Lump_init := b5,
      F_Lump_is_open := F6,
      b_Lump_is_open := b6,
      p_Lump_is_open := ⟨q_Lump_is_open1, q_Lump_is_open2, q_Lump_is_open3, _, q_Lump_is_open4⟩,
      F_Lump__words := F7,
      b_Lump__words := b7,
      F_Lump_repr := F8,
      b_Lump_repr := b8,
      F_Lump_len := F9,
      b_Lump_len := b9,
      F_Lump_looks := F10,
      b_Lump_looks := b10,
      F_Lump_pegs := F11,
      b_Lump_pegs := b11,
      F_Lump_names := F12,
      b_Lump_names := b12,
      F__law_same := F13,
      b__law_same := b13,
      m__law_same := PySem.W.mg_of X G a13,
      F_law := F14,
      b_law := b14,
      m_law := PySem.W.mg_of X G a14,
      n_Lump := PL.clsAt_of n_Lump,
      m_Lump := PySem.W.mg_of X G n_Lump,
      c_Lump := ⟨c1_Lump, c2_Lump, c3_Lump, c4_Lump⟩,
      k_Lump := ⟨kM_Lump, a5, i5, kC_Lump⟩,
      a_Lump__is_loose := a_Lump__is_loose,
      a_Lump__names := a_Lump__names,
      a_Lump__pegs := a_Lump__pegs,
      M_Lump__words := ⟨a7, i7, k7⟩,
      M_Lump_looks := ⟨a10, i10, k10⟩,
      M_Lump_names := ⟨a12, i12, k12⟩,
      M_Lump_pegs := ⟨a11, i11, k11⟩,
      h_Lump_len := a9,
      hf_Lump_len := i9,
      h_Lump_repr := a8,
      hf_Lump_repr := i8,
      kb_Lump_init_is_loose_pegs_names := ⟨fun s us ws _ h1 h2 => match us, ws, h1, h2 with | [_], [_, _, _], _, _ => .of_eq rfl, fun r1 r2 => r1.append (PL.vals_perm [2, 1, 0] r2)⟩,
      z_all := PySem.W.mg_none_of X G z_all,
      z_bool := PySem.W.mg_none_of X G z_bool,
      z_int := PySem.W.mg_none_of X G z_int,
      z_isinstance := PySem.W.mg_none_of X G z_isinstance,
      z_len := PySem.W.mg_none_of X G z_len,
      z_list := PySem.W.mg_none_of X G z_list,
      z_range := PySem.W.mg_none_of X G z_range,
      z_repr := PySem.W.mg_none_of X G z_repr,
      z_str := PySem.W.mg_none_of X G z_str,
      z_tuple := PySem.W.mg_none_of X G z_tuple,
      z_zip := PySem.W.mg_none_of X G z_zip }
  refine ⟨PySem.W.fnOf "law" "law" (defArgs s_law) (defBody s_law) (defScope s_law) .none kV14 dc14 pm14 an14 cd14 ct14, fun s v => .of_eq rfl, fun base _ _ => ?_⟩
  exact PL.law_meets (PL.ok_law T)

end Lp

open PySem PySem.W PyProof.Rows
set_option maxRecDepth 100000 in
set_option maxHeartbeats 0 in
theorem PySem.Challenge.cw_lumplooks_k35_lumps_told_holds : PySem.Challenge.rw_lumplooks_k35_lumps_told.Holds := by
  w_on; o_law; k_head; (case hw => w_witness2)
  k_fill
  refine L2.walk_of (l := PySem.Challenge.rw_lumplooks_k35_lumps_told) (n := 63) (k := 6) (x := "_law_script") (CX := fun _ => L2.CX0) (sp := fun w => Lp.spLaw _) rfl (by decide) rfl ⟨rfl, by decide, by decide⟩ (fun w h Y => PySem.W.kIn_of Y) ?F (fun _ _ a ns hl _ hS => ⟨a, ns, rfl, hS, hl, fun _ => rfl⟩) (fun _ _ _ _ _ h => h)
  case F =>
    intro w mg fa h KX G hmg
    refine' Lp.all_mk KX G hmg ?n_Lump ?q_Lump_is_open1 ?q_Lump_is_open2 ?q_Lump_is_open3 ?q_Lump_is_open4 ?a1 ?l1 ?c1 ?k1 ?a2 ?l2 ?c2 ?k2 ?a3 ?l3 ?c3 ?k3 ?a4 ?l4 ?c4 ?k4 ?a5 ?i5 ?l5 ?c5 ?k5 ?l6 ?c6 ?k6 ?a7 ?i7 ?l7 ?c7 ?k7 ?a8 ?i8 ?l8 ?c8 ?k8 ?a9 ?i9 ?l9 ?c9 ?k9 ?a10 ?i10 ?l10 ?c10 ?k10 ?a11 ?i11 ?l11 ?c11 ?k11 ?a12 ?i12 ?l12 ?c12 ?k12 ?a13 ?l13 ?c13 ?k13 ?a14 ?l14 ?c14 ?k14 ?z_all ?z_bool ?z_int ?z_isinstance ?z_len ?z_list ?z_range ?z_repr ?z_str ?z_tuple ?z_zip ?kM_Lump ?kC_Lump ?c1_Lump ?c2_Lump ?c3_Lump ?c4_Lump ?a_Lump__is_loose ?a_Lump__names ?a_Lump__pegs
    (case n_Lump => k_is)
    (case q_Lump_is_open1 => k_is)
    (case q_Lump_is_open2 => k_is)
    (case q_Lump_is_open3 => k_is)
    (case q_Lump_is_open4 => k_is)
    (case a1 => k_is)
    (case l1 => k_is)
    (case c1 => k_is)
    (case k1 => k_is)
    (case a2 => k_is)
    (case l2 => k_is)
    (case c2 => k_is)
    (case k2 => k_is)
    (case a3 => k_is)
    (case l3 => k_is)
    (case c3 => k_is)
    (case k3 => k_is)
    (case a4 => k_is)
    (case l4 => k_is)
    (case c4 => k_is)
    (case k4 => k_is)
    (case a5 => k_is)
    (case i5 => k_is)
    (case l5 => k_is)
    (case c5 => k_is)
    (case k5 => k_is)
    (case l6 => k_is)
    (case c6 => k_is)
    (case k6 => k_is)
    (case a7 => k_is)
    (case i7 => k_is)
    (case l7 => k_is)
    (case c7 => k_is)
    (case k7 => k_is)
    (case a8 => k_is)
    (case i8 => k_is)
    (case l8 => k_is)
    (case c8 => k_is)
    (case k8 => k_is)
    (case a9 => k_is)
    (case i9 => k_is)
    (case l9 => k_is)
    (case c9 => k_is)
    (case k9 => k_is)
    (case a10 => k_is)
    (case i10 => k_is)
    (case l10 => k_is)
    (case c10 => k_is)
    (case k10 => k_is)
    (case a11 => k_is)
    (case i11 => k_is)
    (case l11 => k_is)
    (case c11 => k_is)
    (case k11 => k_is)
    (case a12 => k_is)
    (case i12 => k_is)
    (case l12 => k_is)
    (case c12 => k_is)
    (case k12 => k_is)
    (case a13 => k_is)
    (case l13 => k_is)
    (case c13 => k_is)
    (case k13 => k_is)
    (case a14 => k_is)
    (case l14 => k_is)
    (case c14 => k_is)
    (case k14 => k_is)
    (case z_all => k_is)
    (case z_bool => k_is)
    (case z_int => k_is)
    (case z_isinstance => k_is)
    (case z_len => k_is)
    (case z_list => k_is)
    (case z_range => k_is)
    (case z_repr => k_is)
    (case z_str => k_is)
    (case z_tuple => k_is)
    (case z_zip => k_is)
    (case kM_Lump => k_is)
    (case kC_Lump => k_is)
    (case c1_Lump => k_is)
    (case c2_Lump => k_is)
    (case c3_Lump => k_is)
    (case c4_Lump => k_is)
    (case a_Lump__is_loose => k_is)
    (case a_Lump__names => k_is)
    (case a_Lump__pegs => k_is)
