import PyProof.Rows.All
import Wide.All
import OpenK.AllK
import Wide.FinOn
import HandS.ForMost
import HandS.Wide
import HandS.IsInst
import HandS.Codes
import HandS.Zip
import HandS.StrMore
import HandS.Defaults
import HandS.Style
import HandS.Walk
import KE.GoesMore
import HandS.Star
import HandS.SlotsOwn
import HandS.Property
import HandS.OwnEq
import HandS.SortRule
import HandS.Flow
import HandS.Small
import HandS.More
import HandS.ExcField
import HandS.ExcInit
import HandS.ExcIs
import HandS.ExcOwn
import KE.KExcInit
import KE.KExcIs
import KE.KExcLine

import PySem.Challenge.RW_lumplooks_k01_errors_by_themselves
set_option Elab.async false
set_option maxRecDepth 100000
set_option linter.all false
set_option maxHeartbeats 4000000
namespace Lp
open PySem L2
def topS (i : Nat) : Stmt := PySem.Challenge.pw_lumplooks_k01_errors_by_themselves.main.body.getD i (.Pass ⟨0, 0, 0, 0⟩)
def clsB (s : Stmt) : List Stmt := match s with
  | .ClassDef _ _ _ b _ _ _ _ _ _ _ => b
  | _ => []
def iS (i : Nat) : Stmt := (clsB (topS i)).getD 0 (.Pass ⟨0, 0, 0, 0⟩)
abbrev sBag : Stmt := topS 23
abbrev sPull : Stmt := topS 24
abbrev sPick : Stmt := topS 25
abbrev sSame : Stmt := topS 26
abbrev sField : Stmt := topS 27
abbrev sNamed : Stmt := topS 28
abbrev sBare : Stmt := topS 29
abbrev sClasses : Stmt := topS 30
abbrev sLaw : Stmt := topS 31
abbrev sX1 : Stmt := iS 2
abbrev sX2 : Stmt := iS 3
abbrev sX3 : Stmt := iS 4
abbrev sX4 : Stmt := iS 5
abbrev sX5 : Stmt := iS 6
abbrev sX6 : Stmt := iS 7
abbrev sX7 : Stmt := iS 8
abbrev sX8 : Stmt := iS 9
abbrev sX9 : Stmt := iS 10
abbrev sX10 : Stmt := iS 11
abbrev sX11 : Stmt := iS 12
abbrev sX12 : Stmt := iS 13
abbrev sX13 : Stmt := iS 14
abbrev sX14 : Stmt := iS 15
abbrev sX15 : Stmt := iS 16
abbrev sX16 : Stmt := iS 17
abbrev sX17 : Stmt := iS 18
abbrev sX18 : Stmt := iS 20
abbrev sX19 : Stmt := iS 21

/-! ### exceptions of own classes as values (toward k01, k03, k05, k06, k10, k11): C(e, ..) with an own __init__, over any built-in base -/
namespace Ex
open PySem PySem.Spec PyProof.Rows L2
/-- what the written part says of the class; B: its built-in base -/
structure OexG (K : PySem.W.Frag) (C : Addr) (B newId initId : String) (bmB : List Value) : Prop where
  base : ExcBaseFacts B newId initId bmB
  cls : ∃ nm q N bs bm sn sub ab col dd k0 k1 k2 k3 k5, K.lookup C = some (excClassObj nm q C N bs bm true sn sub ab col dd k0 k1 k2 k3 k5 newId) ∧ ∀ Y : String, bm.contains (.type Y) = bmB.contains (.type Y)
  kC : PySem.W.keepIn K (.ref C) = true
section
variable {X : Cx} {CX : CXT} {k : Nat} {C fI : Addr} {B newId initId : String} {bmB : List Value} {sp : Sp} {E : XK} {x : Str} {p pos : Pos} {e : Expr} {es : List Expr} {t : TA}
def tOex (C : Addr) (sp : Sp) (E : XK) (t : TA) : TE := fun σ H Q => t σ H fun vs H1 => vs.length ≤ 1000 ∧ ∀ a, H1 a = none → sp (.ref a :: vs) (upd H1 a (exo a C none)) (fun v H2 => v = .non ∧ Q (.ref a) H2) E
theorem pe_oex (T : OexG X.K C B newId initId bmB) (iC : PySem.W.findIn X.K (.ref C) "__init__" = some (some (.ref fI))) (tI : PySem.W.typeIn X.K (.ref fI) = some (.type "function")) (F : FnR X.prog X.w X.K X.mg X.base CX k fI sp) (hr : Room (k + 1) X.A)
    (hx : Passes CX X E) (hg : Gl X x) (hm : X.mg x = some (.ref C)) (ha : PA X (e :: es) t) (hdb : (x == ("__debug__" : Str)) = false := by decide) (he : starEach (e :: es) X.env = (false, eval e X.env) :: starEach es X.env := by rfl)
    (hpl : (backTo pos (starEach es X.env)).any (·.1) = false := by rfl) : PE X (.Call (.Name x p) (e :: es) [] pos) (tOex C sp E t) := by
  refine ⟨fun pins s σ H Q I h => ?_⟩
  obtain ⟨nm, q, N, bs, bm, sn, sub, ab, col, dd, k0, k1, k2, k3, k5, hC, hT⟩ := T.cls
  refine wpAny_Call_Name_kw (ld_glob I hg hm ?_ hdb)
  refine PySem.W.callWith_K (h₀ := X.base) I.ok.mod.kin T.kC (thn (ha.run pos pins s σ H _ I h) fun us s1 ⟨vs, H1, I1, r1, hz, q1⟩ => ⟨I1.kIn, ?_⟩) he hpl
  show wpAny _ _ (call (.ref C) us) _ _ _
  obtain ⟨hp, g, dr, tk, os⟩ := s1
  have up : hp.objs.size ≤ hp.objs.size + 1 := Nat.le_succ _
  have hq := q1 (hp.objs.size + 1) (I1.hok.fresh up)
  have old : ∀ b o, hp.get? b = some o → ((hp.push (PySem.W.kdv_tup us)).push (PySem.HandSPX.excO C hp.objs.size)).get? b = some o := fun b o e => Heap.get?_push_of_some _ (Heap.get?_push_of_some _ e)
  have at_ : ((hp.push (PySem.W.kdv_tup us)).push (PySem.HandSPX.excO C hp.objs.size)).get? (hp.objs.size + 1) = some (PySem.HandSPX.excO C hp.objs.size) := by heap_get
  have I2 : Inv X pins σ (upd H1 (hp.objs.size + 1) (exo (hp.objs.size + 1) C none)) ⟨(hp.push (PySem.W.kdv_tup us)).push (PySem.HandSPX.excO C hp.objs.size), g, dr, tk, os⟩ :=
    I1.laid (t' := tk) (a := hp.objs.size + 1) (o := exo (hp.objs.size + 1) C none) (h' := (hp.push (PySem.W.kdv_tup us)).push (PySem.HandSPX.excO C hp.objs.size)) old up (exo_ok at_)
  have lus : us.length ≤ sizeLine := by
    rw [← Paired.length r1, sizeLine_eq]
    omega
  refine wpAny_call (PySem.HandSPX.call_own T.base hT (I1.kIn _ _ hC) (PySem.W.looks_findIn I1.kIn iC) (fun self => PySem.W.bind_fn I1.kIn self tI) lus
    (codeAny_mono (F _ X.stack _ _ (Value.ref (hp.objs.size + 1) :: us) (V.ref (hp.objs.size + 1) :: vs) _ E (hr.make C us []) (I2.env0.make C us []) (.cons rfl r1) hq) fun r s' z => ?_))
  cases r with
  | error er => exact hx pins σ _ _ er s' I2 z
  | ok fl =>
    cases fl with
    | ret u =>
      obtain ⟨v, H2, I3, rv, ev, q2⟩ := I2.after z
      subst ev
      exact ⟨rv, .ref (hp.objs.size + 1), H2, I3, rfl, q2⟩
    | next => exact False.elim z
    | brk => exact False.elim z
    | cont => exact False.elim z
end
section
variable {X : Cx} {e : Expr} {te : TE} {f : Str} {pos : Pos}
/-- e.f of such an exception -/
def tExf (K : PySem.W.Frag) (f : Str) (te : TE) : TE := fun σ H Q => te σ H fun x H1 => ∃ (a C d : Addr) (fs : List (Str × V)) (v : V), x = .ref a ∧ H1 a = some (exo a C (some d)) ∧ H1 d = some (exd d fs) ∧ XfC K C ∧ PySem.W.findIn K (.ref C) f = some none ∧ fs.lookup f = some v ∧ Q v H1
theorem exo_inst {pins : List (Addr × Obj)} {σ : L2.St} {H : Hp} {s : Shared} {a C d : Addr} {fs : List (Str × V)} (I : Inv X pins σ H s) (ha : H a = some (exo a C (some d))) (hd : H d = some (exd d fs)) :
    ∃ (oe od : Obj) (mA : Str → Option Value), PySem.W.InstAt s.heap a oe C (some od) ∧ (∀ n, PySem.W.lookIn n od = some (mA n)) ∧ ∀ n, RelO (fs.lookup n) (mA n) := by
  obtain ⟨⟨t1, h1⟩, _⟩ := (show ObjOk X.prog X.w H s.heap a (exo a C (some d)) from I.hok a _ ha)
  obtain ⟨⟨mA, hns, hr⟩, _⟩ := (show ObjOk X.prog X.w H s.heap d (exd d fs) from I.hok d _ hd)
  obtain ⟨od, ho, hl⟩ := lookIn_ns hns
  exact ⟨_, od, mA, ⟨h1, rfl, rfl, ho⟩, hl, hr⟩
theorem pe_exf (he : PE X e te) (hb : attributeBase e f X.env (eval e X.env) = eval e X.env := by rfl) : PE X (.Attribute e f pos) (tExf X.K f te) := by
  refine ⟨fun pins s σ H Q I h => ?_⟩
  refine attr_of hb (thn (he.run pins s σ H _ I h) fun u s1 ⟨x, H1, I1, rx, a, C, d, fs, v, ex, ha, hd, T, hno, l, q⟩ => ?_)
  subst ex
  obtain rfl : u = Value.ref a := rx
  obtain ⟨oe, od, mA, J, hl, hr⟩ := exo_inst I1 ha hd
  obtain ⟨w1, hu, ru⟩ := RelO.some_of (v := v) (o := mA f) (by rw [← l]; exact hr f)
  exact HandSPX.exc_get I1.kIn J T.ga T.gg T.exC (PySem.W.findObj_own T.hdC hno rfl (by rw [hl, hu])) (handed_of ru) ⟨v, H1, I1.tok _, ru, q⟩
/-- isinstance(e, c) of such an exception -/
def rIsX (K : PySem.W.Frag) : List V → Hp → VK → Prop := fun xs H Q => ∃ (a D d : Addr) (fs : List (Str × V)) (c : V) (u : Value) (b : Bool), xs = [.ref a, c] ∧ H a = some (exo a D (some d)) ∧ H d = some (exd d fs) ∧ ExcC K D ∧ (PySem.W.clsIn K D).isSome = true ∧ ClsV c u ∧ PySem.W.kitOne K (.ref D) u = some b ∧ Q (.bl b) H
theorem call_isX : CallR X (.builtin "isinstance") (rIsX X.K) := by
  intro pins s σ H xs us Q I r h
  obtain ⟨a, D, d, fs, c, u, b, rfl, ha, hd, T, hc, k, e, q⟩ := h
  obtain ⟨u1, u2, rfl, r1, r2⟩ := vals2 r
  obtain rfl : u1 = Value.ref a := r1
  have e2 := k.eq r2
  subst e2
  obtain ⟨oe, od, mA, J, _⟩ := exo_inst I ha hd
  exact PySem.W.kia_one (PySem.W.kitx_exc hc T.hg T.hk T.hs T.ha T.hn T.ht T.hm) I.kIn J e (by simp) fun tk => ⟨.bl b, H, I.tok tk, rfl, q⟩
end
end Ex

/-! ### C(k = e) of an own exception class -/
namespace Ex
open PySem HandSPX
section
variable {prog : Program} {w : World} {A : Around} {E : Value → Shared → Prop} {R : Result → Shared → Prop} {h : Heap} {g : Array GenState} {d : Drawn} {t : Nat} {os : OsState}
variable {nm q : Str} {C N : Addr} {bs bm bmB : List Value} {hdct : Bool} {sn : List Str} {sub : List Value} {ab : Bool} {col : Option Bool} {dd : Option Addr} {k0 k1 k2 k3 k5 : Option Value} {B newId initId : String} {kn : Str} {kv : Value}
theorem new_kw (F : ExcBaseFacts B newId initId bmB) (hT : ∀ Y : String, bm.contains (.type Y) = bmB.contains (.type Y)) (hC : h.get? C = some (excClassObj nm q C N bs bm hdct sn sub ab col dd k0 k1 k2 k3 k5 newId))
    (z : R (.ok (.ret (.ref (h.objs.size + 1)))) ⟨(h.push (PySem.W.kdv_tup [])).push (excO C h.objs.size), g, d, t, os⟩) :
    codeAny (model prog w) A (.builtin newId ⟨[.ref C], [(kn, kv)]⟩) R ⟨h, g, d, t, os⟩ := by
  have e0 := F.ends
  have e1 : (Value.ref C :: bm).contains (.type B) = true := by rw [List.contains_cons, hT, F.hasB, Bool.or_true]
  have e2 : (Value.ref C :: bm).contains (.type "AttributeError") = false := by rw [List.contains_cons, hT, F.noAttr]; rfl
  have e3 : (Value.ref C :: bm).contains (.type "NameError") = false := by rw [List.contains_cons, hT, F.noName]; rfl
  refine codeAny_builtinAt F.entry ?_
  unfold Builtin.«BaseException.__new__»
  refine PySem.wpAt_bind ?_
  show wpAt _ _ _ (stack >>= _) _ _ _
  refine PySem.wpAt_bind (wpAt_stack fun p below => wpAt_of_wpAny ?_)
  wp_walk
  refine wpAt_of_wpAny ?_
  rw [F.owner]
  repeat (first | with_reducible refine wpAny_madeHere_exc F.canon hC ?_ | with_reducible refine wpAny_loadPart_at hC ?_ | (with_reducible refine wpAny_isSubtype_exc hC ?_; first | rw [e1] | rw [e2] | rw [e3]) | wp_step)
  show R _ _
  rw [Heap.size_push]
  exact z
end
section
variable {M : Model} {A : Around} {E : Value → Shared → Prop} {h : Heap} {g : Array GenState} {d : Drawn} {t : Nat} {os : OsState}
variable {nm q : Str} {C N : Addr} {bs bm bmB : List Value} {hdct : Bool} {sn : List Str} {sub : List Value} {ab : Bool} {col : Option Bool} {dd : Option Addr} {k0 k1 k2 k3 k5 : Option Value} {B newId initId : String} {kn : Str} {kv : Value}
theorem check_kw (F : ExcBaseFacts B newId initId bmB) (hT : ∀ Y : String, bm.contains (.type Y) = bmB.contains (.type Y)) {Q : Unit → Shared → Prop}
    (hC : h.get? C = some (excClassObj nm q C N bs bm hdct sn sub ab col dd k0 k1 k2 k3 k5 newId)) (z : Q () ⟨h, g, d, t, os⟩) : wpAny M A (checkBuiltinCall newId ⟨[.ref C], [(kn, kv)]⟩) Q E ⟨h, g, d, t, os⟩ := by
  have e1 : (Value.ref C :: bm).contains (.type B) = true := by rw [List.contains_cons, hT, F.hasB, Bool.or_true]
  have e2 := F.noStar
  simp only [checkBuiltinCall, F.newKind, F.newSplit, F.newRow]
  repeat (first | refine wpAny_loadPart_at hC ?_ | (refine wpAny_isSubtype_exc hC ?_; rw [e1]) | refine wpAny_staticBase_exc hC ?_ | refine wpAny_madeBy_exc hC ?_ | simp only [bne_self_eq_false, Bool.false_eq_true, if_false] | wp_step)
  exact z
end
section
variable {prog : Program} {w : World} {A : Around} {E : Value → Shared → Prop} {R : Result → Shared → Prop} {h : Heap} {g : Array GenState} {d : Drawn} {t : Nat} {os : OsState}
variable {nm q : Str} {C N fI : Addr} {bs bm bmB : List Value} {hdct : Bool} {sn : List Str} {sub : List Value} {ab : Bool} {col : Option Bool} {dd : Option Addr} {k0 k1 k2 k3 k5 : Option Value} {B newId initId : String} {kn : Str} {kv : Value}
theorem check_tc {M : Model} {Q : Unit → Shared → Prop} (hC : h.get? C = some (excClassObj nm q C N bs bm hdct sn sub ab col dd k0 k1 k2 k3 k5 newId)) (z : Q () ⟨h, g, d, t, os⟩) : wpAny M A (checkBuiltinCall "type.__call__" ⟨[.ref C], [(kn, kv)]⟩) Q E ⟨h, g, d, t, os⟩ := by
  have f3 := PySem.tc_sub
  have hT : (⟨h, g, d, t, os⟩ : Shared).TypeIs (.ref C) "type" := ⟨_, hC, rfl⟩
  simp only [checkBuiltinCall, PySem.tc_kind, PySem.tc_split]
  repeat (any_goals (first | assumption | with_reducible refine wpAny_loadPart_at hC ?_ | with_reducible refine wpAny_onRaise ?_ | with_reducible refine wpAny_map ?_ | wp_step))
theorem type_kw (F : ExcBaseFacts B newId initId bmB) (hT : ∀ Y : String, bm.contains (.type Y) = bmB.contains (.type Y)) {Q : Fin → Shared → Prop} (hC : h.get? C = some (excClassObj nm q C N bs bm hdct sn sub ab col dd k0 k1 k2 k3 k5 newId))
    (hi : PySem.W.Looks (model prog w) h (typeLookup (.ref C) "__init__") (some (.ref fI))) (hb : ∀ self, PySem.W.Looks (model prog w) h (bindSpecial (.ref fI) self) (.ref fI, [self]))
    (z : codeAny (model prog w) A (.call (.ref fI) ⟨[.ref (h.objs.size + 1)], [(kn, kv)]⟩)
      (fun r s' => match r with | .ok (.ret v) => v = .none ∧ Q (.done (.ret (.ref (h.objs.size + 1)))) s' | .ok _ => False | .error e => E e s')
      ⟨(h.push (PySem.W.kdv_tup [])).push (excO C h.objs.size), g, d, t, os⟩) :
    wpAny (model prog w) A (Builtin.«type.__call__» ⟨[.ref C], [(kn, kv)]⟩) Q E ⟨h, g, d, t, os⟩ := by
  repeat (first | with_reducible refine wpAny_loadPart_at hC ?_ | with_reducible refine wpAny_madeBy_exc hC ?_ | wp_step)
  refine codeAny_call_builtin_code (Code.quiet_builtin _ F.quiet) (check_kw F hT hC ?_)
  refine new_kw F hT hC ?_
  show wpAny _ _ _ _ _ _
  have k : ∀ b o, h.get? b = some o → ((h.push (PySem.W.kdv_tup [])).push (excO C h.objs.size)).get? b = some o := fun b o e => Heap.get?_push_of_some _ (Heap.get?_push_of_some _ e)
  have c1 := k _ _ hC
  have at_ : ((h.push (PySem.W.kdv_tup [])).push (excO C h.objs.size)).get? (h.objs.size + 1) = some (excO C h.objs.size) := by heap_get
  have e1 : (Value.ref C :: bm).contains (.ref C) = true := by simp
  have i1 := hi.keeps k
  have b1 := (hb (.ref (h.objs.size + 1))).keeps k
  unfold isInstance
  repeat (first | with_reducible refine wpAny_loadPart_at at_ ?_ | (with_reducible refine wpAny_isSubtype_exc c1 ?_; rw [e1]) | wp_step)
  show wpAny _ _ (typeLookup (.ref C) _) _ _ _
  refine i1.at ?_
  refine wpAny_holding (wpAny_bind (b1.at ?_))
  refine wpAny_bind (wpAny_call (codeAny_mono z fun r s' y => ?_))
  rcases r with e | (v | _ | _ | _) <;> first | exact y | exact y.elim | skip
  obtain ⟨rfl, y⟩ := y
  first
    | exact wpAny_pure (wpAny_pure y)
    | (wp_walk; exact y)
theorem call_kw (F : ExcBaseFacts B newId initId bmB) (hT : ∀ Y : String, bm.contains (.type Y) = bmB.contains (.type Y)) (hC : h.get? C = some (excClassObj nm q C N bs bm hdct sn sub ab col dd k0 k1 k2 k3 k5 newId))
    (hi : PySem.W.Looks (model prog w) h (typeLookup (.ref C) "__init__") (some (.ref fI))) (hb : ∀ self, PySem.W.Looks (model prog w) h (bindSpecial (.ref fI) self) (.ref fI, [self]))
    (z : codeAny (model prog w) (A.under (.builtin "type.__call__" ⟨[.ref C], [(kn, kv)]⟩)) (.call (.ref fI) ⟨[.ref (h.objs.size + 1)], [(kn, kv)]⟩) (PySem.W.InitBack (h.objs.size + 1) R)
      ⟨(h.push (PySem.W.kdv_tup [])).push (excO C h.objs.size), g, d, t, os⟩) :
    codeAny (model prog w) A (.call (.ref C) ⟨[], [(kn, kv)]⟩) R ⟨h, g, d, t, os⟩ := by
  have f1 := PySem.tc_lookup
  have f2 := PySem.tc_bind (.ref C)
  have hTy : (⟨h, g, d, t, os⟩ : Shared).TypeIs (.ref C) "type" := ⟨_, hC, rfl⟩
  refine codeAny_of_tree ?_
  show wpAny _ _ (callAny (.ref C) _) _ _ _
  repeat (any_goals (first | assumption | with_reducible refine wpAny_loadPart_at hC ?_ | wp_step))
  refine ⟨rfl, ?_⟩
  refine codeAny_call_builtin_at (Code.quiet_builtin _ (by decide +kernel)) PySem.entry_typeCall (check_tc hC (type_kw F hT hC hi hb ?_))
  refine codeAny_mono z fun r s' y => ?_
  rcases r with e | (v | _ | _ | _) <;> exact y
end
end Ex

namespace Ex
open PySem PySem.Spec PyProof.Rows L2
section
variable {X : Cx} {CX : CXT} {k : Nat} {C fI : Addr} {B newId initId : String} {bmB : List Value} {fd : FuncData} {ps : List Str} {sp : Sp} {E : XK} {x kn : Str} {p pos : Pos} {kws : List Keyword} {tk : TA} {g : List Value → List Value → List Value} {gV : List V → List V → List V}
def tOexK (C : Addr) (sp : Sp) (gV : List V → List V → List V) (E : XK) (tk : TA) : TE := fun σ H Q => tk σ H fun zs H1 => zs.length = 1 ∧ ∀ a, H1 a = none → sp (gV [.ref a] zs) (upd H1 a (exo a C none)) (fun v H2 => v = .non ∧ Q (.ref a) H2) E
theorem pe_oexK (T : OexG X.K C B newId initId bmB) (iC : PySem.W.findIn X.K (.ref C) "__init__" = some (some (.ref fI))) (tI : PySem.W.typeIn X.K (.ref fI) = some (.type "function")) (F : FnOk X.prog X.w X.K X.mg X.base CX k fI fd ps sp) (hr : Room (k + 1) X.A)
    (hb : KBn X.K fd ps 1 [kn] g gV) (hx : Passes CX X E) (hg : Gl X x) (hm : X.mg x = some (.ref C)) (hkw : PK X kws tk) (hall : (backToKw pos (keywordEach kws X.env)).all (·.1.isSome) = true := by rfl) (hks : (backToKw pos (keywordEach kws X.env)).filterMap (·.1) = [kn] := by rfl)
    (hdb : (x == ("__debug__" : Str)) = false := by decide) (hpl : ((backTo pos (starEach [] X.env)).any (·.1) || (backToKw pos (keywordEach kws X.env)).any (·.1.isNone)) = false := by rfl) :
    PE X (.Call (.Name x p) [] kws pos) (tOexK C sp gV E tk) := by
  refine ⟨fun pins s σ H Q I h => ?_⟩
  obtain ⟨nm, q, N, bs, bm, sn, sub, ab, col, dd, k0, k1, k2, k3, k5, hC, hT⟩ := T.cls
  refine wpAny_Call_Name_kw (ld_glob I hg hm ?_ hdb)
  refine PySem.W.callWith_KW0 (h₀ := X.base) I.ok.mod.kin T.kC hall (thn (hkw.run pos pins s σ H _ I h) fun ws s1 ⟨zs, H1, I1, r1, hz, q1⟩ => ⟨I1.kIn, ?_⟩) hpl
  rw [hks]
  have l1 : ws.length = 1 := by rw [← r1.length]; exact hz
  obtain ⟨kv, rfl⟩ : ∃ kv, ws = [kv] := match ws, l1 with | [kv], _ => ⟨kv, rfl⟩
  show wpAny _ _ (call (.ref C) [] [(kn, kv)]) _ _ _
  obtain ⟨hp, gg, dr, tk', os⟩ := s1
  have up : hp.objs.size ≤ hp.objs.size + 1 := Nat.le_succ _
  have hq := q1 (hp.objs.size + 1) (I1.hok.fresh up)
  have old : ∀ b o, hp.get? b = some o → ((hp.push (PySem.W.kdv_tup [])).push (PySem.HandSPX.excO C hp.objs.size)).get? b = some o := fun b o e => Heap.get?_push_of_some _ (Heap.get?_push_of_some _ e)
  have at_ : ((hp.push (PySem.W.kdv_tup [])).push (PySem.HandSPX.excO C hp.objs.size)).get? (hp.objs.size + 1) = some (PySem.HandSPX.excO C hp.objs.size) := by heap_get
  have I2 : Inv X pins σ (upd H1 (hp.objs.size + 1) (exo (hp.objs.size + 1) C none)) ⟨(hp.push (PySem.W.kdv_tup [])).push (PySem.HandSPX.excO C hp.objs.size), gg, dr, tk', os⟩ :=
    I1.laid (t' := tk') (a := hp.objs.size + 1) (o := exo (hp.objs.size + 1) C none) (h' := (hp.push (PySem.W.kdv_tup [])).push (PySem.HandSPX.excO C hp.objs.size)) old up (exo_ok at_)
  have r2 : Vals (gV [V.ref (hp.objs.size + 1)] zs) (g [Value.ref (hp.objs.size + 1)] [kv]) := hb.rel (.cons rfl .nil) r1
  refine wpAny_call (call_kw T.base hT (I1.kIn _ _ hC) (PySem.W.looks_findIn I1.kIn iC) (fun self => PySem.W.bind_fn I1.kIn self tI)
    (codeAny_mono (F.run _ X.stack _ _ ⟨[Value.ref (hp.objs.size + 1)], [(kn, kv)]⟩ _ _ _ E (hr.make C [] [(kn, kv)]) (I2.env0.make C [] [(kn, kv)]) (hb.to _ [Value.ref (hp.objs.size + 1)] [kv] I2.kIn rfl rfl) r2 hq) fun r s' z => ?_))
  cases r with
  | error er => exact hx pins σ _ _ er s' I2 z
  | ok fl =>
    cases fl with
    | ret u =>
      obtain ⟨v, H2, I3, rv, ev, q2⟩ := I2.after z
      subst ev
      exact ⟨rv, .ref (hp.objs.size + 1), H2, I3, rfl, q2⟩
    | next => exact False.elim z
    | brk => exact False.elim z
    | cont => exact False.elim z
end
end Ex

/-! ### attributes stored into an exception of an own class over any built-in base -/
namespace Ex
open PySem PySem.W PySem.Calls PyProof.Rows PySem.HandSPX Builtin Builtin.ObjectAttr
/-- what the order of the classes must be for stores -/
structure MroG (mro : List Value) : Prop where
  pass : ∀ self, refuseLoop self "__setattr__" mro = pure ()
  ob : mro.contains (.type "object") = true
  ne : mro.isEmpty = false
theorem mroG_of {bmB bm : List Value} {C : Addr} (p : ∀ self : Value, refuseLoop self "__setattr__" bmB = pure ()) (o : bmB.contains (.type "object") = true) (h : excTail bmB bm = true) : MroG (.ref C :: bm) :=
  ⟨fun self => by rw [refuseLoop_ref]; exact excTail_pass self (p self) bm h, by rw [List.contains_cons, excTail_contains "object" bm h, o, Bool.or_true], rfl⟩
section
variable {prog : Program} {w : World} {R : Result → Shared → Prop} {A : Around} {hp : Heap} {g : Array GenState} {d : Drawn} {t : Nat} {os : OsState} {K : W.Frag} {e C : Addr} {fv : Array Value} {cd : ClassData} {n : Str} {tk : Tok} {u : Value}
theorem put_first (kin : K.In hp) (he : hp.get? e = some { cls := .ref C, data := .fields fv }) (hc : W.clsIn K C = some cd) (hm : MroG cd.mro) (hd : cd.hasDict = true) (nn : W.findIn K (.ref C) n = some none)
    (k : ∀ h2 t2 y, (∀ b o, b ≠ e → hp.get? b = some o → h2.get? b = some o) → hp.objs.size ≤ y → y ≠ e → h2.get? e = some { cls := .ref C, dict := some y, data := .fields fv } → h2.Ns1 y (fun z => if z = n then some u else none) → R (.ok (.ret .none)) ⟨h2, g, d, t2, os⟩) :
    codeAny (model prog w) A (.call (.builtin "object.__setattr__") ⟨[.ref e, .str n tk, u], []⟩) R ⟨hp, g, d, t, os⟩ := by
  have J : W.InstAt hp e { cls := .ref C, data := .fields fv } C none := ⟨he, rfl, rfl, trivial⟩
  have S := F.store_object
  have es : e ≠ hp.objs.size := Nat.ne_of_lt (Heap.lt_size he)
  have sub : W.Looks (model prog w) hp (isInstance (.ref e) (.type "object")) true := J.type.andThen (W.looks_mroIn kin (by unfold W.mroIn; rw [hc, Option.bind_some, if_neg (by rw [hm.ne]; decide), hm.ob]))
  refine codeAny_call_builtin S.slot.plain S.entry (@W.check_slot (model prog w) _ _ ⟨hp, g, d, t, os⟩ "object.__setattr__" "object" "__setattr__" (.ref e) [.str n tk, u] [] _ S.kind S.split sub (S.args (.ref e) (.str n tk) u) ?_)
  have l1 : W.Looks (model prog w) hp (mroOf (.ref C)) cd.mro := (W.looks_clsIn kin hc).andThen .now
  have l2 : W.Looks (model prog w) hp (storeTaker? none) none := .now
  have l3 : W.Looks (model prog w) hp (classData C) cd := W.looks_clsIn kin hc
  rw [W.osa_eq, refuse_eq]
  refine wpAny_bind (wpAny_bind (J.type.at (wpAny_bind (l1.at ?_))))
  rw [hm.pass]
  refine wpAny_pure (wpAny_bind (J.type.at (wpAny_bind ((W.looks_findIn kin nn).at (wpAny_bind (l2.at ?_))))))
  show wpAny _ _ (storeInOwnDict (.ref e) (.ref C) (.str n tk) n u false) _ _ _
  obtain ⟨c1, c2, c3, c4, c5, c6, c7, c8, c9, c10, c11⟩ := cd
  dsimp only at hd
  subst hd
  unfold storeInOwnDict ownDictForStores
  repeat (first | with_reducible refine store_in_new ?_ ?_ | with_reducible refine wpAny_loadPart_at he ?_ | with_reducible refine l3.at ?_ | wp_step)
  · exact ⟨_, #[], _, (Heap.get?_update_ne _ _ _ _ es.symm).trans (Heap.get?_push_at rfl rfl), rfl, fun x hx => absurd hx (by simp), fun _ => rfl⟩
  · intro h2 t2 hn hs
    have he1 : (hp.push { cls := .type "dict", data := .dict #[] }).get? e = some { cls := .ref C, data := .fields fv } := Heap.get?_push_of_some _ he
    refine k h2 t2 hp.objs.size (fun b o nb hb => ?_) (Nat.le_refl _) es.symm ?_ hn
    · exact (hs.2 b (Nat.ne_of_lt (Heap.lt_size hb))).trans ((Heap.get?_update_ne _ _ _ _ nb).trans (Heap.get?_push_of_some _ hb))
    · exact (hs.2 e es).trans (Heap.get?_update_self _ he1 rfl)
theorem put_more {y : Addr} {m0 : Str → Option Value} {nl : List Str} (kin : K.In hp) (he : hp.get? e = some { cls := .ref C, dict := some y, data := .fields fv }) (hy : hp.Ns1 y m0) (hw : Within m0 nl) (hz : nl.length ≤ 1000)
    (hc : W.clsIn K C = some cd) (hm : MroG cd.mro) (hd : cd.hasDict = true) (nn : W.findIn K (.ref C) n = some none)
    (k : ∀ h2 t2, (∀ b o, b ≠ y → hp.get? b = some o → h2.get? b = some o) → h2.Ns1 y (fun z => if z = n then some u else m0 z) → R (.ok (.ret .none)) ⟨h2, g, d, t2, os⟩) :
    codeAny (model prog w) A (.call (.builtin "object.__setattr__") ⟨[.ref e, .str n tk, u], []⟩) R ⟨hp, g, d, t, os⟩ := by
  obtain ⟨oD, _, _, hoD, _, _⟩ := hy.count hw
  have J : W.InstAt hp e { cls := .ref C, dict := some y, data := .fields fv } C (some oD) := ⟨he, rfl, rfl, hoD⟩
  have S := F.store_object
  have sub : W.Looks (model prog w) hp (isInstance (.ref e) (.type "object")) true := J.type.andThen (W.looks_mroIn kin (by unfold W.mroIn; rw [hc, Option.bind_some, if_neg (by rw [hm.ne]; decide), hm.ob]))
  refine codeAny_call_builtin S.slot.plain S.entry (@W.check_slot (model prog w) _ _ ⟨hp, g, d, t, os⟩ "object.__setattr__" "object" "__setattr__" (.ref e) [.str n tk, u] [] _ S.kind S.split sub (S.args (.ref e) (.str n tk) u) ?_)
  have l1 : W.Looks (model prog w) hp (mroOf (.ref C)) cd.mro := (W.looks_clsIn kin hc).andThen .now
  have l2 : W.Looks (model prog w) hp (storeTaker? none) none := .now
  have l3 : W.Looks (model prog w) hp (classData C) cd := W.looks_clsIn kin hc
  rw [W.osa_eq, refuse_eq]
  refine wpAny_bind (wpAny_bind (J.type.at (wpAny_bind (l1.at ?_))))
  rw [hm.pass]
  refine wpAny_pure (wpAny_bind (J.type.at (wpAny_bind ((W.looks_findIn kin nn).at (wpAny_bind (l2.at ?_))))))
  show wpAny _ _ (storeInOwnDict (.ref e) (.ref C) (.str n tk) n u false) _ _ _
  obtain ⟨c1, c2, c3, c4, c5, c6, c7, c8, c9, c10, c11⟩ := cd
  dsimp only at hd
  subst hd
  unfold storeInOwnDict ownDictForStores
  repeat (first | with_reducible refine PySem.OEX.store_in_old hy hw hz ?_ | with_reducible refine wpAny_loadPart_at he ?_ | with_reducible refine l3.at ?_ | wp_step)
  intro h2 t2 hn hs
  exact k h2 t2 (fun b o nb hb => (hs.2 b nb).trans hb) hn
end
end Ex
namespace Ex
open PySem PySem.Spec PyProof.Rows L2
/-- what the written part says of the class, for stores -/
structure OexS (K : PySem.W.Frag) (C : Addr) : Prop where
  cd : ∃ cd, PySem.W.clsIn K C = some cd ∧ MroG cd.mro ∧ cd.hasDict = true
  sa : PySem.W.findIn K (.ref C) "__setattr__" = some (some (.builtin "object.__setattr__"))
section
variable {X : Cx} {pins : List (Addr × Obj)} {σ : L2.St} {H : Hp} {s : Shared} {a C dx : Addr} {f : Str} {y : V} {u : Value} {fs : List (Str × V)} {Q : Unit → Shared → Prop} {E : Value → Shared → Prop} {A : Around}
theorem xst_first (T : OexS X.K C) (I : Inv X pins σ H s) (ha : H a = some (exo a C none)) (hno : PySem.W.findIn X.K (.ref C) f = some none) (ry : RelV y u)
    (h : ∀ dx s', H dx = none → dx ≠ a → Inv X pins σ (upd (upd H dx (exd dx [(f, y)])) a (exo a C (some dx))) s' → Q () s') : wpAny (model X.prog X.w) A (setAttr (.ref a) f u) Q E s := by
  obtain ⟨cd, hcl, hm, hd⟩ := T.cd
  obtain ⟨t1, ho⟩ := exo_at I.hok ha
  obtain ⟨hp, g, d, t, os⟩ := s
  refine PySem.W.set_plain I.kIn (ox := { cls := .ref C, dict := none, data := .fields #[.ref t1, .none, .none, .none, .bool false, .none] }) (od := none) ⟨ho, rfl, rfl, trivial⟩ T.sa ?_
  refine put_first I.kIn ho hcl hm hd hno fun h' tk' dx k dn dne hx hn => ?_
  have nD : H dx = none := I.hok.fresh dn
  have old : ∀ {b : Addr} {o : Obj}, hp.get? b = some o → b ≠ dx := fun {b o} q => Nat.ne_of_lt (Nat.lt_of_lt_of_le (Heap.lt_size q) dn)
  have other : ∀ {b : Addr}, H b = none → b ≠ a := fun {b} n z => by rw [z, ha] at n; cases n
  have U : Un X.fs [] H (upd (upd H dx (exd dx [(f, y)])) a (exo a C (some dx))) hp h' :=
    { keep := fun b o q n _ _ => k b o (other n) q
      slot := fun b o q n _ _ => ⟨o.slots, k b o (other n) q⟩
      free := fun b o q n _ => by rw [upd_ne (other n), upd_ne (old q)]; exact n
      there := fun b o q _ => by
        rcases Classical.em (b = a) with z | z
        · subst z
          exact ⟨_, hx⟩
        · exact ⟨o, k b o z q⟩
      tups := fun b xs q => by rw [upd_ne (at_ne ha q exo_tup), upd_ne (ne_of_none q nD)]; exact q
      frzs := fun b o v q => by rw [upd_ne (at_ne ha q exo_frz), upd_ne (ne_of_none q nD)]; exact q
      tbls := fun b ps q => ⟨#[], by rw [upd_ne (at_ne ha q exo_tbl), upd_ne (ne_of_none q nD), q]; simp⟩ }
  refine h dx _ nD dne (I.un (t' := tk') U fun b o q => ?_)
  rcases Classical.em (b = a) with z | hb
  · subst z
    rw [upd_same] at q
    cases q
    exact exo_ok hx
  · rw [upd_ne hb] at q
    rcases Classical.em (b = dx) with z | hb2
    · subst z
      rw [upd_same] at q
      cases q
      exact exd_ok hn (relO_put (fs := []) ry fun _ => True.intro)
    · rw [upd_ne hb2] at q
      refine (I.hok b o q).stay (fun c v hc z => k c v ?_ z) (fun c hc => by rw [upd_ne (at_ne ha hc exo_own), upd_ne (ne_of_none hc nD)]; exact hc) (fun c xs hc => by rw [upd_ne (at_ne ha hc exo_tup), upd_ne (ne_of_none hc nD)]; exact hc)
      rcases hc with hc | hc
      · rw [hc]; exact hb
      · exact at_ne ha hc exo_own
theorem xst_more (T : OexS X.K C) (I : Inv X pins σ H s) (ha : H a = some (exo a C (some dx))) (ed : H dx = some (exd dx fs)) (hl : fs.length ≤ 900) (hno : PySem.W.findIn X.K (.ref C) f = some none) (ry : RelV y u)
    (h : ∀ s', Inv X pins σ (upd H dx (exd dx ((f, y) :: fs))) s' → Q () s') : wpAny (model X.prog X.w) A (setAttr (.ref a) f u) Q E s := by
  obtain ⟨cd, hcl, hm, hd⟩ := T.cd
  obtain ⟨t1, ho⟩ := exo_at I.hok ha
  obtain ⟨mA, hns, rel⟩ := exd_at I.hok ed
  have hw := within_of rel
  obtain ⟨hp, g, d, t, os⟩ := s
  obtain ⟨oD, _, _, hoD, _, _⟩ := hns.count hw
  refine PySem.W.set_plain I.kIn (ox := { cls := .ref C, dict := some dx, data := .fields #[.ref t1, .none, .none, .none, .bool false, .none] }) (od := some oD) ⟨ho, rfl, rfl, hoD⟩ T.sa ?_
  refine put_more I.kIn ho hns hw (by rw [List.length_map]; omega) hcl hm hd hno fun h' tk' k hn => ?_
  obtain ⟨o1, _, _, e1, _⟩ := id hn
  exact h _ (I.write (t' := tk') (x := dx) (e := dx) (o := exd dx ((f, y) :: fs)) (by rw [ed]; exact True.intro) (.inl rfl) k ⟨o1, e1⟩ (exd_ok hn (relO_put ry rel)))
end
/-- self.f = e -/
def tXst (K : PySem.W.Frag) (f : Str) (to te : TE) : TS := fun D σ H => te σ H fun y H1 => to σ H1 fun x H2 => ∃ a C : Addr, x = .ref a ∧ OexS K C ∧ PySem.W.findIn K (.ref C) f = some none ∧
  ((H2 a = some (exo a C none) ∧ ∀ dx, H2 dx = none → dx ≠ a → D.nx σ (upd (upd H2 dx (exd dx [(f, y)])) a (exo a C (some dx)))) ∨
    ∃ (dx : Addr) (fs : List (Str × V)), H2 a = some (exo a C (some dx)) ∧ H2 dx = some (exd dx fs) ∧ fs.length ≤ 900 ∧ D.nx σ (upd H2 dx (exd dx ((f, y) :: fs))))
section
variable {X : Cx} {o e : Expr} {to te : TE} {f : Str} {p' pos : Pos}
theorem ps_xst (ho : PE X o to) (he : PE X e te) (hs : swapsWith e (some (.Attribute o f p')) pos.line X.env = pure false := by rfl) : PS X (.Assign [.Attribute o f p'] e pos) (tXst X.K f to te) := by
  refine ⟨fun pins s σ H D I h => ?_⟩
  refine plainObj_wpAny_Assign_Attribute (thn (he.run pins s σ H _ I h) fun v s1 ⟨y, H1, I1, r1, q1⟩ => thn (ho.run pins s1 σ H1 _ I1 q1) fun u s2 ⟨x, H2, I2, r2, a, C, ex, T, hno, q⟩ => ?_) hs
  subst ex
  obtain rfl : u = Value.ref a := r2
  rcases q with ⟨ea, q⟩ | ⟨dx, fs, ea, ed, hl, q⟩
  · exact xst_first T I2 ea hno r1 fun dx s' n ne J => ⟨σ, _, J, q dx n ne⟩
  · exact xst_more T I2 ea ed hl hno r1 fun s' J => ⟨σ, _, J, q⟩
end
/-! ### C() with an own __init__; C(e) without one; isinstance of an exception without a dict -/
/-- the class by the written part's word -/
theorem oexG_of {K : PySem.W.Frag} {C : Addr} {B newId initId : String} {bmB : List Value} (b : ExcBaseFacts B newId initId bmB) (q : PySem.W.excInitIn K C bmB newId = true) (hd : PySem.W.hasDictIn K C = true) (kC : PySem.W.keepIn K (.ref C) = true) : OexG K C B newId initId bmB := by
  refine ⟨b, ?_, kC⟩
  unfold PySem.W.excInitIn at q
  unfold PySem.W.hasDictIn PySem.W.clsIn at hd
  split at q
  · rename_i dd cd sl ho
    rw [ho] at hd
    split at q
    · rename_i C' bm k0 k1 k2 k3 n k5 hm hs
      simp only [Bool.and_eq_true, beq_iff_eq, Bool.not_eq_true'] at q
      obtain ⟨⟨⟨rfl, rfl⟩, hdel⟩, ht⟩ := q
      obtain ⟨nm, bs, mro, ns, qn, hd', sn, sub, ab, col, del⟩ := cd
      dsimp only at hm hdel
      subst hm hdel
      have e1 : hd' = true := by simpa using hd
      subst e1
      obtain ⟨l⟩ := sl
      simp only at hs
      subst hs
      exact ⟨nm, qn, ns, bs, bm, sn, sub, ab, col, dd, k0, k1, k2, k3, k5, ho, fun T => PySem.W.excTail_contains T _ ht⟩
    · cases q
  · cases q
theorem oexS_of {K : PySem.W.Frag} {C : Addr} {newId : String} {bmB : List Value} (p : ∀ self : Value, refuseLoop self "__setattr__" bmB = pure ()) (ob : bmB.contains (.type "object") = true) (q : PySem.W.excInitIn K C bmB newId = true) (hd : PySem.W.hasDictIn K C = true)
    (sa : PySem.W.findIn K (.ref C) "__setattr__" = some (some (.builtin "object.__setattr__"))) : OexS K C := by
  refine ⟨?_, sa⟩
  unfold PySem.W.excInitIn at q
  unfold PySem.W.hasDictIn at hd
  split at q
  · rename_i dd cd sl ho
    have ec : PySem.W.clsIn K C = some cd := by unfold PySem.W.clsIn; rw [ho]
    rw [ec] at hd
    split at q
    · rename_i C' bm k0 k1 k2 k3 n k5 hm hs
      simp only [Bool.and_eq_true, beq_iff_eq, Bool.not_eq_true'] at q
      obtain ⟨⟨⟨rfl, rfl⟩, hdel⟩, ht⟩ := q
      exact ⟨cd, ec, by rw [hm]; exact mroG_of p ob ht, by simpa using hd⟩
    · cases q
  · cases q
section
variable {X : Cx} {CX : CXT} {k : Nat} {C fI : Addr} {B newId initId : String} {bmB : List Value} {sp : Sp} {E : XK} {x : Str} {p pos : Pos}
theorem pe_oex0 (T : OexG X.K C B newId initId bmB) (iC : PySem.W.findIn X.K (.ref C) "__init__" = some (some (.ref fI))) (tI : PySem.W.typeIn X.K (.ref fI) = some (.type "function")) (F : FnR X.prog X.w X.K X.mg X.base CX k fI sp) (hr : Room (k + 1) X.A)
    (hx : Passes CX X E) (hg : Gl X x) (hm : X.mg x = some (.ref C)) (hdb : (x == ("__debug__" : Str)) = false := by decide) : PE X (.Call (.Name x p) [] [] pos) (fun _ H Q => ∀ a, H a = none → sp [.ref a] (upd H a (exo a C none)) (fun v H2 => v = .non ∧ Q (.ref a) H2) E) := by
  refine ⟨fun pins s σ H Q I h => ?_⟩
  obtain ⟨nm, q, N, bs, bm, sn, sub, ab, col, dd, k0, k1, k2, k3, k5, hC, hT⟩ := T.cls
  refine wpAny_Call_Name_kw (ld_glob I hg hm ?_ hdb)
  refine PySem.W.callWith_K0 I.kIn T.kC ?_
  obtain ⟨hp, g, dr, tk, os⟩ := s
  have up : hp.objs.size ≤ hp.objs.size + 1 := Nat.le_succ _
  have hq := h (hp.objs.size + 1) (I.hok.fresh up)
  have old : ∀ b o, hp.get? b = some o → ((hp.push (PySem.W.kdv_tup [])).push (PySem.HandSPX.excO C hp.objs.size)).get? b = some o := fun b o e => Heap.get?_push_of_some _ (Heap.get?_push_of_some _ e)
  have at_ : ((hp.push (PySem.W.kdv_tup [])).push (PySem.HandSPX.excO C hp.objs.size)).get? (hp.objs.size + 1) = some (PySem.HandSPX.excO C hp.objs.size) := by heap_get
  have I2 : Inv X pins σ (upd H (hp.objs.size + 1) (exo (hp.objs.size + 1) C none)) ⟨(hp.push (PySem.W.kdv_tup [])).push (PySem.HandSPX.excO C hp.objs.size), g, dr, tk, os⟩ :=
    I.laid (t' := tk) (a := hp.objs.size + 1) (o := exo (hp.objs.size + 1) C none) (h' := (hp.push (PySem.W.kdv_tup [])).push (PySem.HandSPX.excO C hp.objs.size)) old up (exo_ok at_)
  refine wpAny_call (PySem.HandSPX.call_own T.base hT (I.kIn _ _ hC) (PySem.W.looks_findIn I.kIn iC) (fun self => PySem.W.bind_fn I.kIn self tI) (Nat.zero_le _)
    (codeAny_mono (F _ X.stack _ _ [Value.ref (hp.objs.size + 1)] [V.ref (hp.objs.size + 1)] _ E (hr.make C [] []) (I2.env0.make C [] []) (.cons rfl .nil) hq) fun r s' z => ?_))
  cases r with
  | error er => exact hx pins σ _ _ er s' I2 z
  | ok fl =>
    cases fl with
    | ret u =>
      obtain ⟨v, H2, I3, rv, ev, q2⟩ := I2.after z
      subst ev
      exact ⟨rv, .ref (hp.objs.size + 1), H2, I3, rfl, q2⟩
    | next => exact False.elim z
    | brk => exact False.elim z
    | cont => exact False.elim z
end
end Ex

namespace Ex
open PySem PySem.Spec PyProof.Rows L2
section
variable {X : Cx} {pins : List (Addr × Obj)} {σ : L2.St} {H : Hp} {s : Shared} {a C : Addr} {h' : Heap} {t' : Nat}
/-- an exception without a dict, wherever it lies, is told from now on -/
theorem inv_exo (I : Inv X pins σ H s) (k : ∀ b o, s.heap.get? b = some o → h'.get? b = some o) (nw : s.heap.get? a = none) (ok : ObjOk X.prog X.w (upd H a (exo a C none)) h' a (exo a C none)) : Inv X pins σ (upd H a (exo a C none)) { s with heap := h', toks := t' } := by
  have na : H a = none := HOk.gone I.hok nw
  have old : ∀ {b : Addr} {o : Obj}, s.heap.get? b = some o → b ≠ a := fun {b o} q z => by rw [z, nw] at q; cases q
  have U : Un X.fs [] H (upd H a (exo a C none)) s.heap h' :=
    { keep := fun b o q n _ _ => k b o q
      slot := fun b o q n _ _ => ⟨o.slots, k b o q⟩
      free := fun b o q n _ => by rw [upd_ne (old q)]; exact n
      there := fun b o q _ => ⟨o, k b o q⟩
      tups := fun b xs q => by rw [upd_ne (ne_of_none q na)]; exact q
      frzs := fun b o v q => by rw [upd_ne (ne_of_none q na)]; exact q
      tbls := fun b ps q => ⟨#[], by rw [upd_ne (ne_of_none q na), q]; simp⟩ }
  obtain ⟨hp, g, d, t, os⟩ := s
  refine I.un (t' := t') U fun b o q => ?_
  rcases Classical.em (b = a) with z | hb
  · subst z
    rw [upd_same] at q
    cases q
    exact ok
  · rw [upd_ne hb] at q
    exact (I.hok b o q).stay (fun c v hc z => k c v z) (fun c hc => by rw [upd_ne (ne_of_none hc na)]; exact hc) (fun c xs hc => by rw [upd_ne (ne_of_none hc na)]; exact hc)
end
section
variable {X : Cx} {C : Addr} {bmB : List Value} {B newId initId : String}
/-- C("m") of an own class without an own __init__, as a value -/
theorem pe_oexP {x m : Str} {j : Nat} {p p2 pos : Pos} (F : ExcBaseFacts B newId initId bmB) (q : PySem.W.excIn X.K C bmB newId = true) (gC : X.mg x = some (.ref C)) (kC : PySem.W.keepIn X.K (.ref C) = true) (hg : Gl X x)
    (hdb : (x == ("__debug__" : Str)) = false := by decide) : PE X (.Call (.Name x p) [.Constant (.str m) j p2] [] pos) (fun _ H Q => ∀ a, H a = none → Q (.ref a) (upd H a (exo a C none))) := by
  refine ⟨fun pins s σ H Q I h => ?_⟩
  refine wpAny_Call_Name_kw (ld_glob I hg gC ?_ hdb)
  have ha : PA X [.Constant (.str m) j p2] (tCons (tC (.str m)) tNil) := pa_cons pe_str pa_nil
  refine PySem.W.callWith_K (h₀ := X.base) I.ok.mod.kin kC (thn (ha.run pos pins s σ H (fun vs H1 => vs = [V.str m] ∧ H = H1) I ⟨rfl, rfl⟩) fun us s1 hh => ?_)
  obtain ⟨vs, H1, I1, r1, ev, eH⟩ := hh
  subst ev
  rw [← eH] at I1
  refine ⟨I1.kIn, ?_⟩
  cases r1 with
  | cons ru rn =>
    rename_i u us'
    cases rn
    show wpAny _ _ (call (.ref C) [u]) _ _ _
    obtain ⟨bm, N, nm, qn, bs, hdct, sn, sub, ab, col, dd, k0, k1, k2, k3, k5, mN, hC, hN, hni, T⟩ := exc_obj I1.kIn q
    refine wpAny_call_exc_subT F T hC hN hni (fun h' e hm => ?_) (by show 1 ≤ sizeLine; rw [sizeLine_eq]; omega)
    obtain ⟨t, he, _, _⟩ := hm.there
    exact ⟨.ref e, _, inv_exo (t' := s1.toks) I1 hm.keeps hm.new (exo_ok he), rfl, h e (HOk.gone I1.hok hm.new)⟩
/-- isinstance(e, c), e without a dict -/
def rIsX0 (K : PySem.W.Frag) : List V → Hp → VK → Prop := fun xs H Q => ∃ (a D : Addr) (c : V) (u : Value) (b : Bool), xs = [.ref a, c] ∧ H a = some (exo a D none) ∧ ExcC K D ∧ (PySem.W.clsIn K D).isSome = true ∧ ClsV c u ∧ PySem.W.kitOne K (.ref D) u = some b ∧ Q (.bl b) H
theorem call_isX0 : CallR X (.builtin "isinstance") (rIsX0 X.K) := by
  intro pins s σ H xs us Q I r h
  obtain ⟨a, D, c, u, b, rfl, ha, T, hc, k, e, q⟩ := h
  obtain ⟨u1, u2, rfl, r1, r2⟩ := vals2 r
  obtain rfl : u1 = Value.ref a := r1
  have e2 := k.eq r2
  subst e2
  obtain ⟨t1, h1⟩ := exo_at I.hok ha
  have J : PySem.W.InstAt s.heap a _ D none := ⟨h1, rfl, rfl, trivial⟩
  exact PySem.W.kia_one (PySem.W.kitx_exc hc T.hg T.hk T.hs T.ha T.hn T.ht T.hm) I.kIn J e (by simp) fun tk => ⟨.bl b, H, I.tok tk, rfl, q⟩
end
theorem pe_exfK {X : Cx} {K : PySem.W.Frag} {e : Expr} {te : TE} {f : Str} {pos : Pos} (eK : X.K = K) (he : PE X e te) (hb : attributeBase e f X.env (eval e X.env) = eval e X.env := by rfl) : PE X (.Attribute e f pos) (tExf K f te) := eK ▸ pe_exf he hb
/-! ### an exception that stands: its class, its code, its one more attribute -/
/-- fs: what its dict has -/
def Xv (H : Hp) (x : V) (C : Addr) (fs : List (Str × V)) : Prop := ∃ a d, x = .ref a ∧ H a = some (exo a C (some d)) ∧ H d = some (exd d fs)
theorem Xv.same {H H' : Hp} {x : V} {C : Addr} {fs : List (Str × V)} (e : Same H H') (h : Xv H x C fs) : Xv H' x C fs := by
  obtain ⟨a, d, h1, h2, h3⟩ := h
  exact ⟨a, d, h1, e _ _ h2, e _ _ h3⟩
theorem exd_lst {e : Addr} {fs : List (Str × V)} {xs : List V} : exd e fs ≠ .lst xs := fun z => by
  have z' : HO.ext _ = HO.lst xs := z
  cases z'
theorem exo_lst {e C : Addr} {d : Option Addr} {xs : List V} : exo e C d ≠ .lst xs := fun z => by
  have z' : HO.ext _ = HO.lst xs := z
  cases z'
theorem Xv.mut {H : Hp} {x : V} {C r : Addr} {fs : List (Str × V)} {zs : List V} {o : HO} (h : Xv H x C fs) (hr : H r = some (.lst zs)) : Xv (upd H r o) x C fs := by
  obtain ⟨a, d, h1, h2, h3⟩ := h
  exact ⟨a, d, h1, (upd_ne (at_ne hr h2 (fun z => exo_lst z.symm))).trans h2, (upd_ne (at_ne hr h3 (fun z => exd_lst z.symm))).trans h3⟩
/-- __init__(self, v): self.f = v; self.code = nm -/
def spX (C : Addr) (f nm : Str) : Sp := fun vs H Q _ => ∃ a v, vs = [.ref a, v] ∧ H a = some (exo a C none) ∧ ∀ d H', H d = none → d ≠ a → (∀ b o, b ≠ a → H b = some o → H' b = some o) → H' a = some (exo a C (some d)) → H' d = some (exd d [("code", .str nm), (f, v)]) → Q .non H'
/-- __init__(self): self.code = nm -/
def spX0 (C : Addr) (nm : Str) : Sp := fun vs H Q _ => ∃ a, vs = [.ref a] ∧ H a = some (exo a C none) ∧ ∀ d H', H d = none → d ≠ a → (∀ b o, b ≠ a → H b = some o → H' b = some o) → H' a = some (exo a C (some d)) → H' d = some (exd d [("code", .str nm)]) → Q .non H'
/-- a caller of spX: what is told -/
theorem told1 {H1 : Hp} {C a : Addr} {f nm : Str} {v : V} {vs : List V} {R : Hp → Prop} {E : XK} (e : vs = [.ref a, v]) (na : H1 a = none) (k : ∀ H2, Same H1 H2 → Xv H2 (.ref a) C [("code", .str nm), (f, v)] → R H2) : spX C f nm vs (upd H1 a (exo a C none)) (fun w H2 => w = .non ∧ R H2) E :=
  ⟨a, v, e, upd_same, fun d H' nd da kp h1 h2 => ⟨rfl, k H' (fun b o e => kp b o (fun z => by rw [z, na] at e; cases e) ((upd_ne (fun z => by rw [z, na] at e; cases e)).trans e)) ⟨a, d, rfl, h1, h2⟩⟩⟩
theorem told0 {H1 : Hp} {C a : Addr} {nm : Str} {vs : List V} {R : Hp → Prop} {E : XK} (e : vs = [.ref a]) (na : H1 a = none) (k : ∀ H2, Same H1 H2 → Xv H2 (.ref a) C [("code", .str nm)] → R H2) : spX0 C nm vs (upd H1 a (exo a C none)) (fun w H2 => w = .non ∧ R H2) E :=
  ⟨a, e, upd_same, fun d H' nd da kp h1 h2 => ⟨rfl, k H' (fun b o e => kp b o (fun z => by rw [z, na] at e; cases e) ((upd_ne (fun z => by rw [z, na] at e; cases e)).trans e)) ⟨a, d, rfl, h1, h2⟩⟩⟩
end Ex

/-! ### the bag: what is drawn from, and one draw -/
/-- q: the cells; i: the next one; b: what is left of a great cell; s: the mixed number; c: how many draws -/
def BagAt (H : Hp) (p q : Addr) (cells : List Int) (i : Nat) (b s c : Int) : Prop :=
  H p = some (.lst [.ref q, .int (i : Nat), .int b, .int s, .int c]) ∧ H q = some (.lst (cells.map V.int)) ∧ cells.length ≤ 63 ∧ i ≤ cells.length ∧ 0 ≤ b ∧ 0 ≤ s ∧ s < 2147483579
/-- the bag at p, its cells at q -/
def Bag (H : Hp) (p q : Addr) : Prop := ∃ (cells : List Int) (i : Nat) (b s c : Int), BagAt H p q cells i b s c
/-- from H to H' the bag alone may have turned; other things may be new -/
structure Bs (p q : Addr) (H H' : Hp) : Prop where
  keep : ∀ b o, b ≠ p → H b = some o → H' b = some o
  bag : Bag H' p q
theorem lst_inj {xs ys : List V} (h : some (HO.lst xs) = some (HO.lst ys)) : xs = ys := by
  injection h with h
  injection h
theorem BagAt.ne {H : Hp} {p q : Addr} {cells : List Int} {i : Nat} {b s c : Int} (h : BagAt H p q cells i b s c) : q ≠ p := fun e => by
  obtain ⟨h1, h2, _⟩ := h
  rw [e, h1] at h2
  have e2 := lst_inj h2
  cases cells with
  | nil => cases e2
  | cons x r =>
    rw [List.map_cons] at e2
    injection e2 with e3
    cases e3
theorem Bs.refl {p q : Addr} {H : Hp} (h : Bag H p q) : Bs p q H H := ⟨fun _ _ _ e => e, h⟩
theorem Bs.trans {p q : Addr} {H H1 H2 : Hp} (a : Bs p q H H1) (b : Bs p q H1 H2) : Bs p q H H2 := ⟨fun c o n e => b.keep c o n (a.keep c o n e), b.bag⟩
theorem Bag.some {H : Hp} {p q : Addr} (h : Bag H p q) : ∃ o, H p = some o := by
  obtain ⟨cells, i, b, s, c, h1, _⟩ := h
  exact ⟨_, h1⟩
theorem Bag.nn {H : Hp} {p q r : Addr} (h : Bag H p q) (e : H r = none) : r ≠ p := fun z => by
  obtain ⟨o, h⟩ := h.some
  rw [z, h] at e
  cases e
theorem Bag.nq {H : Hp} {p q r : Addr} (h : Bag H p q) (e : H r = none) : r ≠ q := fun z => by
  obtain ⟨cells, i, b, s, c, _, h2, _⟩ := h
  rw [z, h2] at e
  cases e
/-- what is new ahead was new before -/
theorem Bs.free {p q : Addr} {H H1 : Hp} (a : Bs p q H H1) {r : Addr} (h : H1 r = none) : H r = none := by
  cases e : H r with
  | none => rfl
  | some o =>
    rw [a.keep r o (a.bag.nn h) e] at h
    cases h
theorem Bag.mut {H : Hp} {p q r : Addr} {o : HO} (h : Bag H p q) (n1 : r ≠ p) (n2 : r ≠ q) : Bag (upd H r o) p q := by
  obtain ⟨cells, i, b, s, c, h1, h2, h3⟩ := h
  exact ⟨cells, i, b, s, c, by rw [upd_ne n1.symm]; exact h1, by rw [upd_ne n2.symm]; exact h2, h3⟩
theorem Bag.upd {H : Hp} {p q r : Addr} {o : HO} (h : Bag H p q) (e : H r = none) : Bag (upd H r o) p q := h.mut (h.nn e) (h.nq e)
theorem Bs.new {p q : Addr} {H H1 : Hp} (a : Bs p q H H1) {r : Addr} {o : HO} (h : H1 r = none) : Bs p q H (upd H1 r o) :=
  ⟨fun c u n e => by
    have e1 := a.keep c u n e
    rw [upd_ne (ne_of_none e1 h)]
    exact e1, a.bag.upd h⟩
/-- a thing that is newer than H changes -/
theorem Bs.mut {p q : Addr} {H H1 : Hp} (a : Bs p q H H1) (b : Bag H p q) {r : Addr} {o : HO} (h : H r = none) : Bs p q H (upd H1 r o) :=
  ⟨fun c u n e => by
    rw [upd_ne (ne_of_none e h)]
    exact a.keep c u n e, a.bag.mut (b.nn h) (b.nq h)⟩
theorem Bs.same {p q : Addr} {H H1 H2 : Hp} (a : Bs p q H H1) (s : Same H1 H2) : Bs p q H H2 :=
  ⟨fun c u n e => s _ _ (a.keep c u n e), by
    obtain ⟨cells, i, b, s', c, h1, h2, h3⟩ := a.bag
    exact ⟨cells, i, b, s', c, s _ _ h1, s _ _ h2, h3⟩⟩
theorem Bs.seqL {K : PySem.W.Frag} {p q a : Addr} {H H1 : Hp} {xs : List V} (b : Bs p q H H1) (n : a ≠ p) (h : SqL K H a xs) : SqL K H1 a xs := by
  rcases h with (h | ⟨o, h⟩) | h
  · exact .inl (.inl (b.keep _ _ n h))
  · exact .inl (.inr ⟨o, b.keep _ _ n h⟩)
  · exact .inr h
theorem Bs.seqT {K : PySem.W.Frag} {p q a : Addr} {H H1 : Hp} {xs : List V} (b : Bs p q H H1) (n : a ≠ p) (h : SqT K H a xs) : SqT K H1 a xs := by
  rcases h with (h | ⟨o, h⟩) | h
  · exact .inl (.inl (b.keep _ _ n h))
  · exact .inl (.inr ⟨o, b.keep _ _ n h⟩)
  · exact .inr h
/-- .. all is kept but the bag: a promise of a draw -/
def spPull : Sp := fun vs H Q _ => ∃ (p q : Addr) (many : Int), vs = [.ref p, .int many] ∧ Bag H p q ∧ 0 < many ∧ many ≤ 1000000000000000000 ∧
  ∀ d H', 0 ≤ d → d < many → Bs p q H H' → Q (.int d) H'
structure TxB (mg : Str → Option Value) : Prop where
  len : mg "len" = none
  int : mg "int" = none
section
variable {P : Program} {w : World} {K : PySem.W.Frag} {mg : Str → Option Value} {base : Heap}
theorem scPull : FnScope ["_law_bag_here", "_law_many", "_law_cell", "_law_digit", "_law_state"] ["_law_bag_here", "_law_many"] (defScope sPull) := ⟨rfl, rfl, rfl, by decide +kernel, rfl, by decide +kernel, by decide +kernel⟩
theorem bag_of {H : Hp} {p q : Addr} {cells : List Int} {i : Nat} {b s c : Int} {xs : List V} (nq : q ≠ p) (h1 : xs = [.ref q, .int (i : Nat), .int b, .int s, .int c]) (h2 : H q = some (.lst (cells.map V.int))) (h3 : cells.length ≤ 63) (h4 : i ≤ cells.length) (h5 : 0 ≤ b) (h6 : 0 ≤ s) (h7 : s < 2147483579) : BagAt (upd H p (.lst xs)) p q cells i b s c :=
  ⟨by rw [upd_same, h1], by rw [upd_ne nq]; exact h2, h3, h4, h5, h6, h7⟩

theorem ok_pull {f : Addr} {fd : FuncData} {k : Nat} (F : Fun K "_law_pull" "_law_pull" sPull f fd) (T : TxB mg) : FnOk P w K mg base CX0 (k + 1) f fd ["_law_bag_here", "_law_many"] spPull := by
  refine F.ok scPull (fun vs H Q E h => ?_) (fun cdv A outer s H vs Q E hr h => ?_)
  · obtain ⟨p, q, m, rfl, _⟩ := h
    rfl
  · obtain ⟨p, q, m, rfl, ⟨cells, i, b, s, c, hB⟩, hm0, hm1, k⟩ := h
    refine ⟨_, (pss_cons (ps_asg (pe_op op_add (pe_ix ix_list (pv 0) pe_int (fun _ _ => rfl)) pe_int) (pg_sub (pv 0) pe_int set_list))
 (C8.pss_cut (ps_if (PW.pt (pw_and (pt_cmpR op_eq (pe_ix ix_list (pv 0) pe_int (fun _ _ => rfl)) pe_int (nomark _)) (pw_and1 (pt_cmpR op_lt (pe_ix ix_list (pv 0) pe_int (fun _ _ => rfl)) (pe_callB call_len_seq (by rfl) T.len PySem.boot_len (pa_cons (pe_ix ix_list (pv 0) pe_int (fun _ _ => rfl)) pa_nil)) (nomark _))))) (pss_cons (ps_set (i := 2) scPull.nd rfl (Or.inl rfl) (pe_ix ix_list (pe_ix ix_list (pv 0) pe_int (fun _ _ => rfl)) (pe_ix ix_list (pv 0) pe_int (fun _ _ => rfl)) (fun _ _ => rfl)))
 (pss_cons (ps_asg (pe_op op_add (pe_ix ix_list (pv 0) pe_int (fun _ _ => rfl)) pe_int) (pg_sub (pv 0) pe_int set_list))
 (C8.pss_cut (ps_if (pt_cmpR op_ge (pv 2) (pe_op op_pow pe_int pe_int) (nomark _)) (pss_one (ps_asg (pv 2) (pg_sub (pv 0) pe_int set_list))) pss_nil)
 (pss_one (ps_asg (pe_op op_mod (pe_callTy call_int1 (by rfl) T.int PyProof.Rows.boot_int (pa_cons (pe_op op_add (pe_op op_add (pe_op op_mul (pe_ix ix_list (pv 0) pe_int (fun _ _ => rfl)) pe_int) (pe_op op_mul (pe_op op_mod (pe_callTy call_int1 (by rfl) T.int PyProof.Rows.boot_int (pa_cons (pv 2) pa_nil)) pe_int) pe_int)) pe_int) pa_nil)) pe_int) (pg_sub (pv 0) pe_int set_list)))))) pss_nil)
 (pss_cons (ps_if (pt_cmpR op_gt (pe_ix ix_list (pv 0) pe_int (fun _ _ => rfl)) pe_int (nomark _)) (pss_cons (ps_set (i := 3) scPull.nd rfl (Or.inl rfl) (pe_op op_mod (pe_callTy call_int1 (by rfl) T.int PyProof.Rows.boot_int (pa_cons (pe_ix ix_list (pv 0) pe_int (fun _ _ => rfl)) pa_nil)) (pv 1)))
 (pss_cons (ps_asg (pe_op op_fdivW (pe_callTy call_int1 (by rfl) T.int PyProof.Rows.boot_int (pa_cons (pe_ix ix_list (pv 0) pe_int (fun _ _ => rfl)) pa_nil)) (pv 1)) (pg_sub (pv 0) pe_int set_list))
 (pss_one (ps_ret (pv 3))))) pss_nil)
 (pss_cons (ps_set (i := 4) scPull.nd rfl (Or.inl rfl) (pe_ix ix_list (pv 0) pe_int (fun _ _ => rfl)))
 (pss_cons (ps_asg (pe_op op_mod (pe_callTy call_int1 (by rfl) T.int PyProof.Rows.boot_int (pa_cons (pe_op op_add (pe_op op_add (pe_op op_add (pe_op op_pow (pv 4) pe_int) (pe_op op_mul (pv 4) pe_int)) (pe_op op_mul (pe_ix ix_list (pv 0) pe_int (fun _ _ => rfl)) pe_int)) pe_int) pa_nil)) pe_int) (pg_sub (pv 0) pe_int set_list))
 (pss_one (ps_ret (pe_op op_mod (pe_callTy call_int1 (by rfl) T.int PyProof.Rows.boot_int (pa_cons (pe_op op_add (pe_op op_fdiv (pe_ix ix_list (pv 0) pe_int (fun _ _ => rfl)) pe_int) (pe_op op_mul (pe_op op_mod (pe_callTy call_int1 (by rfl) T.int PyProof.Rows.boot_int (pa_cons (pe_ix ix_list (pv 0) pe_int (fun _ _ => rfl)) pa_nil)) pe_int) pe_int)) pa_nil)) (pv 1))))))))), ?_⟩
    have nq := BagAt.ne hB
    obtain ⟨h1, h2, h3, h4, h5, h6, h7⟩ := hB
    -- bag[4] = bag[4] + 1
    refine ⟨_, rfl, p, _, _, _, rfl, rfl, SqL.of h1, rfl, c, 1, rfl, rfl, _, rfl, p, _, _, _, rfl, rfl, h1, rfl, ?_⟩
    have g1 : BagAt (upd H p (.lst [.ref q, .int (i : Nat), .int b, .int s, .int (c + 1)])) p q cells i b s (c + 1) := bag_of nq rfl h2 h3 h4 h5 h6 h7
    refine ⟨fun σ H' => ∃ (i : Nat) (b s c : Int) (y2 : Option V), σ = [some (.ref p), some (.int m), y2, none, none] ∧ BagAt H' p q cells i b s c ∧ ∀ a, a ≠ p → H' a = H a, ?_, ?_⟩
    · -- the test
      refine ⟨_, rfl, p, _, _, _, rfl, rfl, SqL.of g1.1, rfl, rfl, _, rfl, ?_⟩
      have kp1 : ∀ a, a ≠ p → (upd H p (.lst [.ref q, .int (i : Nat), .int b, .int s, .int (c + 1)])) a = H a := fun a n => upd_ne n
      refine ite2 (fun e0 => ?_) (fun _ => iteF ⟨i, b, s, c + 1, none, rfl, g1, kp1⟩)
      refine ⟨_, rfl, p, _, _, _, rfl, rfl, SqL.of g1.1, rfl, _, rfl, p, _, _, _, rfl, rfl, SqL.of g1.1, rfl, q, _, rfl, .inl (SqL.of g1.2.1), _, _, rfl, rfl, _, rfl, ?_⟩
      refine ite2 (fun e1 => ?_) (fun _ => ⟨i, b, s, c + 1, none, rfl, g1, kp1⟩)
      have hi : i < cells.length := by
        have e2 := of_decide_eq_true e1
        rw [List.length_map] at e2
        omega
      -- cell = bag[0][bag[1]]
      have hc : (cells.map V.int)[i]? = some (.int cells[i]) := by
        rw [List.getElem?_map, List.getElem?_eq_getElem hi]
        rfl
      refine ⟨_, rfl, p, _, _, _, rfl, rfl, SqL.of g1.1, rfl, _, rfl, p, _, _, _, rfl, rfl, SqL.of g1.1, rfl, q, _, _, _, rfl, rfl, SqL.of g1.2.1, atI_nat hc, ?_⟩
      -- bag[1] = bag[1] + 1
      refine ⟨_, rfl, p, _, _, _, rfl, rfl, SqL.of g1.1, rfl, _, _, rfl, rfl, _, rfl, p, _, _, _, rfl, rfl, g1.1, rfl, ?_⟩
      have g2 : BagAt (upd (upd H p (.lst [.ref q, .int (i : Nat), .int b, .int s, .int (c + 1)])) p (.lst [.ref q, .int ((i : Int) + 1), .int b, .int s, .int (c + 1)])) p q cells (i + 1) b s (c + 1) := bag_of nq (by rw [show (((i + 1 : Nat) : Int)) = (i : Int) + 1 by omega]) g1.2.1 h3 (by omega) h5 h6 h7
      -- if cell >= 10 ** 18: bag[2] = cell
      have kp2 : ∀ a, a ≠ p → (upd (upd H p (.lst [.ref q, .int (i : Nat), .int b, .int s, .int (c + 1)])) p (.lst [.ref q, .int ((i : Int) + 1), .int b, .int s, .int (c + 1)])) a = H a := fun a n => by rw [upd_ne n, upd_ne n]
      refine ⟨fun σ H' => ∃ b : Int, σ = [some (.ref p), some (.int m), some (.int cells[i]), none, none] ∧ BagAt H' p q cells (i + 1) b s (c + 1) ∧ ∀ a, a ≠ p → H' a = H a, ?_, ?_⟩
      · refine ⟨_, rfl, 10, 18, rfl, rfl, ⟨by decide, by decide, by decide⟩, _, _, rfl, rfl, _, rfl, ?_⟩
        refine ite2 (fun e2 => ?_) (fun _ => ⟨b, rfl, g2, kp2⟩)
        have e3 := of_decide_eq_true e2
        refine ⟨_, rfl, _, rfl, p, _, _, _, rfl, rfl, g2.1, rfl, ?_⟩
        refine ⟨cells[i], rfl, bag_of nq rfl g2.2.1 h3 (by omega) (Int.le_trans (by decide) e3) h6 h7, fun a n => by rw [upd_ne n]; exact kp2 a n⟩
      · rintro σ H3 ⟨b, rfl, g3, kp3⟩
        have b0 := g3.2.2.2.2.1
        refine ⟨_, rfl, p, _, _, _, rfl, rfl, SqL.of g3.1, rfl, _, _, rfl, rfl, .inl ⟨by omega, by omega⟩, _, rfl, .inl ⟨_, rfl, _, _, rfl, rfl, (by show (0 : Int) < 2147483497; decide), _, _, rfl, rfl, .inr ⟨by decide, by decide⟩, _, _, rfl, rfl, _, _, rfl, rfl, .inl ⟨_, rfl, _, _, rfl, rfl, (by show (0 : Int) < 2147483579; decide), _, rfl, p, _, _, _, rfl, rfl, g3.1, rfl, ?_⟩⟩⟩
        exact ⟨i + 1, b, _, c + 1, _, rfl, bag_of nq rfl g3.2.1 h3 (by omega) b0 (Int.emod_nonneg _ (by decide)) (Int.emod_lt_of_pos _ (by decide)), fun a n => by rw [upd_ne n]; exact kp3 a n⟩
    · rintro σ H1 ⟨i, b, s, c, y2, rfl, g, kp⟩
      obtain ⟨h1, h2, h3, h4, h5, h6, h7⟩ := id g
      have fin : ∀ (H2 : Hp) (d : Int), (∃ i b s c, BagAt H2 p q cells i b s c) → (∀ a, a ≠ p → H2 a = H a) → 0 ≤ d → d < m → Q (.int d) H2 := fun H2 d ⟨i, b, s, c, g⟩ kk d0 d1 =>
        k d H2 d0 d1 ⟨fun a o n e => (kk a n).trans e, ⟨cells, i, b, s, c, g⟩⟩
      have mw : m.natAbs < 2 ^ 60 := by omega
      refine ⟨_, rfl, p, _, _, _, rfl, rfl, SqL.of h1, rfl, _, _, rfl, rfl, _, rfl, ?_⟩
      refine ite2 (fun e0 => ?_) (fun _ => ?_)
      · have b0 : 0 < b := of_decide_eq_true e0
        refine ⟨_, rfl, p, _, _, _, rfl, rfl, SqL.of h1, rfl, .inl ⟨_, rfl, _, rfl, _, _, rfl, rfl, hm0, ?_⟩⟩
        refine ⟨_, rfl, p, _, _, _, rfl, rfl, SqL.of h1, rfl, .inl ⟨_, rfl, _, rfl, _, _, rfl, rfl, wide_div hm0 mw (by decide) (by decide), _, rfl, p, _, _, _, rfl, rfl, h1, rfl, ?_⟩⟩
        refine ⟨_, rfl, fin _ _ ⟨i, b / m, s, c, bag_of nq rfl h2 h3 h4 (Int.ediv_nonneg (by omega) (by omega)) h6 h7⟩ (fun a n => by rw [upd_ne n]; exact kp a n) (Int.emod_nonneg _ (by omega)) (Int.emod_lt_of_pos _ hm0)⟩
      · refine ⟨_, rfl, p, _, _, _, rfl, rfl, SqL.of h1, rfl, ?_⟩
        refine ⟨_, rfl, _, 3, rfl, rfl, ⟨by decide, by decide, by omega⟩, _, rfl, _, _, rfl, rfl, .inr ⟨by decide, by decide⟩, _, _, rfl, rfl, _, rfl, p, _, _, _, rfl, rfl, SqL.of h1, rfl, _, _, rfl, rfl, .inr ⟨by decide, by decide⟩, _, _, rfl, rfl, _, _, rfl, rfl, .inl ⟨_, rfl, _, _, rfl, rfl, (by show (0 : Int) < 2147483579; decide), _, rfl, p, _, _, _, rfl, rfl, h1, rfl, ?_⟩⟩
        have g2 : BagAt _ p q cells i b ((s ^ (3 : Int).toNat + s * 40111 + c * 1299583 + 61027) % 2147483579) c := bag_of (H := H1) (xs := [.ref q, .int (i : Nat), .int b, .int ((s ^ (3 : Int).toNat + s * 40111 + c * 1299583 + 61027) % 2147483579), .int c]) nq rfl h2 h3 h4 h5 (Int.emod_nonneg _ (by decide)) (Int.emod_lt_of_pos _ (by decide))
        refine ⟨_, rfl, p, _, _, _, rfl, rfl, SqL.of g2.1, rfl, _, _, rfl, rfl, ⟨by decide, by decide⟩, _, rfl, p, _, _, _, rfl, rfl, SqL.of g2.1, rfl, .inl ⟨_, rfl, _, _, rfl, rfl, (by show (0 : Int) < 7919; decide), _, _, rfl, rfl, .inr ⟨by decide, by decide⟩, _, _, rfl, rfl, .inl ⟨_, rfl, _, rfl, _, _, rfl, rfl, hm0, ?_⟩⟩⟩
        exact fin _ _ ⟨i, b, _, c, g2⟩ (fun a n => by rw [upd_ne n]; exact kp a n) (Int.emod_nonneg _ (by omega)) (Int.emod_lt_of_pos _ hm0)

theorem cutV_map (ns : List Int) (lo hi : Option Int) : ∃ ms : List Int, cutV (ns.map V.int) lo hi = ms.map V.int ∧ ms.length ≤ ns.length := by
  refine ⟨(ns.drop (HT.sIx ns.length 0 lo)).take (HT.sIx ns.length ns.length hi - HT.sIx ns.length 0 lo), ?_, ?_⟩
  · unfold cutV
    rw [List.length_map, List.map_take, List.map_drop]
  · rw [List.length_take, List.length_drop]
    omega
theorem get_int {ns : List Int} {i : Nat} {x : V} (h : (ns.map V.int)[i]? = some x) : ∃ u, x = .int u ∧ ns[i]? = some u ∧ i < ns.length := by
  rw [List.getElem?_map] at h
  cases e : ns[i]? with
  | none =>
    rw [e] at h
    cases h
  | some u =>
    rw [e] at h
    exact ⟨u, (Option.some.inj h).symm, rfl, (List.getElem?_eq_some_iff.mp e).1⟩
theorem same_upd {H : Hp} {p : Addr} {o : HO} (h : H p = none) : Same H (upd H p o) := fun b x e => by
  rw [upd_ne (ne_of_none e h)]
  exact e
theorem same_mut {H H' : Hp} {p : Addr} {o : HO} (e : Same H H') (h : H p = none) : Same H (upd H' p o) := fun a u ha => by
  rw [upd_ne (ne_of_none ha h)]
  exact e a u ha
theorem sz63 {n : Nat} (h : n ≤ 63) : n < sizeLine := Nat.lt_of_le_of_lt h (by decide)
def spBag (K : PySem.W.Frag) : Sp := fun vs H Q _ => ∃ (a : Addr) (ns : List Int), vs = [.ref a] ∧ SqL K H a (ns.map V.int) ∧ ns.length ≤ 63 ∧ ∀ p q H', H p = none → H q = none → Same H H' → Bag H' p q → Q (.ref p) H'
theorem scBag : FnScope ["_law_script", "_law_state", "_law_cell"] ["_law_script"] (defScope sBag) := ⟨rfl, rfl, rfl, by decide +kernel, rfl, by decide +kernel, by decide +kernel⟩
theorem ok_bag {f : Addr} {fd : FuncData} {k : Nat} (F : Fun K "_law_bag" "_law_bag" sBag f fd) (T : TxB mg) : FnOk P w K mg base CX0 (k + 1) f fd ["_law_script"] (spBag K) := by
  refine F.ok scBag (fun vs H Q E h => ?_) (fun cdv A outer s H vs Q E hr h => ?_)
  · obtain ⟨a, ns, rfl, _⟩ := h
    rfl
  · obtain ⟨a, ns, rfl, hS, hlen, k⟩ := h
    refine ⟨_, (pss_cons (ps_set (i := 1) scBag.nd rfl (Or.inl rfl) pe_int)
 (pss_cons (ps_for PassesOwn.never rfl (pi_list (pe_slice sl_list (pv 0) po_none (po_some pe_int))) (pg_name (i := 2) scBag.nd rfl (Or.inl rfl))
 (pss_one (ps_set (i := 1) scBag.nd rfl (Or.inl rfl) (pe_op op_mod (pe_callTy call_int1 (by rfl) T.int PyProof.Rows.boot_int (pa_cons (pe_op op_add (pe_op op_add (pe_op op_mul (pv 1) pe_int) (pe_op op_mod (pe_callTy call_int1 (by rfl) T.int PyProof.Rows.boot_int (pa_cons (pv 2) pa_nil)) pe_int)) pe_int) pa_nil)) pe_int))))
 (pss_one (ps_ret (pe_lst (pa_cons (pe_lc (own := [("_law_cell", 2)]) (g := gName 2) (tt := tYes) rfl scBag.nd (pi_list (pe_slice sl_list (pv 0) po_none (po_some pe_int))) (blkOk_by (own := [("_law_cell", 2)]) (N := ["_law_script", "_law_state", "_law_cell"]) (sc := defScope sBag) (by decide +kernel)) (fun _ _ _ _ _ => (pg_name (i := 2) scBag.nd rfl (Or.inl rfl))) (fun _ _ _ _ _ => pts_nil) (fun _ _ _ _ _ => (pe_callTy call_int1 (by rfl) T.int PyProof.Rows.boot_int (pa_cons (pv 2) pa_nil)))) (pa_cons pe_int (pa_cons pe_int (pa_cons (pv 1) (pa_cons pe_int pa_nil)))))))))), ?_⟩
    obtain ⟨ms, em, lm⟩ := cutV_map ns none (some 63)
    refine ⟨_, rfl, 63, rfl, a, _, rfl, hS, fun r nr => ?_⟩
    have s1 : Same H (upd H r (.lst (cutV (ns.map V.int) none (some 63)))) := same_upd nr
    refine ⟨r, rfl, ⟨_, SqL.of upd_same⟩, for_list (K := K) (a := r) (xs := ms.map V.int) (fun i σ H' => ∃ (st : Int) (y2 : Option V), σ = [some (.ref a), some (.int st), y2] ∧ 0 ≤ st ∧ st < 2147483579 ∧ H' = upd H r (.lst (cutV (ns.map V.int) none (some 63))))
      ⟨10021, none, rfl, by decide, by decide, rfl⟩ (fun i σ H' _ ⟨_, _, _, _, _, e⟩ => by rw [e, em]; exact SqL.of upd_same) ?_ ?_⟩
    · rintro i x σ H' hi ⟨st, y2, rfl, st0, st1, rfl⟩
      obtain ⟨u, rfl, _, _⟩ := get_int hi
      refine ⟨_, rfl, _, _, rfl, rfl, .inr ⟨by decide, by decide⟩, _, rfl, .inl ⟨_, rfl, _, _, rfl, rfl, (by show (0 : Int) < 2147483563; decide), _, _, rfl, rfl, _, _, rfl, rfl, .inl ⟨_, rfl, _, _, rfl, rfl, (by show (0 : Int) < 2147483579; decide), ?_⟩⟩⟩
      exact ⟨_, _, rfl, Int.emod_nonneg _ (by decide), Int.emod_lt_of_pos _ (by decide), rfl⟩
    · rintro σ H' ⟨st, y2, rfl, st0, st1, rfl⟩
      refine ⟨_, rfl, 63, rfl, a, _, rfl, s1.seq hS, fun r2 nr2 => ?_⟩
      have s2 := same_upd (o := .lst (cutV (ns.map V.int) none (some 63))) nr2
      refine ⟨r2, rfl, ⟨_, SqL.of upd_same⟩, fun D nD => lc_list (K := K) (a := r2) (xs := ms.map V.int) (fun i H' => Same (upd (upd H r (.lst (cutV (ns.map V.int) none (some 63)))) r2 (.lst (cutV (ns.map V.int) none (some 63)))) H' ∧ H' D = some (.lst ((ms.take i).map V.int))) ⟨same_upd nD, upd_same⟩ (fun i H' _ h => h.1.seq (by rw [← em]; exact SqL.of upd_same)) ?_ ?_⟩
      · rintro i x H' hi ⟨hs, hD⟩
        obtain ⟨u, rfl, hu, _⟩ := get_int hi
        refine ⟨rfl, _, rfl, .inl ⟨_, rfl, _, hD, sz63 (by rw [List.length_map, List.length_take]; omega), same_mut hs nD, ?_⟩⟩
        rw [upd_same, List.take_add_one, hu, List.map_append]
        rfl
      · rintro H' ⟨hs, hD⟩
        refine ⟨_, rfl, (by show 5 ≤ sizeLine; decide), fun p np => ?_⟩
        have sa : Same H H' := (s1.trans s2).trans hs
        refine k p D _ (sa.free np) ((s1.trans s2).free nD) (sa.trans (same_upd np)) ⟨ms, 0, 0, st, 0, by rw [upd_same]; rfl, ?_, by omega, by omega, by decide, st0, st1⟩
        rw [upd_ne (ne_of_none hD np), hD, List.length_map, List.take_length]
theorem at_ofN {α : Type} {xs : List α} {z : Int} {j : Nat} {v : α} (e : z = (j : Int)) (h : xs[j]? = some v) : atI xs z = some v := by
  rw [e]
  exact atI_nat h

/-- a draw out of a list (not the bag itself) -/
def spPickL (K : PySem.W.Frag) : Sp := fun vs H Q _ => ∃ (p q r : Addr) (xs : List V), vs = [.ref p, .ref r] ∧ Bag H p q ∧ r ≠ p ∧ SqL K H r xs ∧ 0 < xs.length ∧ xs.length ≤ 1000000000000000000 ∧
  ∀ x H', x ∈ xs → Bs p q H H' → Q x H'
/-- .. out of a text -/
def spPickS : Sp := fun vs H Q _ => ∃ (p q : Addr) (z : Str), vs = [.ref p, .str z] ∧ Bag H p q ∧ 0 < z.length ∧ z.length ≤ 1000 ∧
  ∀ c H', c ∈ z.cps.toList → Bs p q H H' → Q (.str ⟨#[c]⟩) H'
theorem scPick : FnScope ["_law_bag_here", "_law_rows"] ["_law_bag_here", "_law_rows"] (defScope sPick) := ⟨rfl, rfl, rfl, by decide +kernel, rfl, by decide +kernel, by decide +kernel⟩
theorem ok_pickL {f g : Addr} {fd gd : FuncData} {k : Nat} (F : Fun K "_law_pick" "_law_pick" sPick f fd) (T : TxB mg) (FP : Fun K "_law_pull" "_law_pull" sPull g gd) (bP : Binds K gd ["_law_bag_here", "_law_many"] []) (mP : mg "_law_pull" = some (.ref g)) :
    FnOk P w K mg base CX0 (k + 2) f fd ["_law_bag_here", "_law_rows"] (spPickL K) := by
  have GP : FnOk P w K mg base CX0 (k + 1) g gd ["_law_bag_here", "_law_many"] spPull := ok_pull FP T
  refine F.ok scPick (fun vs H Q E h => ?_) (fun cdv A outer s H vs Q E hr h => ?_)
  · obtain ⟨p, q, r, xs, rfl, _⟩ := h
    rfl
  · obtain ⟨p, q, r, xs, rfl, hB, nr, hX, h0, h1, k⟩ := h
    refine ⟨_, (pss_one (ps_ret (pe_ix ix_seq (pv 1) (pe_call GP hr (by rfl) mP FP.kp bP .nil pass0 (pa_cons (pv 0) (pa_cons (pe_callB call_len (by rfl) T.len PySem.boot_len (pa_cons (pv 1) pa_nil)) pa_nil))) (fun _ _ => rfl)))), ?_⟩
    refine ⟨_, rfl, _, rfl, _, rfl, _, _, rfl, .inl ⟨_, hX, rfl⟩, p, q, _, rfl, hB, by omega, by omega, fun d H' d0 d1 b => .inl ⟨r, xs, d, xs[d.toNat]'(by omega), rfl, rfl, b.seqL nr hX, ?_, k _ _ (List.getElem_mem _) b⟩⟩
    exact at_of (j := d.toNat) (by omega) (List.getElem?_eq_getElem _)
theorem ok_pickS {f g : Addr} {fd gd : FuncData} {k : Nat} (F : Fun K "_law_pick" "_law_pick" sPick f fd) (T : TxB mg) (FP : Fun K "_law_pull" "_law_pull" sPull g gd) (bP : Binds K gd ["_law_bag_here", "_law_many"] []) (mP : mg "_law_pull" = some (.ref g)) :
    FnOk P w K mg base CX0 (k + 2) f fd ["_law_bag_here", "_law_rows"] spPickS := by
  have GP : FnOk P w K mg base CX0 (k + 1) g gd ["_law_bag_here", "_law_many"] spPull := ok_pull FP T
  refine F.ok scPick (fun vs H Q E h => ?_) (fun cdv A outer s H vs Q E hr h => ?_)
  · obtain ⟨p, q, r, rfl, _⟩ := h
    rfl
  · obtain ⟨p, q, z, rfl, hB, h0, h1, k⟩ := h
    refine ⟨_, (pss_one (ps_ret (pe_ix ix_seq (pv 1) (pe_call GP hr (by rfl) mP FP.kp bP .nil pass0 (pa_cons (pv 0) (pa_cons (pe_callB call_len (by rfl) T.len PySem.boot_len (pa_cons (pv 1) pa_nil)) pa_nil))) (fun _ _ => rfl)))), ?_⟩
    have e0 : z.cps.toList.length = z.length := Array.length_toList
    refine ⟨_, rfl, _, rfl, _, rfl, _, _, rfl, ⟨Nat.le_trans h1 (by decide), rfl⟩, p, q, _, rfl, hB, by omega, by omega, fun d H' d0 d1 b => .inr (.inr ⟨z, d, z.cps.toList[d.toNat]'(by omega), rfl, rfl, Nat.le_trans h1 (by decide), ?_, k _ _ (List.getElem_mem _) b⟩)⟩
    exact at_ofN (j := d.toNat) (by omega) (List.getElem?_eq_getElem _)

/-! ### data: what the laws compare -/
/-- at depth below n: the value v is the data d; no list and no tuple of it is the thing at p -/
def Da (p : Addr) (H : Hp) : Nat → V → PyData → Prop
  | 0, _, _ => False
  | _ + 1, v, .none => v = .non
  | _ + 1, v, .bool b => v = .bl b
  | _ + 1, v, .int i => v = .int i
  | _ + 1, v, .str x => v = .str x
  | n + 1, v, .list ds => ∃ a xs, v = .ref a ∧ a ≠ p ∧ H a = some (.lst xs) ∧ xs.length ≤ 100000 ∧ Paired (Da p H n) xs ds
  | n + 1, v, .tuple ds => ∃ a xs, v = .ref a ∧ a ≠ p ∧ H a = some (.tup xs) ∧ xs.length ≤ 100000 ∧ Paired (Da p H n) xs ds
  | _, _, .dict _ => False
theorem Da.mono {p : Addr} {H H' : Hp} (k : ∀ b o, b ≠ p → H b = some o → H' b = some o) : ∀ {n : Nat} {v : V} {d : PyData}, Da p H n v d → Da p H' n v d
  | 0, _, _, h => h
  | _ + 1, _, .none, h => h
  | _ + 1, _, .bool _, h => h
  | _ + 1, _, .int _, h => h
  | _ + 1, _, .str _, h => h
  | n + 1, _, .list ds, ⟨a, xs, e, np, h, l, r⟩ => ⟨a, xs, e, np, k _ _ np h, l, Paired.mapP r fun _ _ z => Da.mono k z⟩
  | n + 1, _, .tuple ds, ⟨a, xs, e, np, h, l, r⟩ => ⟨a, xs, e, np, k _ _ np h, l, Paired.mapP r fun _ _ z => Da.mono k z⟩
  | _ + 1, _, .dict _, h => h
theorem Da.same {p : Addr} {H H' : Hp} (k : Same H H') {n : Nat} {v : V} {d : PyData} (h : Da p H n v d) : Da p H' n v d := h.mono fun b o _ e => k b o e
theorem Da.bs {p q : Addr} {H H' : Hp} (k : Bs p q H H') {n : Nat} {v : V} {d : PyData} (h : Da p H n v d) : Da p H' n v d := h.mono k.keep
theorem Da.up {p : Addr} {H : Hp} : ∀ {n : Nat} {v : V} {d : PyData}, Da p H n v d → Da p H (n + 1) v d
  | 0, _, _, h => h.elim
  | _ + 1, _, .none, h => h
  | _ + 1, _, .bool _, h => h
  | _ + 1, _, .int _, h => h
  | _ + 1, _, .str _, h => h
  | n + 1, _, .list ds, ⟨a, xs, e, np, h, l, r⟩ => ⟨a, xs, e, np, h, l, Paired.mapP r fun _ _ z => Da.up z⟩
  | n + 1, _, .tuple ds, ⟨a, xs, e, np, h, l, r⟩ => ⟨a, xs, e, np, h, l, Paired.mapP r fun _ _ z => Da.up z⟩
  | _ + 1, _, .dict _, h => h
theorem paired_get {α β : Type} {R : α → β → Prop} : ∀ {xs : List α} {ys : List β} {i : Nat} {x : α}, Paired R xs ys → xs[i]? = some x → ∃ y, ys[i]? = some y ∧ R x y
  | _, _, _, _, .nil, e => by simp at e
  | _, _, 0, x, .cons r _, e => by
    have e1 := Option.some.inj e
    subst e1
    exact ⟨_, rfl, r⟩
  | _, _, i + 1, x, .cons _ t, e => paired_get (i := i) (x := x) t e
theorem walk_zipT {K : PySem.W.Frag} {a b : Addr} {xs ys : List V} {n : Nat} (hn : n = min xs.length ys.length) : Walk (RZ.ItzT K a b) n (fun H => SqT K H a xs ∧ SqT K H b ys) (YPair (fun i => xs[i]?) (fun i => ys[i]?)) := by
  subst hn
  refine ⟨fun i _ hi q => ?_, fun _ q => ⟨xs, ys, q.1, q.2, by omega⟩, fun i H v H' _ q y => ?_⟩
  · have h1 : i < xs.length := by omega
    have h2 : i < ys.length := by omega
    exact ⟨xs, ys, xs[i], ys[i], q.1, q.2, by simp [h1], by simp [h2]⟩
  · obtain ⟨T, x, z, h1, h2, h3, h4, h5⟩ := y
    exact ⟨T, x, z, h1, h2, h3, h4 xs q.1, h5 ys q.2⟩
theorem same_seqT {K : PySem.W.Frag} {H H' : Hp} {a : Addr} {xs : List V} (e : Same H H') (h : SqT K H a xs) : SqT K H' a xs := by
  rcases h with (h | ⟨o, h⟩) | h
  · exact .inl (.inl (e _ _ h))
  · exact .inl (.inr ⟨o, e _ _ h⟩)
  · exact .inr h
def spSame (n : Nat) : Sp := fun vs H Q _ => ∃ (p : Addr) (x y : V) (d : PyData), vs = [x, y] ∧ Da p H n x d ∧ Da p H n y d ∧ ∀ H', Same H H' → Q (.bl true) H'
structure TxS (mg : Str → Option Value) : Prop where
  len : mg "len" = none
  isinstance : mg "isinstance" = none
  list : mg "list" = none
  tuple : mg "tuple" = none
  bool : mg "bool" = none
  int : mg "int" = none
  str : mg "str" = none
  all : mg "all" = none
  zip : mg "zip" = none
theorem ands_all : ∀ n : Nat, (List.replicate n true).all id = true
  | 0 => rfl
  | n + 1 => by
    rw [List.replicate_succ, List.all_cons, ands_all n]
    rfl
theorem kit_lt_list {K : PySem.W.Frag} : PySem.W.kitAny K (.type "list") [.type "list", .type "tuple"] = some true := kitAny_cons (kit_ty (b := "list") (r := true) (by decide +kernel)) (fun z => nomatch z) (fun _ => rfl)
theorem kit_lt_tuple {K : PySem.W.Frag} : PySem.W.kitAny K (.type "tuple") [.type "list", .type "tuple"] = some true :=
  kitAny_cons (kit_ty (b := "list") (r := false) (by decide +kernel)) (fun _ => kitAny_cons (kit_ty (b := "tuple") (r := true) (by decide +kernel)) (fun z => nomatch z) (fun _ => rfl)) (fun z => nomatch z)
theorem kit_lt_no {K : PySem.W.Frag} {a : String} (h1 : kitB a "list" = some false) (h2 : kitB a "tuple" = some false) : PySem.W.kitAny K (.type a) [.type "list", .type "tuple"] = some false :=
  kitAny_cons (kit_ty (b := "list") h1) (fun _ => kitAny_cons (kit_ty (b := "tuple") h2) (fun _ => kitAny_nil) (fun z => nomatch z)) (fun z => nomatch z)
theorem scSame : FnScope ["_law_found", "_law_due", "_law_one", "_law_two"] ["_law_found", "_law_due"] (defScope sSame) := ⟨rfl, rfl, rfl, by decide +kernel, rfl, by decide +kernel, by decide +kernel⟩
theorem ok_same {f : Addr} {fd : FuncData} (F : Fun K "_law_same" "_law_same" sSame f fd) (T : TxS mg) (bS : Binds K fd ["_law_found", "_law_due"] []) (mS : mg "_law_same" = some (.ref f)) :
    ∀ n : Nat, FnOk P w K mg base CX0 (n + 1) f fd ["_law_found", "_law_due"] (spSame n)
  | 0 => by
    refine F.ok scSame (fun vs H Q E h => ?_) (fun cdv A outer s H vs Q E hr h => ?_)
    · obtain ⟨p, x, y, d, rfl, _⟩ := h
      rfl
    · obtain ⟨p, x, y, d, rfl, z, _⟩ := h
      exact z.elim
  | n + 1 => by
    have GS : FnOk P w K mg base CX0 (n + 1) f fd ["_law_found", "_law_due"] (spSame n) := ok_same F T bS mS n
    refine F.ok scSame (fun vs H Q E h => ?_) (fun cdv A outer s H vs Q E hr h => ?_)
    · obtain ⟨p, x, y, d, rfl, _⟩ := h
      rfl
    · obtain ⟨p, x, y, d, rfl, hx, hy, k⟩ := h
      refine ⟨_, (pss_cons (ps_if (pt_val (pe_callB call_isiT (by rfl) T.isinstance PyProof.Rows.boot_isinstance (pa_cons (pv 1) (pa_cons (pe_tup (pa_cons (pe_bltn (v := .ty "list") (by rfl) T.list PyProof.Rows.boot_list rfl) (pa_cons (pe_bltn (v := .ty "tuple") (by rfl) T.tuple PyProof.Rows.boot_tuple rfl) pa_nil))) pa_nil)))) (pss_cons (ps_if (pt_cmpR op_ne (pe_callB call_isi (by rfl) T.isinstance PyProof.Rows.boot_isinstance (pa_cons (pv 0) (pa_cons (pe_bltn (v := .ty "list") (by rfl) T.list PyProof.Rows.boot_list rfl) pa_nil))) (pe_callB call_isi (by rfl) T.isinstance PyProof.Rows.boot_isinstance (pa_cons (pv 1) (pa_cons (pe_bltn (v := .ty "list") (by rfl) T.list PyProof.Rows.boot_list rfl) pa_nil))) (nomark _)) (pss_one (ps_ret pe_bl)) pss_nil)
 (pss_cons (ps_if (pt_cmpR op_ne (pe_callB call_isi (by rfl) T.isinstance PyProof.Rows.boot_isinstance (pa_cons (pv 0) (pa_cons (pe_bltn (v := .ty "tuple") (by rfl) T.tuple PyProof.Rows.boot_tuple rfl) pa_nil))) (pe_callB call_isi (by rfl) T.isinstance PyProof.Rows.boot_isinstance (pa_cons (pv 1) (pa_cons (pe_bltn (v := .ty "tuple") (by rfl) T.tuple PyProof.Rows.boot_tuple rfl) pa_nil))) (nomark _)) (pss_one (ps_ret pe_bl)) pss_nil)
 (pss_one (ps_ret (pe_and (pe_cmpR op_eq (pe_callB call_len_seq (by rfl) T.len PySem.boot_len (pa_cons (pv 0) pa_nil)) (pe_callB call_len_seq (by rfl) T.len PySem.boot_len (pa_cons (pv 1) pa_nil)) (nomark _)) (pe_one (pe_callB (cr_all rfl) (by rfl) T.all (by decide +kernel) (pa_cons (pe_lc (own := [("_law_one", 2), ("_law_two", 3)]) (g := gTup K 2 (gCons (gName 2) (gCons (gName 3) gNil))) (tt := tYes) rfl scSame.nd (RZ.pi_zipA (by rfl) T.zip (pa_cons (pv 0) (pa_cons (pv 1) pa_nil))) (blkOk_by (own := [("_law_one", 2), ("_law_two", 3)]) (N := ["_law_found", "_law_due", "_law_one", "_law_two"]) (sc := defScope sSame) (by decide +kernel)) (fun _ _ _ _ _ => (pg_tup rfl (pgs_cons (pg_name (i := 2) scSame.nd rfl (Or.inl rfl)) (pgs_cons (pg_name (i := 3) scSame.nd rfl (Or.inl rfl)) pgs_nil)))) (fun _ _ _ _ _ => pts_nil) (fun _ _ _ _ _ => (pe_call GS (hr.mono (by omega)) (by rfl) mS F.kp bS .nil pass0 (pa_cons (pv 2) (pa_cons (pv 3) pa_nil))))) pa_nil)))))))) pss_nil)
 (pss_cons (ps_if (PW.pt (pw_or (pt_cmpR op_isN (pv 1) pe_non (nomark _)) (pw_or1 (pt_cmpR op_isN (pv 0) pe_non (nomark _))))) (pss_one (ps_ret (pe_and (pe_cmpR op_isN (pv 1) pe_non (nomark _)) (pe_one (pe_cmpR op_isN (pv 0) pe_non (nomark _)))))) pss_nil)
 (pss_cons (ps_if (pt_cmpR op_ne (pe_callB call_isi (by rfl) T.isinstance PyProof.Rows.boot_isinstance (pa_cons (pv 1) (pa_cons (pe_bltn (v := .ty "bool") (by rfl) T.bool PyProof.Rows.boot_bool rfl) pa_nil))) (pe_callB call_isi (by rfl) T.isinstance PyProof.Rows.boot_isinstance (pa_cons (pv 0) (pa_cons (pe_bltn (v := .ty "bool") (by rfl) T.bool PyProof.Rows.boot_bool rfl) pa_nil))) (nomark _)) (pss_one (ps_ret pe_bl)) pss_nil)
 (pss_cons (ps_if (pt_cmpR op_ne (pe_callB call_isi (by rfl) T.isinstance PyProof.Rows.boot_isinstance (pa_cons (pv 1) (pa_cons (pe_bltn (v := .ty "int") (by rfl) T.int PyProof.Rows.boot_int rfl) pa_nil))) (pe_callB call_isi (by rfl) T.isinstance PyProof.Rows.boot_isinstance (pa_cons (pv 0) (pa_cons (pe_bltn (v := .ty "int") (by rfl) T.int PyProof.Rows.boot_int rfl) pa_nil))) (nomark _)) (pss_one (ps_ret pe_bl)) pss_nil)
 (pss_one (ps_ret (pe_and (pe_cmpR op_eq (pe_callB call_isi (by rfl) T.isinstance PyProof.Rows.boot_isinstance (pa_cons (pv 1) (pa_cons (pe_bltn (v := .ty "str") (by rfl) T.str PyProof.Rows.boot_str rfl) pa_nil))) (pe_callB call_isi (by rfl) T.isinstance PyProof.Rows.boot_isinstance (pa_cons (pv 0) (pa_cons (pe_bltn (v := .ty "str") (by rfl) T.str PyProof.Rows.boot_str rfl) pa_nil))) (nomark _)) (pe_one (pe_cmpR op_eq (pv 0) (pv 1) (nomark _)))))))))), ?_⟩
      refine ⟨_, rfl, (by show 2 ≤ sizeLine; decide), fun t nt => ?_⟩
      have s1 : Same H (upd H t (.tup [.ty "list", .ty "tuple"])) := same_upd nt
      generalize hH1 : upd H t (.tup [.ty "list", .ty "tuple"]) = H1 at s1
      have ht : H1 t = some (.tup [.ty "list", .ty "tuple"]) := by rw [← hH1, upd_same]
      have hx1 := hx.same s1
      have hy1 := hy.same s1
      have cls : Paired ClsV [V.ty "list", V.ty "tuple"] [Value.type "list", Value.type "tuple"] := .cons (.ty _) (.cons (.ty _) .nil)
      cases d with
      | list ds =>
        obtain ⟨a, xs, rfl, na, ha, la, ra⟩ := hx1
        obtain ⟨b, ys, rfl, nb, hb, lb, rb⟩ := hy1
        have tx : TyX K H1 (.ref a) (.type "list") := .base (.lst ha)
        have ty : TyX K H1 (.ref b) (.type "list") := .base (.lst hb)
        refine ⟨_, t, _, _, _, true, rfl, ht, cls, ty, kit_lt_list, true, rfl, ?_⟩
        refine iteT ?_
        refine ⟨_, rfl, _, _, _, _, true, rfl, .ty _, tx, kit_ty (by decide +kernel), _, rfl, _, _, _, _, true, rfl, .ty _, ty, kit_ty (by decide +kernel), rfl, _, rfl, ?_⟩
        refine iteF ?_
        refine ⟨_, rfl, _, _, _, _, false, rfl, .ty _, tx, kit_ty (by decide +kernel), _, rfl, _, _, _, _, false, rfl, .ty _, ty, kit_ty (by decide +kernel), rfl, _, rfl, ?_⟩
        refine iteF ?_
        have ln : xs.length = ys.length := (Paired.length ra).trans (Paired.length rb).symm
        refine ⟨_, rfl, a, xs, rfl, .inl (SqL.of ha), _, rfl, b, ys, rfl, .inl (SqL.of hb), rfl, _, rfl, ?_⟩
        rw [if_pos (decide_eq_true (by rw [ln]))]
        refine ⟨_, rfl, _, rfl, a, b, xs, ys, rfl, .inl ⟨SqL.of ha, SqL.of hb, fun D nD => lc_it (walk_zip (n := xs.length) (by omega)) (fun i H' => Same H1 H' ∧ H' D = some (.lst ((List.replicate i true).map V.bl))) ⟨same_upd nD, upd_same⟩ (fun i H' _ q => ⟨q.1.seq (SqL.of ha), q.1.seq (SqL.of hb)⟩) ?_ ?_⟩⟩
        · rintro i z H2 H3 hi ⟨sm, hD⟩ ⟨T2, u, v, rfl, nT, rfl, gu, gv⟩
          obtain ⟨du, e1, r1⟩ := paired_get ra gu
          obtain ⟨dv, e2, r2⟩ := paired_get rb gv
          have e3 : du = dv := Option.some.inj (e1.symm.trans e2)
          subst e3
          have sm3 : Same H1 (upd H2 T2 (.tup [u, v])) := sm.trans (same_upd nT)
          refine ⟨T2, _, rfl, SqT.of upd_same, rfl, _, _, rfl, _, _, rfl, rfl, rfl, _, rfl, _, rfl, p, u, v, du, rfl, r1.same sm3, r2.same sm3, fun H4 s4 => ?_⟩
          have hD4 := s4 _ _ ((same_upd nT) _ _ hD)
          have i63 : ((List.replicate i true).map V.bl).length < sizeLine := by
            rw [List.length_map, List.length_replicate]
            exact Nat.lt_of_lt_of_le hi (Nat.le_trans la (by decide))
          refine ⟨_, hD4, i63, same_mut (sm3.trans s4) nD, ?_⟩
          rw [upd_same, List.replicate_succ', List.map_append]
          rfl
        · rintro H2 ⟨sm, hD⟩
          refine ⟨D, _, rfl, SqL.of hD, ?_⟩
          rw [ands_all]
          exact k _ (s1.trans sm)
      | tuple ds =>
        obtain ⟨a, xs, rfl, na, ha, la, ra⟩ := hx1
        obtain ⟨b, ys, rfl, nb, hb, lb, rb⟩ := hy1
        have tx : TyX K H1 (.ref a) (.type "tuple") := .base (.tup ha)
        have ty : TyX K H1 (.ref b) (.type "tuple") := .base (.tup hb)
        refine ⟨_, t, _, _, _, true, rfl, ht, cls, ty, kit_lt_tuple, true, rfl, ?_⟩
        refine iteT ?_
        refine ⟨_, rfl, _, _, _, _, false, rfl, .ty _, tx, kit_ty (by decide +kernel), _, rfl, _, _, _, _, false, rfl, .ty _, ty, kit_ty (by decide +kernel), rfl, _, rfl, ?_⟩
        refine iteF ?_
        refine ⟨_, rfl, _, _, _, _, true, rfl, .ty _, tx, kit_ty (by decide +kernel), _, rfl, _, _, _, _, true, rfl, .ty _, ty, kit_ty (by decide +kernel), rfl, _, rfl, ?_⟩
        refine iteF ?_
        have ln : xs.length = ys.length := (Paired.length ra).trans (Paired.length rb).symm
        refine ⟨_, rfl, a, xs, rfl, .inr (SqT.of ha), _, rfl, b, ys, rfl, .inr (SqT.of hb), rfl, _, rfl, ?_⟩
        rw [if_pos (decide_eq_true (by rw [ln]))]
        refine ⟨_, rfl, _, rfl, a, b, xs, ys, rfl, .inr ⟨SqT.of ha, SqT.of hb, fun D nD => lc_it (walk_zipT (n := xs.length) (by omega)) (fun i H' => Same H1 H' ∧ H' D = some (.lst ((List.replicate i true).map V.bl))) ⟨same_upd nD, upd_same⟩ (fun i H' _ q => ⟨same_seqT q.1 (SqT.of ha), same_seqT q.1 (SqT.of hb)⟩) ?_ ?_⟩⟩
        · rintro i z H2 H3 hi ⟨sm, hD⟩ ⟨T2, u, v, rfl, nT, rfl, gu, gv⟩
          obtain ⟨du, e1, r1⟩ := paired_get ra gu
          obtain ⟨dv, e2, r2⟩ := paired_get rb gv
          have e3 : du = dv := Option.some.inj (e1.symm.trans e2)
          subst e3
          have sm3 : Same H1 (upd H2 T2 (.tup [u, v])) := sm.trans (same_upd nT)
          refine ⟨T2, _, rfl, SqT.of upd_same, rfl, _, _, rfl, _, _, rfl, rfl, rfl, _, rfl, _, rfl, p, u, v, du, rfl, r1.same sm3, r2.same sm3, fun H4 s4 => ?_⟩
          have hD4 := s4 _ _ ((same_upd nT) _ _ hD)
          have i63 : ((List.replicate i true).map V.bl).length < sizeLine := by
            rw [List.length_map, List.length_replicate]
            exact Nat.lt_of_lt_of_le hi (Nat.le_trans la (by decide))
          refine ⟨_, hD4, i63, same_mut (sm3.trans s4) nD, ?_⟩
          rw [upd_same, List.replicate_succ', List.map_append]
          rfl
        · rintro H2 ⟨sm, hD⟩
          refine ⟨D, _, rfl, SqL.of hD, ?_⟩
          rw [ands_all]
          exact k _ (s1.trans sm)
      | none =>
        have ex : x = .non := hx1
        have ey : y = .non := hy1
        subst ex ey
        refine ⟨_, t, _, _, _, false, rfl, ht, cls, .base (.non), kit_lt_no (by decide +kernel) (by decide +kernel), false, rfl, ?_⟩
        refine iteF ?_
        refine ⟨_, rfl, rfl, true, rfl, ?_⟩
        refine iteT ?_
        refine ⟨_, rfl, rfl, true, rfl, ?_⟩
        refine iteT ?_
        exact ⟨_, rfl, rfl, k _ s1⟩
      | bool b =>
        have ex : x = .bl b := hx1
        have ey : y = .bl b := hy1
        subst ex ey
        refine ⟨_, t, _, _, _, false, rfl, ht, cls, .base (.bl _), kit_lt_no (by decide +kernel) (by decide +kernel), false, rfl, ?_⟩
        refine iteF ?_
        refine ⟨_, rfl, rfl, false, rfl, ?_⟩
        refine iteF ?_
        refine ⟨_, rfl, rfl, false, rfl, ?_⟩
        refine iteF ?_
        refine ⟨_, rfl, _, _, _, _, true, rfl, .ty _, .base (.bl _), kit_ty (by decide +kernel), _, rfl, _, _, _, _, true, rfl, .ty _, .base (.bl _), kit_ty (by decide +kernel), rfl, _, rfl, ?_⟩
        refine iteF ?_
        refine ⟨_, rfl, _, _, _, _, true, rfl, .ty _, .base (.bl _), kit_ty (by decide +kernel), _, rfl, _, _, _, _, true, rfl, .ty _, .base (.bl _), kit_ty (by decide +kernel), rfl, _, rfl, ?_⟩
        refine iteF ?_
        refine ⟨_, rfl, _, _, _, _, false, rfl, .ty _, .base (.bl _), kit_ty (by decide +kernel), _, rfl, _, _, _, _, false, rfl, .ty _, .base (.bl _), kit_ty (by decide +kernel), rfl, _, rfl, ?_⟩
        refine iteT ?_
        refine ⟨_, rfl, _, rfl, rfl, ?_⟩
        rw [decide_eq_true rfl]
        exact k _ s1
      | int i =>
        have ex : x = .int i := hx1
        have ey : y = .int i := hy1
        subst ex ey
        refine ⟨_, t, _, _, _, false, rfl, ht, cls, .base (.int _), kit_lt_no (by decide +kernel) (by decide +kernel), false, rfl, ?_⟩
        refine iteF ?_
        refine ⟨_, rfl, rfl, false, rfl, ?_⟩
        refine iteF ?_
        refine ⟨_, rfl, rfl, false, rfl, ?_⟩
        refine iteF ?_
        refine ⟨_, rfl, _, _, _, _, false, rfl, .ty _, .base (.int _), kit_ty (by decide +kernel), _, rfl, _, _, _, _, false, rfl, .ty _, .base (.int _), kit_ty (by decide +kernel), rfl, _, rfl, ?_⟩
        refine iteF ?_
        refine ⟨_, rfl, _, _, _, _, true, rfl, .ty _, .base (.int _), kit_ty (by decide +kernel), _, rfl, _, _, _, _, true, rfl, .ty _, .base (.int _), kit_ty (by decide +kernel), rfl, _, rfl, ?_⟩
        refine iteF ?_
        refine ⟨_, rfl, _, _, _, _, false, rfl, .ty _, .base (.int _), kit_ty (by decide +kernel), _, rfl, _, _, _, _, false, rfl, .ty _, .base (.int _), kit_ty (by decide +kernel), rfl, _, rfl, ?_⟩
        refine iteT ?_
        refine ⟨_, rfl, _, rfl, rfl, ?_⟩
        rw [decide_eq_true rfl]
        exact k _ s1
      | str z =>
        have ex : x = .str z := hx1
        have ey : y = .str z := hy1
        subst ex ey
        refine ⟨_, t, _, _, _, false, rfl, ht, cls, .base (.str _), kit_lt_no (by decide +kernel) (by decide +kernel), false, rfl, ?_⟩
        refine iteF ?_
        refine ⟨_, rfl, rfl, false, rfl, ?_⟩
        refine iteF ?_
        refine ⟨_, rfl, rfl, false, rfl, ?_⟩
        refine iteF ?_
        refine ⟨_, rfl, _, _, _, _, false, rfl, .ty _, .base (.str _), kit_ty (by decide +kernel), _, rfl, _, _, _, _, false, rfl, .ty _, .base (.str _), kit_ty (by decide +kernel), rfl, _, rfl, ?_⟩
        refine iteF ?_
        refine ⟨_, rfl, _, _, _, _, false, rfl, .ty _, .base (.str _), kit_ty (by decide +kernel), _, rfl, _, _, _, _, false, rfl, .ty _, .base (.str _), kit_ty (by decide +kernel), rfl, _, rfl, ?_⟩
        refine iteF ?_
        refine ⟨_, rfl, _, _, _, _, true, rfl, .ty _, .base (.str _), kit_ty (by decide +kernel), _, rfl, _, _, _, _, true, rfl, .ty _, .base (.str _), kit_ty (by decide +kernel), rfl, _, rfl, ?_⟩
        refine iteT ?_
        refine ⟨_, rfl, _, rfl, rfl, ?_⟩
        rw [decide_eq_true rfl]
        exact k _ s1
      | dict z => exact hx1.elim

end

/-! ### the constructors of the errors -/
section
variable {P : Program} {w : World} {K : PySem.W.Frag} {mg : Str → Option Value} {base : Heap}
theorem scX1 : FnScope ["self", "given"] ["self", "given"] (defScope sX1) := ⟨rfl, rfl, rfl, by decide +kernel, rfl, by decide +kernel, by decide +kernel⟩
theorem ok_x1 {C f : Addr} {fd : FuncData} {k : Nat} (F : Fun K "__init__" "InvalidNumber.__init__" sX1 f fd) (S : Ex.OexS K C) (n1 : PySem.W.findIn K (.ref C) "given" = some none) (n2 : PySem.W.findIn K (.ref C) "code" = some none) : FnOk P w K mg base CX0 (k + 1) f fd ["self", "given"] (Ex.spX C "given" "InvalidNumber") := by
  refine F.ok scX1 (fun vs H Q E h => ?_) (fun cdv A outer s H vs Q E hr h => ?_)
  · obtain ⟨a, v, rfl, _⟩ := h
    rfl
  · obtain ⟨a, v, rfl, ha, k⟩ := h
    refine ⟨_, PSs.nox (pss_cons (Ex.ps_xst (pv 0) (pv 1)) (pss_one (Ex.ps_xst (pv 0) pe_str))), ?_⟩
    refine ⟨_, rfl, _, rfl, a, C, rfl, S, n1, .inl ⟨ha, fun dx nd ne => ⟨_, rfl, a, C, rfl, S, n2, .inr ⟨dx, _, upd_same, (upd_ne ne).trans upd_same, by show 1 ≤ 900; decide, ?_⟩⟩⟩⟩
    exact k dx _ nd ne (fun b o nb hb => (upd_ne (ne_of_none hb nd)).trans ((upd_ne nb).trans ((upd_ne (ne_of_none hb nd)).trans hb))) ((upd_ne ne.symm).trans upd_same) upd_same
theorem scX2 : FnScope ["self", "given"] ["self", "given"] (defScope sX2) := ⟨rfl, rfl, rfl, by decide +kernel, rfl, by decide +kernel, by decide +kernel⟩
theorem ok_x2 {C f : Addr} {fd : FuncData} {k : Nat} (F : Fun K "__init__" "InvalidName.__init__" sX2 f fd) (S : Ex.OexS K C) (n1 : PySem.W.findIn K (.ref C) "given" = some none) (n2 : PySem.W.findIn K (.ref C) "code" = some none) : FnOk P w K mg base CX0 (k + 1) f fd ["self", "given"] (Ex.spX C "given" "InvalidName") := by
  refine F.ok scX2 (fun vs H Q E h => ?_) (fun cdv A outer s H vs Q E hr h => ?_)
  · obtain ⟨a, v, rfl, _⟩ := h
    rfl
  · obtain ⟨a, v, rfl, ha, k⟩ := h
    refine ⟨_, PSs.nox (pss_cons (Ex.ps_xst (pv 0) (pv 1)) (pss_one (Ex.ps_xst (pv 0) pe_str))), ?_⟩
    refine ⟨_, rfl, _, rfl, a, C, rfl, S, n1, .inl ⟨ha, fun dx nd ne => ⟨_, rfl, a, C, rfl, S, n2, .inr ⟨dx, _, upd_same, (upd_ne ne).trans upd_same, by show 1 ≤ 900; decide, ?_⟩⟩⟩⟩
    exact k dx _ nd ne (fun b o nb hb => (upd_ne (ne_of_none hb nd)).trans ((upd_ne nb).trans ((upd_ne (ne_of_none hb nd)).trans hb))) ((upd_ne ne.symm).trans upd_same) upd_same
theorem scX3 : FnScope ["self", "at"] ["self", "at"] (defScope sX3) := ⟨rfl, rfl, rfl, by decide +kernel, rfl, by decide +kernel, by decide +kernel⟩
theorem ok_x3 {C f : Addr} {fd : FuncData} {k : Nat} (F : Fun K "__init__" "InvalidSpan.__init__" sX3 f fd) (S : Ex.OexS K C) (n1 : PySem.W.findIn K (.ref C) "at" = some none) (n2 : PySem.W.findIn K (.ref C) "code" = some none) : FnOk P w K mg base CX0 (k + 1) f fd ["self", "at"] (Ex.spX C "at" "InvalidSpan") := by
  refine F.ok scX3 (fun vs H Q E h => ?_) (fun cdv A outer s H vs Q E hr h => ?_)
  · obtain ⟨a, v, rfl, _⟩ := h
    rfl
  · obtain ⟨a, v, rfl, ha, k⟩ := h
    refine ⟨_, PSs.nox (pss_cons (Ex.ps_xst (pv 0) (pv 1)) (pss_one (Ex.ps_xst (pv 0) pe_str))), ?_⟩
    refine ⟨_, rfl, _, rfl, a, C, rfl, S, n1, .inl ⟨ha, fun dx nd ne => ⟨_, rfl, a, C, rfl, S, n2, .inr ⟨dx, _, upd_same, (upd_ne ne).trans upd_same, by show 1 ≤ 900; decide, ?_⟩⟩⟩⟩
    exact k dx _ nd ne (fun b o nb hb => (upd_ne (ne_of_none hb nd)).trans ((upd_ne nb).trans ((upd_ne (ne_of_none hb nd)).trans hb))) ((upd_ne ne.symm).trans upd_same) upd_same
theorem scX4 : FnScope ["self", "given"] ["self", "given"] (defScope sX4) := ⟨rfl, rfl, rfl, by decide +kernel, rfl, by decide +kernel, by decide +kernel⟩
theorem ok_x4 {C f : Addr} {fd : FuncData} {k : Nat} (F : Fun K "__init__" "InvalidText.__init__" sX4 f fd) (S : Ex.OexS K C) (n1 : PySem.W.findIn K (.ref C) "given" = some none) (n2 : PySem.W.findIn K (.ref C) "code" = some none) : FnOk P w K mg base CX0 (k + 1) f fd ["self", "given"] (Ex.spX C "given" "InvalidText") := by
  refine F.ok scX4 (fun vs H Q E h => ?_) (fun cdv A outer s H vs Q E hr h => ?_)
  · obtain ⟨a, v, rfl, _⟩ := h
    rfl
  · obtain ⟨a, v, rfl, ha, k⟩ := h
    refine ⟨_, PSs.nox (pss_cons (Ex.ps_xst (pv 0) (pv 1)) (pss_one (Ex.ps_xst (pv 0) pe_str))), ?_⟩
    refine ⟨_, rfl, _, rfl, a, C, rfl, S, n1, .inl ⟨ha, fun dx nd ne => ⟨_, rfl, a, C, rfl, S, n2, .inr ⟨dx, _, upd_same, (upd_ne ne).trans upd_same, by show 1 ≤ 900; decide, ?_⟩⟩⟩⟩
    exact k dx _ nd ne (fun b o nb hb => (upd_ne (ne_of_none hb nd)).trans ((upd_ne nb).trans ((upd_ne (ne_of_none hb nd)).trans hb))) ((upd_ne ne.symm).trans upd_same) upd_same
theorem scX5 : FnScope ["self", "at"] ["self", "at"] (defScope sX5) := ⟨rfl, rfl, rfl, by decide +kernel, rfl, by decide +kernel, by decide +kernel⟩
theorem ok_x5 {C f : Addr} {fd : FuncData} {k : Nat} (F : Fun K "__init__" "InvalidSeat.__init__" sX5 f fd) (S : Ex.OexS K C) (n1 : PySem.W.findIn K (.ref C) "at" = some none) (n2 : PySem.W.findIn K (.ref C) "code" = some none) : FnOk P w K mg base CX0 (k + 1) f fd ["self", "at"] (Ex.spX C "at" "InvalidSeat") := by
  refine F.ok scX5 (fun vs H Q E h => ?_) (fun cdv A outer s H vs Q E hr h => ?_)
  · obtain ⟨a, v, rfl, _⟩ := h
    rfl
  · obtain ⟨a, v, rfl, ha, k⟩ := h
    refine ⟨_, PSs.nox (pss_cons (Ex.ps_xst (pv 0) (pv 1)) (pss_one (Ex.ps_xst (pv 0) pe_str))), ?_⟩
    refine ⟨_, rfl, _, rfl, a, C, rfl, S, n1, .inl ⟨ha, fun dx nd ne => ⟨_, rfl, a, C, rfl, S, n2, .inr ⟨dx, _, upd_same, (upd_ne ne).trans upd_same, by show 1 ≤ 900; decide, ?_⟩⟩⟩⟩
    exact k dx _ nd ne (fun b o nb hb => (upd_ne (ne_of_none hb nd)).trans ((upd_ne nb).trans ((upd_ne (ne_of_none hb nd)).trans hb))) ((upd_ne ne.symm).trans upd_same) upd_same
theorem scX6 : FnScope ["self", "at"] ["self", "at"] (defScope sX6) := ⟨rfl, rfl, rfl, by decide +kernel, rfl, by decide +kernel, by decide +kernel⟩
theorem ok_x6 {C f : Addr} {fd : FuncData} {k : Nat} (F : Fun K "__init__" "InvalidRecord.__init__" sX6 f fd) (S : Ex.OexS K C) (n1 : PySem.W.findIn K (.ref C) "at" = some none) (n2 : PySem.W.findIn K (.ref C) "code" = some none) : FnOk P w K mg base CX0 (k + 1) f fd ["self", "at"] (Ex.spX C "at" "InvalidRecord") := by
  refine F.ok scX6 (fun vs H Q E h => ?_) (fun cdv A outer s H vs Q E hr h => ?_)
  · obtain ⟨a, v, rfl, _⟩ := h
    rfl
  · obtain ⟨a, v, rfl, ha, k⟩ := h
    refine ⟨_, PSs.nox (pss_cons (Ex.ps_xst (pv 0) (pv 1)) (pss_one (Ex.ps_xst (pv 0) pe_str))), ?_⟩
    refine ⟨_, rfl, _, rfl, a, C, rfl, S, n1, .inl ⟨ha, fun dx nd ne => ⟨_, rfl, a, C, rfl, S, n2, .inr ⟨dx, _, upd_same, (upd_ne ne).trans upd_same, by show 1 ≤ 900; decide, ?_⟩⟩⟩⟩
    exact k dx _ nd ne (fun b o nb hb => (upd_ne (ne_of_none hb nd)).trans ((upd_ne nb).trans ((upd_ne (ne_of_none hb nd)).trans hb))) ((upd_ne ne.symm).trans upd_same) upd_same
theorem scX7 : FnScope ["self", "at"] ["self", "at"] (defScope sX7) := ⟨rfl, rfl, rfl, by decide +kernel, rfl, by decide +kernel, by decide +kernel⟩
theorem ok_x7 {C f : Addr} {fd : FuncData} {k : Nat} (F : Fun K "__init__" "Clash.__init__" sX7 f fd) (S : Ex.OexS K C) (n1 : PySem.W.findIn K (.ref C) "at" = some none) (n2 : PySem.W.findIn K (.ref C) "code" = some none) : FnOk P w K mg base CX0 (k + 1) f fd ["self", "at"] (Ex.spX C "at" "Clash") := by
  refine F.ok scX7 (fun vs H Q E h => ?_) (fun cdv A outer s H vs Q E hr h => ?_)
  · obtain ⟨a, v, rfl, _⟩ := h
    rfl
  · obtain ⟨a, v, rfl, ha, k⟩ := h
    refine ⟨_, PSs.nox (pss_cons (Ex.ps_xst (pv 0) (pv 1)) (pss_one (Ex.ps_xst (pv 0) pe_str))), ?_⟩
    refine ⟨_, rfl, _, rfl, a, C, rfl, S, n1, .inl ⟨ha, fun dx nd ne => ⟨_, rfl, a, C, rfl, S, n2, .inr ⟨dx, _, upd_same, (upd_ne ne).trans upd_same, by show 1 ≤ 900; decide, ?_⟩⟩⟩⟩
    exact k dx _ nd ne (fun b o nb hb => (upd_ne (ne_of_none hb nd)).trans ((upd_ne nb).trans ((upd_ne (ne_of_none hb nd)).trans hb))) ((upd_ne ne.symm).trans upd_same) upd_same
theorem scX8 : FnScope ["self", "name"] ["self", "name"] (defScope sX8) := ⟨rfl, rfl, rfl, by decide +kernel, rfl, by decide +kernel, by decide +kernel⟩
theorem ok_x8 {C f : Addr} {fd : FuncData} {k : Nat} (F : Fun K "__init__" "DuplicateName.__init__" sX8 f fd) (S : Ex.OexS K C) (n1 : PySem.W.findIn K (.ref C) "name" = some none) (n2 : PySem.W.findIn K (.ref C) "code" = some none) : FnOk P w K mg base CX0 (k + 1) f fd ["self", "name"] (Ex.spX C "name" "DuplicateName") := by
  refine F.ok scX8 (fun vs H Q E h => ?_) (fun cdv A outer s H vs Q E hr h => ?_)
  · obtain ⟨a, v, rfl, _⟩ := h
    rfl
  · obtain ⟨a, v, rfl, ha, k⟩ := h
    refine ⟨_, PSs.nox (pss_cons (Ex.ps_xst (pv 0) (pv 1)) (pss_one (Ex.ps_xst (pv 0) pe_str))), ?_⟩
    refine ⟨_, rfl, _, rfl, a, C, rfl, S, n1, .inl ⟨ha, fun dx nd ne => ⟨_, rfl, a, C, rfl, S, n2, .inr ⟨dx, _, upd_same, (upd_ne ne).trans upd_same, by show 1 ≤ 900; decide, ?_⟩⟩⟩⟩
    exact k dx _ nd ne (fun b o nb hb => (upd_ne (ne_of_none hb nd)).trans ((upd_ne nb).trans ((upd_ne (ne_of_none hb nd)).trans hb))) ((upd_ne ne.symm).trans upd_same) upd_same
theorem scX9 : FnScope ["self", "given"] ["self", "given"] (defScope sX9) := ⟨rfl, rfl, rfl, by decide +kernel, rfl, by decide +kernel, by decide +kernel⟩
theorem ok_x9 {C f : Addr} {fd : FuncData} {k : Nat} (F : Fun K "__init__" "DuplicateNumber.__init__" sX9 f fd) (S : Ex.OexS K C) (n1 : PySem.W.findIn K (.ref C) "given" = some none) (n2 : PySem.W.findIn K (.ref C) "code" = some none) : FnOk P w K mg base CX0 (k + 1) f fd ["self", "given"] (Ex.spX C "given" "DuplicateNumber") := by
  refine F.ok scX9 (fun vs H Q E h => ?_) (fun cdv A outer s H vs Q E hr h => ?_)
  · obtain ⟨a, v, rfl, _⟩ := h
    rfl
  · obtain ⟨a, v, rfl, ha, k⟩ := h
    refine ⟨_, PSs.nox (pss_cons (Ex.ps_xst (pv 0) (pv 1)) (pss_one (Ex.ps_xst (pv 0) pe_str))), ?_⟩
    refine ⟨_, rfl, _, rfl, a, C, rfl, S, n1, .inl ⟨ha, fun dx nd ne => ⟨_, rfl, a, C, rfl, S, n2, .inr ⟨dx, _, upd_same, (upd_ne ne).trans upd_same, by show 1 ≤ 900; decide, ?_⟩⟩⟩⟩
    exact k dx _ nd ne (fun b o nb hb => (upd_ne (ne_of_none hb nd)).trans ((upd_ne nb).trans ((upd_ne (ne_of_none hb nd)).trans hb))) ((upd_ne ne.symm).trans upd_same) upd_same
theorem scX10 : FnScope ["self", "most"] ["self", "most"] (defScope sX10) := ⟨rfl, rfl, rfl, by decide +kernel, rfl, by decide +kernel, by decide +kernel⟩
theorem ok_x10 {C f : Addr} {fd : FuncData} {k : Nat} (F : Fun K "__init__" "TooMany.__init__" sX10 f fd) (S : Ex.OexS K C) (n1 : PySem.W.findIn K (.ref C) "most" = some none) (n2 : PySem.W.findIn K (.ref C) "code" = some none) : FnOk P w K mg base CX0 (k + 1) f fd ["self", "most"] (Ex.spX C "most" "TooMany") := by
  refine F.ok scX10 (fun vs H Q E h => ?_) (fun cdv A outer s H vs Q E hr h => ?_)
  · obtain ⟨a, v, rfl, _⟩ := h
    rfl
  · obtain ⟨a, v, rfl, ha, k⟩ := h
    refine ⟨_, PSs.nox (pss_cons (Ex.ps_xst (pv 0) (pv 1)) (pss_one (Ex.ps_xst (pv 0) pe_str))), ?_⟩
    refine ⟨_, rfl, _, rfl, a, C, rfl, S, n1, .inl ⟨ha, fun dx nd ne => ⟨_, rfl, a, C, rfl, S, n2, .inr ⟨dx, _, upd_same, (upd_ne ne).trans upd_same, by show 1 ≤ 900; decide, ?_⟩⟩⟩⟩
    exact k dx _ nd ne (fun b o nb hb => (upd_ne (ne_of_none hb nd)).trans ((upd_ne nb).trans ((upd_ne (ne_of_none hb nd)).trans hb))) ((upd_ne ne.symm).trans upd_same) upd_same
theorem scX11 : FnScope ["self", "limit"] ["self", "limit"] (defScope sX11) := ⟨rfl, rfl, rfl, by decide +kernel, rfl, by decide +kernel, by decide +kernel⟩
theorem ok_x11 {C f : Addr} {fd : FuncData} {k : Nat} (F : Fun K "__init__" "Full.__init__" sX11 f fd) (S : Ex.OexS K C) (n1 : PySem.W.findIn K (.ref C) "limit" = some none) (n2 : PySem.W.findIn K (.ref C) "code" = some none) : FnOk P w K mg base CX0 (k + 1) f fd ["self", "limit"] (Ex.spX C "limit" "Full") := by
  refine F.ok scX11 (fun vs H Q E h => ?_) (fun cdv A outer s H vs Q E hr h => ?_)
  · obtain ⟨a, v, rfl, _⟩ := h
    rfl
  · obtain ⟨a, v, rfl, ha, k⟩ := h
    refine ⟨_, PSs.nox (pss_cons (Ex.ps_xst (pv 0) (pv 1)) (pss_one (Ex.ps_xst (pv 0) pe_str))), ?_⟩
    refine ⟨_, rfl, _, rfl, a, C, rfl, S, n1, .inl ⟨ha, fun dx nd ne => ⟨_, rfl, a, C, rfl, S, n2, .inr ⟨dx, _, upd_same, (upd_ne ne).trans upd_same, by show 1 ≤ 900; decide, ?_⟩⟩⟩⟩
    exact k dx _ nd ne (fun b o nb hb => (upd_ne (ne_of_none hb nd)).trans ((upd_ne nb).trans ((upd_ne (ne_of_none hb nd)).trans hb))) ((upd_ne ne.symm).trans upd_same) upd_same
theorem scX12 : FnScope ["self", "name"] ["self", "name"] (defScope sX12) := ⟨rfl, rfl, rfl, by decide +kernel, rfl, by decide +kernel, by decide +kernel⟩
theorem ok_x12 {C f : Addr} {fd : FuncData} {k : Nat} (F : Fun K "__init__" "NotAThing.__init__" sX12 f fd) (S : Ex.OexS K C) (n1 : PySem.W.findIn K (.ref C) "name" = some none) (n2 : PySem.W.findIn K (.ref C) "code" = some none) : FnOk P w K mg base CX0 (k + 1) f fd ["self", "name"] (Ex.spX C "name" "NotAThing") := by
  refine F.ok scX12 (fun vs H Q E h => ?_) (fun cdv A outer s H vs Q E hr h => ?_)
  · obtain ⟨a, v, rfl, _⟩ := h
    rfl
  · obtain ⟨a, v, rfl, ha, k⟩ := h
    refine ⟨_, PSs.nox (pss_cons (Ex.ps_xst (pv 0) (pv 1)) (pss_one (Ex.ps_xst (pv 0) pe_str))), ?_⟩
    refine ⟨_, rfl, _, rfl, a, C, rfl, S, n1, .inl ⟨ha, fun dx nd ne => ⟨_, rfl, a, C, rfl, S, n2, .inr ⟨dx, _, upd_same, (upd_ne ne).trans upd_same, by show 1 ≤ 900; decide, ?_⟩⟩⟩⟩
    exact k dx _ nd ne (fun b o nb hb => (upd_ne (ne_of_none hb nd)).trans ((upd_ne nb).trans ((upd_ne (ne_of_none hb nd)).trans hb))) ((upd_ne ne.symm).trans upd_same) upd_same
theorem scX13 : FnScope ["self", "at"] ["self", "at"] (defScope sX13) := ⟨rfl, rfl, rfl, by decide +kernel, rfl, by decide +kernel, by decide +kernel⟩
theorem ok_x13 {C f : Addr} {fd : FuncData} {k : Nat} (F : Fun K "__init__" "Contradiction.__init__" sX13 f fd) (S : Ex.OexS K C) (n1 : PySem.W.findIn K (.ref C) "at" = some none) (n2 : PySem.W.findIn K (.ref C) "code" = some none) : FnOk P w K mg base CX0 (k + 1) f fd ["self", "at"] (Ex.spX C "at" "Contradiction") := by
  refine F.ok scX13 (fun vs H Q E h => ?_) (fun cdv A outer s H vs Q E hr h => ?_)
  · obtain ⟨a, v, rfl, _⟩ := h
    rfl
  · obtain ⟨a, v, rfl, ha, k⟩ := h
    refine ⟨_, PSs.nox (pss_cons (Ex.ps_xst (pv 0) (pv 1)) (pss_one (Ex.ps_xst (pv 0) pe_str))), ?_⟩
    refine ⟨_, rfl, _, rfl, a, C, rfl, S, n1, .inl ⟨ha, fun dx nd ne => ⟨_, rfl, a, C, rfl, S, n2, .inr ⟨dx, _, upd_same, (upd_ne ne).trans upd_same, by show 1 ≤ 900; decide, ?_⟩⟩⟩⟩
    exact k dx _ nd ne (fun b o nb hb => (upd_ne (ne_of_none hb nd)).trans ((upd_ne nb).trans ((upd_ne (ne_of_none hb nd)).trans hb))) ((upd_ne ne.symm).trans upd_same) upd_same
theorem scX14 : FnScope ["self", "given"] ["self", "given"] (defScope sX14) := ⟨rfl, rfl, rfl, by decide +kernel, rfl, by decide +kernel, by decide +kernel⟩
theorem ok_x14 {C f : Addr} {fd : FuncData} {k : Nat} (F : Fun K "__init__" "InvalidRule.__init__" sX14 f fd) (S : Ex.OexS K C) (n1 : PySem.W.findIn K (.ref C) "given" = some none) (n2 : PySem.W.findIn K (.ref C) "code" = some none) : FnOk P w K mg base CX0 (k + 1) f fd ["self", "given"] (Ex.spX C "given" "InvalidRule") := by
  refine F.ok scX14 (fun vs H Q E h => ?_) (fun cdv A outer s H vs Q E hr h => ?_)
  · obtain ⟨a, v, rfl, _⟩ := h
    rfl
  · obtain ⟨a, v, rfl, ha, k⟩ := h
    refine ⟨_, PSs.nox (pss_cons (Ex.ps_xst (pv 0) (pv 1)) (pss_one (Ex.ps_xst (pv 0) pe_str))), ?_⟩
    refine ⟨_, rfl, _, rfl, a, C, rfl, S, n1, .inl ⟨ha, fun dx nd ne => ⟨_, rfl, a, C, rfl, S, n2, .inr ⟨dx, _, upd_same, (upd_ne ne).trans upd_same, by show 1 ≤ 900; decide, ?_⟩⟩⟩⟩
    exact k dx _ nd ne (fun b o nb hb => (upd_ne (ne_of_none hb nd)).trans ((upd_ne nb).trans ((upd_ne (ne_of_none hb nd)).trans hb))) ((upd_ne ne.symm).trans upd_same) upd_same
theorem scX15 : FnScope ["self", "at"] ["self", "at"] (defScope sX15) := ⟨rfl, rfl, rfl, by decide +kernel, rfl, by decide +kernel, by decide +kernel⟩
theorem ok_x15 {C f : Addr} {fd : FuncData} {k : Nat} (F : Fun K "__init__" "InvalidCommand.__init__" sX15 f fd) (S : Ex.OexS K C) (n1 : PySem.W.findIn K (.ref C) "at" = some none) (n2 : PySem.W.findIn K (.ref C) "code" = some none) : FnOk P w K mg base CX0 (k + 1) f fd ["self", "at"] (Ex.spX C "at" "InvalidCommand") := by
  refine F.ok scX15 (fun vs H Q E h => ?_) (fun cdv A outer s H vs Q E hr h => ?_)
  · obtain ⟨a, v, rfl, _⟩ := h
    rfl
  · obtain ⟨a, v, rfl, ha, k⟩ := h
    refine ⟨_, PSs.nox (pss_cons (Ex.ps_xst (pv 0) (pv 1)) (pss_one (Ex.ps_xst (pv 0) pe_str))), ?_⟩
    refine ⟨_, rfl, _, rfl, a, C, rfl, S, n1, .inl ⟨ha, fun dx nd ne => ⟨_, rfl, a, C, rfl, S, n2, .inr ⟨dx, _, upd_same, (upd_ne ne).trans upd_same, by show 1 ≤ 900; decide, ?_⟩⟩⟩⟩
    exact k dx _ nd ne (fun b o nb hb => (upd_ne (ne_of_none hb nd)).trans ((upd_ne nb).trans ((upd_ne (ne_of_none hb nd)).trans hb))) ((upd_ne ne.symm).trans upd_same) upd_same
theorem scX16 : FnScope ["self", "given"] ["self", "given"] (defScope sX16) := ⟨rfl, rfl, rfl, by decide +kernel, rfl, by decide +kernel, by decide +kernel⟩
theorem ok_x16 {C f : Addr} {fd : FuncData} {k : Nat} (F : Fun K "__init__" "InvalidLimit.__init__" sX16 f fd) (S : Ex.OexS K C) (n1 : PySem.W.findIn K (.ref C) "given" = some none) (n2 : PySem.W.findIn K (.ref C) "code" = some none) : FnOk P w K mg base CX0 (k + 1) f fd ["self", "given"] (Ex.spX C "given" "InvalidLimit") := by
  refine F.ok scX16 (fun vs H Q E h => ?_) (fun cdv A outer s H vs Q E hr h => ?_)
  · obtain ⟨a, v, rfl, _⟩ := h
    rfl
  · obtain ⟨a, v, rfl, ha, k⟩ := h
    refine ⟨_, PSs.nox (pss_cons (Ex.ps_xst (pv 0) (pv 1)) (pss_one (Ex.ps_xst (pv 0) pe_str))), ?_⟩
    refine ⟨_, rfl, _, rfl, a, C, rfl, S, n1, .inl ⟨ha, fun dx nd ne => ⟨_, rfl, a, C, rfl, S, n2, .inr ⟨dx, _, upd_same, (upd_ne ne).trans upd_same, by show 1 ≤ 900; decide, ?_⟩⟩⟩⟩
    exact k dx _ nd ne (fun b o nb hb => (upd_ne (ne_of_none hb nd)).trans ((upd_ne nb).trans ((upd_ne (ne_of_none hb nd)).trans hb))) ((upd_ne ne.symm).trans upd_same) upd_same
theorem scX17 : FnScope ["self", "line"] ["self", "line"] (defScope sX17) := ⟨rfl, rfl, rfl, by decide +kernel, rfl, by decide +kernel, by decide +kernel⟩
theorem ok_x17 {C f : Addr} {fd : FuncData} {k : Nat} (F : Fun K "__init__" "InvalidPage.__init__" sX17 f fd) (S : Ex.OexS K C) (n1 : PySem.W.findIn K (.ref C) "line" = some none) (n2 : PySem.W.findIn K (.ref C) "code" = some none) : FnOk P w K mg base CX0 (k + 1) f fd ["self", "line"] (Ex.spX C "line" "InvalidPage") := by
  refine F.ok scX17 (fun vs H Q E h => ?_) (fun cdv A outer s H vs Q E hr h => ?_)
  · obtain ⟨a, v, rfl, _⟩ := h
    rfl
  · obtain ⟨a, v, rfl, ha, k⟩ := h
    refine ⟨_, PSs.nox (pss_cons (Ex.ps_xst (pv 0) (pv 1)) (pss_one (Ex.ps_xst (pv 0) pe_str))), ?_⟩
    refine ⟨_, rfl, _, rfl, a, C, rfl, S, n1, .inl ⟨ha, fun dx nd ne => ⟨_, rfl, a, C, rfl, S, n2, .inr ⟨dx, _, upd_same, (upd_ne ne).trans upd_same, by show 1 ≤ 900; decide, ?_⟩⟩⟩⟩
    exact k dx _ nd ne (fun b o nb hb => (upd_ne (ne_of_none hb nd)).trans ((upd_ne nb).trans ((upd_ne (ne_of_none hb nd)).trans hb))) ((upd_ne ne.symm).trans upd_same) upd_same
theorem scX18 : FnScope ["self", "name"] ["self", "name"] (defScope sX18) := ⟨rfl, rfl, rfl, by decide +kernel, rfl, by decide +kernel, by decide +kernel⟩
theorem ok_x18 {C f : Addr} {fd : FuncData} {k : Nat} (F : Fun K "__init__" "UnknownName.__init__" sX18 f fd) (S : Ex.OexS K C) (n1 : PySem.W.findIn K (.ref C) "name" = some none) (n2 : PySem.W.findIn K (.ref C) "code" = some none) : FnOk P w K mg base CX0 (k + 1) f fd ["self", "name"] (Ex.spX C "name" "UnknownName") := by
  refine F.ok scX18 (fun vs H Q E h => ?_) (fun cdv A outer s H vs Q E hr h => ?_)
  · obtain ⟨a, v, rfl, _⟩ := h
    rfl
  · obtain ⟨a, v, rfl, ha, k⟩ := h
    refine ⟨_, PSs.nox (pss_cons (Ex.ps_xst (pv 0) (pv 1)) (pss_one (Ex.ps_xst (pv 0) pe_str))), ?_⟩
    refine ⟨_, rfl, _, rfl, a, C, rfl, S, n1, .inl ⟨ha, fun dx nd ne => ⟨_, rfl, a, C, rfl, S, n2, .inr ⟨dx, _, upd_same, (upd_ne ne).trans upd_same, by show 1 ≤ 900; decide, ?_⟩⟩⟩⟩
    exact k dx _ nd ne (fun b o nb hb => (upd_ne (ne_of_none hb nd)).trans ((upd_ne nb).trans ((upd_ne (ne_of_none hb nd)).trans hb))) ((upd_ne ne.symm).trans upd_same) upd_same
theorem scX19 : FnScope ["self"] ["self"] (defScope sX19) := ⟨rfl, rfl, rfl, by decide +kernel, rfl, by decide +kernel, by decide +kernel⟩
theorem ok_x19 {C f : Addr} {fd : FuncData} {k : Nat} (F : Fun K "__init__" "NothingLeft.__init__" sX19 f fd) (S : Ex.OexS K C) (n2 : PySem.W.findIn K (.ref C) "code" = some none) : FnOk P w K mg base CX0 (k + 1) f fd ["self"] (Ex.spX0 C "NothingLeft") := by
  refine F.ok scX19 (fun vs H Q E h => ?_) (fun cdv A outer s H vs Q E hr h => ?_)
  · obtain ⟨a, rfl, _⟩ := h
    rfl
  · obtain ⟨a, rfl, ha, k⟩ := h
    refine ⟨_, PSs.nox (pss_one (Ex.ps_xst (pv 0) pe_str)), ?_⟩
    refine ⟨_, rfl, a, C, rfl, S, n2, .inl ⟨ha, fun dx nd ne => ?_⟩⟩
    exact k dx _ nd ne (fun b o nb hb => (upd_ne nb).trans ((upd_ne (ne_of_none hb nd)).trans hb)) upd_same ((upd_ne ne).trans upd_same)
/-- what is asked of an error that stands -/
structure At (K : PySem.W.Frag) (C : Addr) : Prop where
  xf : XfC K C
  nC : PySem.W.findIn K (.ref C) "code" = some none
  ec : ExcC K C
  ic : (PySem.W.clsIn K C).isSome = true
structure Row (P : Program) (w : World) (K : PySem.W.Frag) (mg : Str → Option Value) (base : Heap) (C : Addr) (f x : Str) : Prop where
  made : ∃ (B nw ini : String) (bmB : List Value) (fI : Addr) (fd : FuncData) (g : List Value → List Value → List Value), Ex.OexG K C B nw ini bmB ∧ PySem.W.findIn K (.ref C) "__init__" = some (some (.ref fI)) ∧ PySem.W.typeIn K (.ref fI) = some (.type "function") ∧
    FnOk P w K mg base CX0 1 fI fd ["self", f] (Ex.spX C f x) ∧ Binds K fd ["self", f] [] ∧ KBn K fd ["self", f] 1 [f] g (fun vs zs => vs ++ zs)
  mC : mg x = some (.ref C)
  at_ : At K C
  nF : PySem.W.findIn K (.ref C) f = some none
abbrev Tb := Addr × Str × Str
/-- an error of this row, made of v -/
def Er (H : Hp) (v : V) (x : V) (r : Tb) : Prop := Ex.Xv H x r.1 [("code", .str r.2.2), (r.2.1, v)]
theorem Er.same {H H' : Hp} {v x : V} {r : Tb} (e : Same H H') (h : Er H v x r) : Er H' v x r := Ex.Xv.same e h
theorem Er.mut {H : Hp} {v x : V} {r : Tb} {D : Addr} {zs : List V} {o : HO} (hD : H D = some (.lst zs)) (h : Er H v x r) : Er (upd H D o) v x r := Ex.Xv.mut h hD
def tbl (C1 C2 C3 C4 C5 C6 C7 C8 C9 C10 C11 C12 C13 C14 C15 C16 C17 C18 : Addr) : List Tb := [(C1, "given", "InvalidNumber"), (C2, "given", "InvalidName"), (C3, "at", "InvalidSpan"), (C4, "given", "InvalidText"), (C5, "at", "InvalidSeat"), (C6, "at", "InvalidRecord"), (C7, "at", "Clash"), (C8, "name", "DuplicateName"), (C9, "given", "DuplicateNumber"), (C10, "most", "TooMany"), (C11, "limit", "Full"), (C12, "name", "NotAThing"), (C13, "at", "Contradiction"), (C14, "given", "InvalidRule"), (C15, "at", "InvalidCommand"), (C16, "given", "InvalidLimit"), (C17, "line", "InvalidPage"), (C18, "name", "UnknownName")]
def spnamed (T : List Tb) : Sp := fun vs H Q _ => ∃ v, vs = [v] ∧ ∀ (r : Addr) (xs : List V) (H' : Hp), H r = none → Same H H' → H' r = some (.lst xs) → Paired (Er H' v) xs T → Q (.ref r) H'
theorem scnamed : FnScope ["_law_one", "_law_found"] ["_law_one"] (defScope sNamed) := ⟨rfl, rfl, rfl, by decide +kernel, rfl, by decide +kernel, by decide +kernel⟩
theorem ok_named {C1 C2 C3 C4 C5 C6 C7 C8 C9 C10 C11 C12 C13 C14 C15 C16 C17 C18 f : Addr} {fd : FuncData} {k : Nat} (F : Fun K "_law_named" "_law_named" sNamed f fd) (R1 : Row P w K mg base C1 "given" "InvalidNumber") (R2 : Row P w K mg base C2 "given" "InvalidName") (R3 : Row P w K mg base C3 "at" "InvalidSpan") (R4 : Row P w K mg base C4 "given" "InvalidText") (R5 : Row P w K mg base C5 "at" "InvalidSeat") (R6 : Row P w K mg base C6 "at" "InvalidRecord") (R7 : Row P w K mg base C7 "at" "Clash") (R8 : Row P w K mg base C8 "name" "DuplicateName") (R9 : Row P w K mg base C9 "given" "DuplicateNumber") (R10 : Row P w K mg base C10 "most" "TooMany") (R11 : Row P w K mg base C11 "limit" "Full") (R12 : Row P w K mg base C12 "name" "NotAThing") (R13 : Row P w K mg base C13 "at" "Contradiction") (R14 : Row P w K mg base C14 "given" "InvalidRule") (R15 : Row P w K mg base C15 "at" "InvalidCommand") (R16 : Row P w K mg base C16 "given" "InvalidLimit") (R17 : Row P w K mg base C17 "line" "InvalidPage") (R18 : Row P w K mg base C18 "name" "UnknownName") : FnOk P w K mg base CX0 (k + 3) f fd ["_law_one"] (spnamed (tbl C1 C2 C3 C4 C5 C6 C7 C8 C9 C10 C11 C12 C13 C14 C15 C16 C17 C18)) := by
  refine F.ok scnamed (fun vs H Q E h => ?_) (fun cdv A outer s H vs Q E hr h => ?_)
  · obtain ⟨v, rfl, _⟩ := h
    rfl
  · obtain ⟨v, rfl, k⟩ := h
    have hr1 : Room 2 _ := hr.mono (by omega)
    obtain ⟨B1, w1, n1, m1, f1, d1, g1, T1, i1, t1, F1, b1, k1⟩ := R1.made
    obtain ⟨B2, w2, n2, m2, f2, d2, g2, T2, i2, t2, F2, b2, k2⟩ := R2.made
    obtain ⟨B3, w3, n3, m3, f3, d3, g3, T3, i3, t3, F3, b3, k3⟩ := R3.made
    obtain ⟨B4, w4, n4, m4, f4, d4, g4, T4, i4, t4, F4, b4, k4⟩ := R4.made
    obtain ⟨B5, w5, n5, m5, f5, d5, g5, T5, i5, t5, F5, b5, k5⟩ := R5.made
    obtain ⟨B6, w6, n6, m6, f6, d6, g6, T6, i6, t6, F6, b6, k6⟩ := R6.made
    obtain ⟨B7, w7, n7, m7, f7, d7, g7, T7, i7, t7, F7, b7, k7⟩ := R7.made
    obtain ⟨B8, w8, n8, m8, f8, d8, g8, T8, i8, t8, F8, b8, k8⟩ := R8.made
    obtain ⟨B9, w9, n9, m9, f9, d9, g9, T9, i9, t9, F9, b9, k9⟩ := R9.made
    obtain ⟨B10, w10, n10, m10, f10, d10, g10, T10, i10, t10, F10, b10, k10⟩ := R10.made
    obtain ⟨B11, w11, n11, m11, f11, d11, g11, T11, i11, t11, F11, b11, k11⟩ := R11.made
    obtain ⟨B12, w12, n12, m12, f12, d12, g12, T12, i12, t12, F12, b12, k12⟩ := R12.made
    obtain ⟨B13, w13, n13, m13, f13, d13, g13, T13, i13, t13, F13, b13, k13⟩ := R13.made
    obtain ⟨B14, w14, n14, m14, f14, d14, g14, T14, i14, t14, F14, b14, k14⟩ := R14.made
    obtain ⟨B15, w15, n15, m15, f15, d15, g15, T15, i15, t15, F15, b15, k15⟩ := R15.made
    obtain ⟨B16, w16, n16, m16, f16, d16, g16, T16, i16, t16, F16, b16, k16⟩ := R16.made
    obtain ⟨B17, w17, n17, m17, f17, d17, g17, T17, i17, t17, F17, b17, k17⟩ := R17.made
    obtain ⟨B18, w18, n18, m18, f18, d18, g18, T18, i18, t18, F18, b18, k18⟩ := R18.made
    refine ⟨_, PSs.nox (pss_cons (ps_set (i := 1) scnamed.nd rfl (Or.inl rfl) (pe_lst (pa_cons (Ex.pe_oexK (kn := "given") T1 i1 t1 F1 hr1 k1 pass0 (by rfl) R1.mC (pk_cons (pv 0) pk_nil)) (pa_cons (Ex.pe_oexK (kn := "given") T2 i2 t2 F2 hr1 k2 pass0 (by rfl) R2.mC (pk_cons (pv 0) pk_nil)) (pa_cons (Ex.pe_oexK (kn := "at") T3 i3 t3 F3 hr1 k3 pass0 (by rfl) R3.mC (pk_cons (pv 0) pk_nil)) (pa_cons (Ex.pe_oexK (kn := "given") T4 i4 t4 F4 hr1 k4 pass0 (by rfl) R4.mC (pk_cons (pv 0) pk_nil)) pa_nil))))))
 (pss_cons (ps_set (i := 1) scnamed.nd rfl (Or.inl rfl) (pe_op op_cat (pv 1) (pe_lst (pa_cons (Ex.pe_oexK (kn := "at") T5 i5 t5 F5 hr1 k5 pass0 (by rfl) R5.mC (pk_cons (pv 0) pk_nil)) (pa_cons (Ex.pe_oexK (kn := "at") T6 i6 t6 F6 hr1 k6 pass0 (by rfl) R6.mC (pk_cons (pv 0) pk_nil)) (pa_cons (Ex.pe_oexK (kn := "at") T7 i7 t7 F7 hr1 k7 pass0 (by rfl) R7.mC (pk_cons (pv 0) pk_nil)) (pa_cons (Ex.pe_oexK (kn := "name") T8 i8 t8 F8 hr1 k8 pass0 (by rfl) R8.mC (pk_cons (pv 0) pk_nil)) pa_nil)))))))
 (pss_cons (ps_set (i := 1) scnamed.nd rfl (Or.inl rfl) (pe_op op_cat (pv 1) (pe_lst (pa_cons (Ex.pe_oexK (kn := "given") T9 i9 t9 F9 hr1 k9 pass0 (by rfl) R9.mC (pk_cons (pv 0) pk_nil)) (pa_cons (Ex.pe_oexK (kn := "most") T10 i10 t10 F10 hr1 k10 pass0 (by rfl) R10.mC (pk_cons (pv 0) pk_nil)) (pa_cons (Ex.pe_oexK (kn := "limit") T11 i11 t11 F11 hr1 k11 pass0 (by rfl) R11.mC (pk_cons (pv 0) pk_nil)) (pa_cons (Ex.pe_oexK (kn := "name") T12 i12 t12 F12 hr1 k12 pass0 (by rfl) R12.mC (pk_cons (pv 0) pk_nil)) pa_nil)))))))
 (pss_cons (ps_set (i := 1) scnamed.nd rfl (Or.inl rfl) (pe_op op_cat (pv 1) (pe_lst (pa_cons (Ex.pe_oexK (kn := "at") T13 i13 t13 F13 hr1 k13 pass0 (by rfl) R13.mC (pk_cons (pv 0) pk_nil)) (pa_cons (Ex.pe_oexK (kn := "given") T14 i14 t14 F14 hr1 k14 pass0 (by rfl) R14.mC (pk_cons (pv 0) pk_nil)) (pa_cons (Ex.pe_oexK (kn := "at") T15 i15 t15 F15 hr1 k15 pass0 (by rfl) R15.mC (pk_cons (pv 0) pk_nil)) (pa_cons (Ex.pe_oexK (kn := "given") T16 i16 t16 F16 hr1 k16 pass0 (by rfl) R16.mC (pk_cons (pv 0) pk_nil)) pa_nil)))))))
 (pss_one (ps_ret (pe_op op_cat (pv 1) (pe_lst (pa_cons (Ex.pe_oexK (kn := "line") T17 i17 t17 F17 hr1 k17 pass0 (by rfl) R17.mC (pk_cons (pv 0) pk_nil)) (pa_cons (Ex.pe_oexK (kn := "name") T18 i18 t18 F18 hr1 k18 pass0 (by rfl) R18.mC (pk_cons (pv 0) pk_nil)) pa_nil)))))))))), ?_⟩
    refine ⟨_, rfl, rfl, fun a1 z1 => Ex.told1 rfl z1 fun H1 s1 x1 => ?_⟩
    refine ⟨_, rfl, rfl, fun a2 z2 => Ex.told1 rfl z2 fun H2 s2 x2 => ?_⟩
    refine ⟨_, rfl, rfl, fun a3 z3 => Ex.told1 rfl z3 fun H3 s3 x3 => ?_⟩
    refine ⟨_, rfl, rfl, fun a4 z4 => Ex.told1 rfl z4 fun H4 s4 x4 => ?_⟩
    refine ⟨(by show 4 ≤ sizeLine; decide), fun c0 nc0 => ?_⟩
    have sc0 := same_upd (o := .lst [.ref a1, .ref a2, .ref a3, .ref a4]) nc0
    have hl0 := upd_same (H := H4) (a := c0) (o := .lst [.ref a1, .ref a2, .ref a3, .ref a4])
    refine ⟨_, rfl, _, rfl, rfl, fun a5 z5 => Ex.told1 rfl z5 fun H5 s5 x5 => ?_⟩
    refine ⟨_, rfl, rfl, fun a6 z6 => Ex.told1 rfl z6 fun H6 s6 x6 => ?_⟩
    refine ⟨_, rfl, rfl, fun a7 z7 => Ex.told1 rfl z7 fun H7 s7 x7 => ?_⟩
    refine ⟨_, rfl, rfl, fun a8 z8 => Ex.told1 rfl z8 fun H8 s8 x8 => ?_⟩
    refine ⟨(by show 4 ≤ sizeLine; decide), fun c1 nc1 => ?_⟩
    have sc1 := same_upd (o := .lst [.ref a5, .ref a6, .ref a7, .ref a8]) nc1
    have ho1 := (s5.trans (s6.trans (s7.trans (s8.trans (sc1))))) _ _ hl0
    refine ⟨_, _, _, _, rfl, rfl, ho1, upd_same, (by show 8 ≤ sizeLine; decide), fun e1 ne1 => ?_⟩
    have se1 := same_upd (o := .lst ([.ref a1, .ref a2, .ref a3, .ref a4] ++ [.ref a5, .ref a6, .ref a7, .ref a8])) ne1
    have hl1 : _ = some (HO.lst [.ref a1, .ref a2, .ref a3, .ref a4, .ref a5, .ref a6, .ref a7, .ref a8]) := upd_same (H := upd H8 c1 (.lst [.ref a5, .ref a6, .ref a7, .ref a8])) (a := e1) (o := .lst [.ref a1, .ref a2, .ref a3, .ref a4, .ref a5, .ref a6, .ref a7, .ref a8])
    refine ⟨_, rfl, _, rfl, rfl, fun a9 z9 => Ex.told1 rfl z9 fun H9 s9 x9 => ?_⟩
    refine ⟨_, rfl, rfl, fun a10 z10 => Ex.told1 rfl z10 fun H10 s10 x10 => ?_⟩
    refine ⟨_, rfl, rfl, fun a11 z11 => Ex.told1 rfl z11 fun H11 s11 x11 => ?_⟩
    refine ⟨_, rfl, rfl, fun a12 z12 => Ex.told1 rfl z12 fun H12 s12 x12 => ?_⟩
    refine ⟨(by show 4 ≤ sizeLine; decide), fun c2 nc2 => ?_⟩
    have sc2 := same_upd (o := .lst [.ref a9, .ref a10, .ref a11, .ref a12]) nc2
    have ho2 := (s9.trans (s10.trans (s11.trans (s12.trans (sc2))))) _ _ hl1
    refine ⟨_, _, _, _, rfl, rfl, ho2, upd_same, (by show 12 ≤ sizeLine; decide), fun e2 ne2 => ?_⟩
    have se2 := same_upd (o := .lst ([.ref a1, .ref a2, .ref a3, .ref a4, .ref a5, .ref a6, .ref a7, .ref a8] ++ [.ref a9, .ref a10, .ref a11, .ref a12])) ne2
    have hl2 : _ = some (HO.lst [.ref a1, .ref a2, .ref a3, .ref a4, .ref a5, .ref a6, .ref a7, .ref a8, .ref a9, .ref a10, .ref a11, .ref a12]) := upd_same (H := upd H12 c2 (.lst [.ref a9, .ref a10, .ref a11, .ref a12])) (a := e2) (o := .lst [.ref a1, .ref a2, .ref a3, .ref a4, .ref a5, .ref a6, .ref a7, .ref a8, .ref a9, .ref a10, .ref a11, .ref a12])
    refine ⟨_, rfl, _, rfl, rfl, fun a13 z13 => Ex.told1 rfl z13 fun H13 s13 x13 => ?_⟩
    refine ⟨_, rfl, rfl, fun a14 z14 => Ex.told1 rfl z14 fun H14 s14 x14 => ?_⟩
    refine ⟨_, rfl, rfl, fun a15 z15 => Ex.told1 rfl z15 fun H15 s15 x15 => ?_⟩
    refine ⟨_, rfl, rfl, fun a16 z16 => Ex.told1 rfl z16 fun H16 s16 x16 => ?_⟩
    refine ⟨(by show 4 ≤ sizeLine; decide), fun c3 nc3 => ?_⟩
    have sc3 := same_upd (o := .lst [.ref a13, .ref a14, .ref a15, .ref a16]) nc3
    have ho3 := (s13.trans (s14.trans (s15.trans (s16.trans (sc3))))) _ _ hl2
    refine ⟨_, _, _, _, rfl, rfl, ho3, upd_same, (by show 16 ≤ sizeLine; decide), fun e3 ne3 => ?_⟩
    have se3 := same_upd (o := .lst ([.ref a1, .ref a2, .ref a3, .ref a4, .ref a5, .ref a6, .ref a7, .ref a8, .ref a9, .ref a10, .ref a11, .ref a12] ++ [.ref a13, .ref a14, .ref a15, .ref a16])) ne3
    have hl3 : _ = some (HO.lst [.ref a1, .ref a2, .ref a3, .ref a4, .ref a5, .ref a6, .ref a7, .ref a8, .ref a9, .ref a10, .ref a11, .ref a12, .ref a13, .ref a14, .ref a15, .ref a16]) := upd_same (H := upd H16 c3 (.lst [.ref a13, .ref a14, .ref a15, .ref a16])) (a := e3) (o := .lst [.ref a1, .ref a2, .ref a3, .ref a4, .ref a5, .ref a6, .ref a7, .ref a8, .ref a9, .ref a10, .ref a11, .ref a12, .ref a13, .ref a14, .ref a15, .ref a16])
    refine ⟨_, rfl, _, rfl, rfl, fun a17 z17 => Ex.told1 rfl z17 fun H17 s17 x17 => ?_⟩
    refine ⟨_, rfl, rfl, fun a18 z18 => Ex.told1 rfl z18 fun H18 s18 x18 => ?_⟩
    refine ⟨(by show 2 ≤ sizeLine; decide), fun c4 nc4 => ?_⟩
    have sc4 := same_upd (o := .lst [.ref a17, .ref a18]) nc4
    have ho4 := (s17.trans (s18.trans (sc4))) _ _ hl3
    refine ⟨_, _, _, _, rfl, rfl, ho4, upd_same, (by show 18 ≤ sizeLine; decide), fun e4 ne4 => ?_⟩
    have se4 := same_upd (o := .lst ([.ref a1, .ref a2, .ref a3, .ref a4, .ref a5, .ref a6, .ref a7, .ref a8, .ref a9, .ref a10, .ref a11, .ref a12, .ref a13, .ref a14, .ref a15, .ref a16] ++ [.ref a17, .ref a18])) ne4
    have hl4 : _ = some (HO.lst [.ref a1, .ref a2, .ref a3, .ref a4, .ref a5, .ref a6, .ref a7, .ref a8, .ref a9, .ref a10, .ref a11, .ref a12, .ref a13, .ref a14, .ref a15, .ref a16, .ref a17, .ref a18]) := upd_same (H := upd H18 c4 (.lst [.ref a17, .ref a18])) (a := e4) (o := .lst [.ref a1, .ref a2, .ref a3, .ref a4, .ref a5, .ref a6, .ref a7, .ref a8, .ref a9, .ref a10, .ref a11, .ref a12, .ref a13, .ref a14, .ref a15, .ref a16, .ref a17, .ref a18])
    have all : Same H _ := s1.trans (s2.trans (s3.trans (s4.trans (sc0.trans (s5.trans (s6.trans (s7.trans (s8.trans (sc1.trans (se1.trans (s9.trans (s10.trans (s11.trans (s12.trans (sc2.trans (se2.trans (s13.trans (s14.trans (s15.trans (s16.trans (sc3.trans (se3.trans (s17.trans (s18.trans (sc4.trans (se4))))))))))))))))))))))))))
    refine k e4 _ _ ((s1.trans (s2.trans (s3.trans (s4.trans (sc0.trans (s5.trans (s6.trans (s7.trans (s8.trans (sc1.trans (se1.trans (s9.trans (s10.trans (s11.trans (s12.trans (sc2.trans (se2.trans (s13.trans (s14.trans (s15.trans (s16.trans (sc3.trans (se3.trans (s17.trans (s18.trans (sc4)))))))))))))))))))))))))).free ne4) all upd_same ?_
    exact .cons (Er.same (s2.trans (s3.trans (s4.trans (sc0.trans (s5.trans (s6.trans (s7.trans (s8.trans (sc1.trans (se1.trans (s9.trans (s10.trans (s11.trans (s12.trans (sc2.trans (se2.trans (s13.trans (s14.trans (s15.trans (s16.trans (sc3.trans (se3.trans (s17.trans (s18.trans (sc4.trans (se4)))))))))))))))))))))))))) x1) (.cons (Er.same (s3.trans (s4.trans (sc0.trans (s5.trans (s6.trans (s7.trans (s8.trans (sc1.trans (se1.trans (s9.trans (s10.trans (s11.trans (s12.trans (sc2.trans (se2.trans (s13.trans (s14.trans (s15.trans (s16.trans (sc3.trans (se3.trans (s17.trans (s18.trans (sc4.trans (se4))))))))))))))))))))))))) x2) (.cons (Er.same (s4.trans (sc0.trans (s5.trans (s6.trans (s7.trans (s8.trans (sc1.trans (se1.trans (s9.trans (s10.trans (s11.trans (s12.trans (sc2.trans (se2.trans (s13.trans (s14.trans (s15.trans (s16.trans (sc3.trans (se3.trans (s17.trans (s18.trans (sc4.trans (se4)))))))))))))))))))))))) x3) (.cons (Er.same (sc0.trans (s5.trans (s6.trans (s7.trans (s8.trans (sc1.trans (se1.trans (s9.trans (s10.trans (s11.trans (s12.trans (sc2.trans (se2.trans (s13.trans (s14.trans (s15.trans (s16.trans (sc3.trans (se3.trans (s17.trans (s18.trans (sc4.trans (se4))))))))))))))))))))))) x4) (.cons (Er.same (s6.trans (s7.trans (s8.trans (sc1.trans (se1.trans (s9.trans (s10.trans (s11.trans (s12.trans (sc2.trans (se2.trans (s13.trans (s14.trans (s15.trans (s16.trans (sc3.trans (se3.trans (s17.trans (s18.trans (sc4.trans (se4))))))))))))))))))))) x5) (.cons (Er.same (s7.trans (s8.trans (sc1.trans (se1.trans (s9.trans (s10.trans (s11.trans (s12.trans (sc2.trans (se2.trans (s13.trans (s14.trans (s15.trans (s16.trans (sc3.trans (se3.trans (s17.trans (s18.trans (sc4.trans (se4)))))))))))))))))))) x6) (.cons (Er.same (s8.trans (sc1.trans (se1.trans (s9.trans (s10.trans (s11.trans (s12.trans (sc2.trans (se2.trans (s13.trans (s14.trans (s15.trans (s16.trans (sc3.trans (se3.trans (s17.trans (s18.trans (sc4.trans (se4))))))))))))))))))) x7) (.cons (Er.same (sc1.trans (se1.trans (s9.trans (s10.trans (s11.trans (s12.trans (sc2.trans (se2.trans (s13.trans (s14.trans (s15.trans (s16.trans (sc3.trans (se3.trans (s17.trans (s18.trans (sc4.trans (se4)))))))))))))))))) x8) (.cons (Er.same (s10.trans (s11.trans (s12.trans (sc2.trans (se2.trans (s13.trans (s14.trans (s15.trans (s16.trans (sc3.trans (se3.trans (s17.trans (s18.trans (sc4.trans (se4))))))))))))))) x9) (.cons (Er.same (s11.trans (s12.trans (sc2.trans (se2.trans (s13.trans (s14.trans (s15.trans (s16.trans (sc3.trans (se3.trans (s17.trans (s18.trans (sc4.trans (se4)))))))))))))) x10) (.cons (Er.same (s12.trans (sc2.trans (se2.trans (s13.trans (s14.trans (s15.trans (s16.trans (sc3.trans (se3.trans (s17.trans (s18.trans (sc4.trans (se4))))))))))))) x11) (.cons (Er.same (sc2.trans (se2.trans (s13.trans (s14.trans (s15.trans (s16.trans (sc3.trans (se3.trans (s17.trans (s18.trans (sc4.trans (se4)))))))))))) x12) (.cons (Er.same (s14.trans (s15.trans (s16.trans (sc3.trans (se3.trans (s17.trans (s18.trans (sc4.trans (se4))))))))) x13) (.cons (Er.same (s15.trans (s16.trans (sc3.trans (se3.trans (s17.trans (s18.trans (sc4.trans (se4)))))))) x14) (.cons (Er.same (s16.trans (sc3.trans (se3.trans (s17.trans (s18.trans (sc4.trans (se4))))))) x15) (.cons (Er.same (sc3.trans (se3.trans (s17.trans (s18.trans (sc4.trans (se4)))))) x16) (.cons (Er.same (s18.trans (sc4.trans (se4))) x17) (.cons (Er.same (sc4.trans (se4)) x18) (.nil))))))))))))))))))
def spbare (T : List Tb) : Sp := fun vs H Q _ => ∃ v, vs = [v] ∧ ∀ (r : Addr) (xs : List V) (H' : Hp), H r = none → Same H H' → H' r = some (.lst xs) → Paired (Er H' v) xs T → Q (.ref r) H'
theorem scbare : FnScope ["_law_one", "_law_found"] ["_law_one"] (defScope sBare) := ⟨rfl, rfl, rfl, by decide +kernel, rfl, by decide +kernel, by decide +kernel⟩
theorem ok_bare {C1 C2 C3 C4 C5 C6 C7 C8 C9 C10 C11 C12 C13 C14 C15 C16 C17 C18 f : Addr} {fd : FuncData} {k : Nat} (F : Fun K "_law_bare" "_law_bare" sBare f fd) (R1 : Row P w K mg base C1 "given" "InvalidNumber") (R2 : Row P w K mg base C2 "given" "InvalidName") (R3 : Row P w K mg base C3 "at" "InvalidSpan") (R4 : Row P w K mg base C4 "given" "InvalidText") (R5 : Row P w K mg base C5 "at" "InvalidSeat") (R6 : Row P w K mg base C6 "at" "InvalidRecord") (R7 : Row P w K mg base C7 "at" "Clash") (R8 : Row P w K mg base C8 "name" "DuplicateName") (R9 : Row P w K mg base C9 "given" "DuplicateNumber") (R10 : Row P w K mg base C10 "most" "TooMany") (R11 : Row P w K mg base C11 "limit" "Full") (R12 : Row P w K mg base C12 "name" "NotAThing") (R13 : Row P w K mg base C13 "at" "Contradiction") (R14 : Row P w K mg base C14 "given" "InvalidRule") (R15 : Row P w K mg base C15 "at" "InvalidCommand") (R16 : Row P w K mg base C16 "given" "InvalidLimit") (R17 : Row P w K mg base C17 "line" "InvalidPage") (R18 : Row P w K mg base C18 "name" "UnknownName") : FnOk P w K mg base CX0 (k + 3) f fd ["_law_one"] (spbare (tbl C1 C2 C3 C4 C5 C6 C7 C8 C9 C10 C11 C12 C13 C14 C15 C16 C17 C18)) := by
  refine F.ok scbare (fun vs H Q E h => ?_) (fun cdv A outer s H vs Q E hr h => ?_)
  · obtain ⟨v, rfl, _⟩ := h
    rfl
  · obtain ⟨v, rfl, k⟩ := h
    have hr1 : Room 2 _ := hr.mono (by omega)
    obtain ⟨B1, w1, n1, m1, f1, d1, g1, T1, i1, t1, F1, b1, k1⟩ := R1.made
    obtain ⟨B2, w2, n2, m2, f2, d2, g2, T2, i2, t2, F2, b2, k2⟩ := R2.made
    obtain ⟨B3, w3, n3, m3, f3, d3, g3, T3, i3, t3, F3, b3, k3⟩ := R3.made
    obtain ⟨B4, w4, n4, m4, f4, d4, g4, T4, i4, t4, F4, b4, k4⟩ := R4.made
    obtain ⟨B5, w5, n5, m5, f5, d5, g5, T5, i5, t5, F5, b5, k5⟩ := R5.made
    obtain ⟨B6, w6, n6, m6, f6, d6, g6, T6, i6, t6, F6, b6, k6⟩ := R6.made
    obtain ⟨B7, w7, n7, m7, f7, d7, g7, T7, i7, t7, F7, b7, k7⟩ := R7.made
    obtain ⟨B8, w8, n8, m8, f8, d8, g8, T8, i8, t8, F8, b8, k8⟩ := R8.made
    obtain ⟨B9, w9, n9, m9, f9, d9, g9, T9, i9, t9, F9, b9, k9⟩ := R9.made
    obtain ⟨B10, w10, n10, m10, f10, d10, g10, T10, i10, t10, F10, b10, k10⟩ := R10.made
    obtain ⟨B11, w11, n11, m11, f11, d11, g11, T11, i11, t11, F11, b11, k11⟩ := R11.made
    obtain ⟨B12, w12, n12, m12, f12, d12, g12, T12, i12, t12, F12, b12, k12⟩ := R12.made
    obtain ⟨B13, w13, n13, m13, f13, d13, g13, T13, i13, t13, F13, b13, k13⟩ := R13.made
    obtain ⟨B14, w14, n14, m14, f14, d14, g14, T14, i14, t14, F14, b14, k14⟩ := R14.made
    obtain ⟨B15, w15, n15, m15, f15, d15, g15, T15, i15, t15, F15, b15, k15⟩ := R15.made
    obtain ⟨B16, w16, n16, m16, f16, d16, g16, T16, i16, t16, F16, b16, k16⟩ := R16.made
    obtain ⟨B17, w17, n17, m17, f17, d17, g17, T17, i17, t17, F17, b17, k17⟩ := R17.made
    obtain ⟨B18, w18, n18, m18, f18, d18, g18, T18, i18, t18, F18, b18, k18⟩ := R18.made
    refine ⟨_, PSs.nox (pss_cons (ps_set (i := 1) scbare.nd rfl (Or.inl rfl) (pe_lst (pa_cons (Ex.pe_oex T1 i1 t1 (F1.raw b1 .nil) hr1 pass0 (by rfl) R1.mC (pa_cons (pv 0) pa_nil)) (pa_cons (Ex.pe_oex T2 i2 t2 (F2.raw b2 .nil) hr1 pass0 (by rfl) R2.mC (pa_cons (pv 0) pa_nil)) (pa_cons (Ex.pe_oex T3 i3 t3 (F3.raw b3 .nil) hr1 pass0 (by rfl) R3.mC (pa_cons (pv 0) pa_nil)) (pa_cons (Ex.pe_oex T4 i4 t4 (F4.raw b4 .nil) hr1 pass0 (by rfl) R4.mC (pa_cons (pv 0) pa_nil)) (pa_cons (Ex.pe_oex T5 i5 t5 (F5.raw b5 .nil) hr1 pass0 (by rfl) R5.mC (pa_cons (pv 0) pa_nil)) pa_nil)))))))
 (pss_cons (ps_set (i := 1) scbare.nd rfl (Or.inl rfl) (pe_op op_cat (pv 1) (pe_lst (pa_cons (Ex.pe_oex T6 i6 t6 (F6.raw b6 .nil) hr1 pass0 (by rfl) R6.mC (pa_cons (pv 0) pa_nil)) (pa_cons (Ex.pe_oex T7 i7 t7 (F7.raw b7 .nil) hr1 pass0 (by rfl) R7.mC (pa_cons (pv 0) pa_nil)) (pa_cons (Ex.pe_oex T8 i8 t8 (F8.raw b8 .nil) hr1 pass0 (by rfl) R8.mC (pa_cons (pv 0) pa_nil)) (pa_cons (Ex.pe_oex T9 i9 t9 (F9.raw b9 .nil) hr1 pass0 (by rfl) R9.mC (pa_cons (pv 0) pa_nil)) (pa_cons (Ex.pe_oex T10 i10 t10 (F10.raw b10 .nil) hr1 pass0 (by rfl) R10.mC (pa_cons (pv 0) pa_nil)) (pa_cons (Ex.pe_oex T11 i11 t11 (F11.raw b11 .nil) hr1 pass0 (by rfl) R11.mC (pa_cons (pv 0) pa_nil)) pa_nil)))))))))
 (pss_cons (ps_set (i := 1) scbare.nd rfl (Or.inl rfl) (pe_op op_cat (pv 1) (pe_lst (pa_cons (Ex.pe_oex T12 i12 t12 (F12.raw b12 .nil) hr1 pass0 (by rfl) R12.mC (pa_cons (pv 0) pa_nil)) (pa_cons (Ex.pe_oex T13 i13 t13 (F13.raw b13 .nil) hr1 pass0 (by rfl) R13.mC (pa_cons (pv 0) pa_nil)) (pa_cons (Ex.pe_oex T14 i14 t14 (F14.raw b14 .nil) hr1 pass0 (by rfl) R14.mC (pa_cons (pv 0) pa_nil)) (pa_cons (Ex.pe_oex T15 i15 t15 (F15.raw b15 .nil) hr1 pass0 (by rfl) R15.mC (pa_cons (pv 0) pa_nil)) (pa_cons (Ex.pe_oex T16 i16 t16 (F16.raw b16 .nil) hr1 pass0 (by rfl) R16.mC (pa_cons (pv 0) pa_nil)) pa_nil))))))))
 (pss_one (ps_ret (pe_op op_cat (pv 1) (pe_lst (pa_cons (Ex.pe_oex T17 i17 t17 (F17.raw b17 .nil) hr1 pass0 (by rfl) R17.mC (pa_cons (pv 0) pa_nil)) (pa_cons (Ex.pe_oex T18 i18 t18 (F18.raw b18 .nil) hr1 pass0 (by rfl) R18.mC (pa_cons (pv 0) pa_nil)) pa_nil))))))))), ?_⟩
    refine ⟨_, rfl, (by show 1 ≤ 1000; decide), fun a1 z1 => Ex.told1 rfl z1 fun H1 s1 x1 => ?_⟩
    refine ⟨_, rfl, (by show 1 ≤ 1000; decide), fun a2 z2 => Ex.told1 rfl z2 fun H2 s2 x2 => ?_⟩
    refine ⟨_, rfl, (by show 1 ≤ 1000; decide), fun a3 z3 => Ex.told1 rfl z3 fun H3 s3 x3 => ?_⟩
    refine ⟨_, rfl, (by show 1 ≤ 1000; decide), fun a4 z4 => Ex.told1 rfl z4 fun H4 s4 x4 => ?_⟩
    refine ⟨_, rfl, (by show 1 ≤ 1000; decide), fun a5 z5 => Ex.told1 rfl z5 fun H5 s5 x5 => ?_⟩
    refine ⟨(by show 5 ≤ sizeLine; decide), fun c0 nc0 => ?_⟩
    have sc0 := same_upd (o := .lst [.ref a1, .ref a2, .ref a3, .ref a4, .ref a5]) nc0
    have hl0 := upd_same (H := H5) (a := c0) (o := .lst [.ref a1, .ref a2, .ref a3, .ref a4, .ref a5])
    refine ⟨_, rfl, _, rfl, (by show 1 ≤ 1000; decide), fun a6 z6 => Ex.told1 rfl z6 fun H6 s6 x6 => ?_⟩
    refine ⟨_, rfl, (by show 1 ≤ 1000; decide), fun a7 z7 => Ex.told1 rfl z7 fun H7 s7 x7 => ?_⟩
    refine ⟨_, rfl, (by show 1 ≤ 1000; decide), fun a8 z8 => Ex.told1 rfl z8 fun H8 s8 x8 => ?_⟩
    refine ⟨_, rfl, (by show 1 ≤ 1000; decide), fun a9 z9 => Ex.told1 rfl z9 fun H9 s9 x9 => ?_⟩
    refine ⟨_, rfl, (by show 1 ≤ 1000; decide), fun a10 z10 => Ex.told1 rfl z10 fun H10 s10 x10 => ?_⟩
    refine ⟨_, rfl, (by show 1 ≤ 1000; decide), fun a11 z11 => Ex.told1 rfl z11 fun H11 s11 x11 => ?_⟩
    refine ⟨(by show 6 ≤ sizeLine; decide), fun c1 nc1 => ?_⟩
    have sc1 := same_upd (o := .lst [.ref a6, .ref a7, .ref a8, .ref a9, .ref a10, .ref a11]) nc1
    have ho1 := (s6.trans (s7.trans (s8.trans (s9.trans (s10.trans (s11.trans (sc1))))))) _ _ hl0
    refine ⟨_, _, _, _, rfl, rfl, ho1, upd_same, (by show 11 ≤ sizeLine; decide), fun e1 ne1 => ?_⟩
    have se1 := same_upd (o := .lst ([.ref a1, .ref a2, .ref a3, .ref a4, .ref a5] ++ [.ref a6, .ref a7, .ref a8, .ref a9, .ref a10, .ref a11])) ne1
    have hl1 : _ = some (HO.lst [.ref a1, .ref a2, .ref a3, .ref a4, .ref a5, .ref a6, .ref a7, .ref a8, .ref a9, .ref a10, .ref a11]) := upd_same (H := upd H11 c1 (.lst [.ref a6, .ref a7, .ref a8, .ref a9, .ref a10, .ref a11])) (a := e1) (o := .lst [.ref a1, .ref a2, .ref a3, .ref a4, .ref a5, .ref a6, .ref a7, .ref a8, .ref a9, .ref a10, .ref a11])
    refine ⟨_, rfl, _, rfl, (by show 1 ≤ 1000; decide), fun a12 z12 => Ex.told1 rfl z12 fun H12 s12 x12 => ?_⟩
    refine ⟨_, rfl, (by show 1 ≤ 1000; decide), fun a13 z13 => Ex.told1 rfl z13 fun H13 s13 x13 => ?_⟩
    refine ⟨_, rfl, (by show 1 ≤ 1000; decide), fun a14 z14 => Ex.told1 rfl z14 fun H14 s14 x14 => ?_⟩
    refine ⟨_, rfl, (by show 1 ≤ 1000; decide), fun a15 z15 => Ex.told1 rfl z15 fun H15 s15 x15 => ?_⟩
    refine ⟨_, rfl, (by show 1 ≤ 1000; decide), fun a16 z16 => Ex.told1 rfl z16 fun H16 s16 x16 => ?_⟩
    refine ⟨(by show 5 ≤ sizeLine; decide), fun c2 nc2 => ?_⟩
    have sc2 := same_upd (o := .lst [.ref a12, .ref a13, .ref a14, .ref a15, .ref a16]) nc2
    have ho2 := (s12.trans (s13.trans (s14.trans (s15.trans (s16.trans (sc2)))))) _ _ hl1
    refine ⟨_, _, _, _, rfl, rfl, ho2, upd_same, (by show 16 ≤ sizeLine; decide), fun e2 ne2 => ?_⟩
    have se2 := same_upd (o := .lst ([.ref a1, .ref a2, .ref a3, .ref a4, .ref a5, .ref a6, .ref a7, .ref a8, .ref a9, .ref a10, .ref a11] ++ [.ref a12, .ref a13, .ref a14, .ref a15, .ref a16])) ne2
    have hl2 : _ = some (HO.lst [.ref a1, .ref a2, .ref a3, .ref a4, .ref a5, .ref a6, .ref a7, .ref a8, .ref a9, .ref a10, .ref a11, .ref a12, .ref a13, .ref a14, .ref a15, .ref a16]) := upd_same (H := upd H16 c2 (.lst [.ref a12, .ref a13, .ref a14, .ref a15, .ref a16])) (a := e2) (o := .lst [.ref a1, .ref a2, .ref a3, .ref a4, .ref a5, .ref a6, .ref a7, .ref a8, .ref a9, .ref a10, .ref a11, .ref a12, .ref a13, .ref a14, .ref a15, .ref a16])
    refine ⟨_, rfl, _, rfl, (by show 1 ≤ 1000; decide), fun a17 z17 => Ex.told1 rfl z17 fun H17 s17 x17 => ?_⟩
    refine ⟨_, rfl, (by show 1 ≤ 1000; decide), fun a18 z18 => Ex.told1 rfl z18 fun H18 s18 x18 => ?_⟩
    refine ⟨(by show 2 ≤ sizeLine; decide), fun c3 nc3 => ?_⟩
    have sc3 := same_upd (o := .lst [.ref a17, .ref a18]) nc3
    have ho3 := (s17.trans (s18.trans (sc3))) _ _ hl2
    refine ⟨_, _, _, _, rfl, rfl, ho3, upd_same, (by show 18 ≤ sizeLine; decide), fun e3 ne3 => ?_⟩
    have se3 := same_upd (o := .lst ([.ref a1, .ref a2, .ref a3, .ref a4, .ref a5, .ref a6, .ref a7, .ref a8, .ref a9, .ref a10, .ref a11, .ref a12, .ref a13, .ref a14, .ref a15, .ref a16] ++ [.ref a17, .ref a18])) ne3
    have hl3 : _ = some (HO.lst [.ref a1, .ref a2, .ref a3, .ref a4, .ref a5, .ref a6, .ref a7, .ref a8, .ref a9, .ref a10, .ref a11, .ref a12, .ref a13, .ref a14, .ref a15, .ref a16, .ref a17, .ref a18]) := upd_same (H := upd H18 c3 (.lst [.ref a17, .ref a18])) (a := e3) (o := .lst [.ref a1, .ref a2, .ref a3, .ref a4, .ref a5, .ref a6, .ref a7, .ref a8, .ref a9, .ref a10, .ref a11, .ref a12, .ref a13, .ref a14, .ref a15, .ref a16, .ref a17, .ref a18])
    have all : Same H _ := s1.trans (s2.trans (s3.trans (s4.trans (s5.trans (sc0.trans (s6.trans (s7.trans (s8.trans (s9.trans (s10.trans (s11.trans (sc1.trans (se1.trans (s12.trans (s13.trans (s14.trans (s15.trans (s16.trans (sc2.trans (se2.trans (s17.trans (s18.trans (sc3.trans (se3))))))))))))))))))))))))
    refine k e3 _ _ ((s1.trans (s2.trans (s3.trans (s4.trans (s5.trans (sc0.trans (s6.trans (s7.trans (s8.trans (s9.trans (s10.trans (s11.trans (sc1.trans (se1.trans (s12.trans (s13.trans (s14.trans (s15.trans (s16.trans (sc2.trans (se2.trans (s17.trans (s18.trans (sc3)))))))))))))))))))))))).free ne3) all upd_same ?_
    exact .cons (Er.same (s2.trans (s3.trans (s4.trans (s5.trans (sc0.trans (s6.trans (s7.trans (s8.trans (s9.trans (s10.trans (s11.trans (sc1.trans (se1.trans (s12.trans (s13.trans (s14.trans (s15.trans (s16.trans (sc2.trans (se2.trans (s17.trans (s18.trans (sc3.trans (se3)))))))))))))))))))))))) x1) (.cons (Er.same (s3.trans (s4.trans (s5.trans (sc0.trans (s6.trans (s7.trans (s8.trans (s9.trans (s10.trans (s11.trans (sc1.trans (se1.trans (s12.trans (s13.trans (s14.trans (s15.trans (s16.trans (sc2.trans (se2.trans (s17.trans (s18.trans (sc3.trans (se3))))))))))))))))))))))) x2) (.cons (Er.same (s4.trans (s5.trans (sc0.trans (s6.trans (s7.trans (s8.trans (s9.trans (s10.trans (s11.trans (sc1.trans (se1.trans (s12.trans (s13.trans (s14.trans (s15.trans (s16.trans (sc2.trans (se2.trans (s17.trans (s18.trans (sc3.trans (se3)))))))))))))))))))))) x3) (.cons (Er.same (s5.trans (sc0.trans (s6.trans (s7.trans (s8.trans (s9.trans (s10.trans (s11.trans (sc1.trans (se1.trans (s12.trans (s13.trans (s14.trans (s15.trans (s16.trans (sc2.trans (se2.trans (s17.trans (s18.trans (sc3.trans (se3))))))))))))))))))))) x4) (.cons (Er.same (sc0.trans (s6.trans (s7.trans (s8.trans (s9.trans (s10.trans (s11.trans (sc1.trans (se1.trans (s12.trans (s13.trans (s14.trans (s15.trans (s16.trans (sc2.trans (se2.trans (s17.trans (s18.trans (sc3.trans (se3)))))))))))))))))))) x5) (.cons (Er.same (s7.trans (s8.trans (s9.trans (s10.trans (s11.trans (sc1.trans (se1.trans (s12.trans (s13.trans (s14.trans (s15.trans (s16.trans (sc2.trans (se2.trans (s17.trans (s18.trans (sc3.trans (se3)))))))))))))))))) x6) (.cons (Er.same (s8.trans (s9.trans (s10.trans (s11.trans (sc1.trans (se1.trans (s12.trans (s13.trans (s14.trans (s15.trans (s16.trans (sc2.trans (se2.trans (s17.trans (s18.trans (sc3.trans (se3))))))))))))))))) x7) (.cons (Er.same (s9.trans (s10.trans (s11.trans (sc1.trans (se1.trans (s12.trans (s13.trans (s14.trans (s15.trans (s16.trans (sc2.trans (se2.trans (s17.trans (s18.trans (sc3.trans (se3)))))))))))))))) x8) (.cons (Er.same (s10.trans (s11.trans (sc1.trans (se1.trans (s12.trans (s13.trans (s14.trans (s15.trans (s16.trans (sc2.trans (se2.trans (s17.trans (s18.trans (sc3.trans (se3))))))))))))))) x9) (.cons (Er.same (s11.trans (sc1.trans (se1.trans (s12.trans (s13.trans (s14.trans (s15.trans (s16.trans (sc2.trans (se2.trans (s17.trans (s18.trans (sc3.trans (se3)))))))))))))) x10) (.cons (Er.same (sc1.trans (se1.trans (s12.trans (s13.trans (s14.trans (s15.trans (s16.trans (sc2.trans (se2.trans (s17.trans (s18.trans (sc3.trans (se3))))))))))))) x11) (.cons (Er.same (s13.trans (s14.trans (s15.trans (s16.trans (sc2.trans (se2.trans (s17.trans (s18.trans (sc3.trans (se3)))))))))) x12) (.cons (Er.same (s14.trans (s15.trans (s16.trans (sc2.trans (se2.trans (s17.trans (s18.trans (sc3.trans (se3))))))))) x13) (.cons (Er.same (s15.trans (s16.trans (sc2.trans (se2.trans (s17.trans (s18.trans (sc3.trans (se3)))))))) x14) (.cons (Er.same (s16.trans (sc2.trans (se2.trans (s17.trans (s18.trans (sc3.trans (se3))))))) x15) (.cons (Er.same (sc2.trans (se2.trans (s17.trans (s18.trans (sc3.trans (se3)))))) x16) (.cons (Er.same (s18.trans (sc3.trans (se3))) x17) (.cons (Er.same (sc3.trans (se3)) x18) (.nil))))))))))))))))))
end

/-! ### small things (also in prog4b, cut1b, prog9, prog10, for laws that have those parts) -/
theorem sz {n : Nat} (h : n ≤ 100000) : n < sizeLine := Nat.lt_of_le_of_lt h (by decide)
theorem ne_none {H : Hp} {a b : Addr} {o : HO} (h : H a = some o) (n : H b = none) : b ≠ a := fun z => by rw [z, h] at n; cases n
theorem take_succ' {α : Type} {xs : List α} {i : Nat} {x : α} (h : xs[i]? = some x) : xs.take (i + 1) = xs.take i ++ [x] := by
  rw [List.take_add_one, h]
  rfl
theorem paired_app {α β : Type} {R : α → β → Prop} : ∀ {xs ys : List α} {ps qs : List β}, Paired R xs ps → Paired R ys qs → Paired R (xs ++ ys) (ps ++ qs)
  | _, _, _, _, .nil, h => h
  | _, _, _, _, .cons a t, h => .cons a (paired_app t h)
theorem da_list {p r : Addr} {H : Hp} {n : Nat} {xs : List V} {ds : List PyData} (h : H r = some (.lst xs)) (np : r ≠ p) (hl : xs.length ≤ 100000) (hp : Paired (Da p H n) xs ds) : Da p H (n + 1) (.ref r) (.list ds) := ⟨r, xs, rfl, np, h, hl, hp⟩
theorem bag_lst {H : Hp} {p q : Addr} (h : Bag H p q) : ∃ bs, H p = some (.lst bs) := by
  obtain ⟨cells, i, b, s, c, h1, _⟩ := h
  exact ⟨_, h1⟩
theorem da_strs {p : Addr} {H : Hp} {n : Nat} : ∀ {zs : List Str}, Paired (Da p H (n + 1)) (zs.map V.str) (zs.map PyData.str)
  | [] => .nil
  | _ :: _ => .cons rfl da_strs
theorem da_bls {p : Addr} {H : Hp} {n : Nat} : ∀ {zs : List Bool}, Paired (Da p H (n + 1)) (zs.map V.bl) (zs.map PyData.bool)
  | [] => .nil
  | _ :: _ => .cons rfl da_bls

/-! ### _law_field, _law_classes_of -/
section
variable {P : Program} {w : World} {K : PySem.W.Frag} {mg : Str → Option Value} {base : Heap}
def pairs : List (Str × Str) := [("given", "InvalidNumber"), ("given", "InvalidName"), ("at", "InvalidSpan"), ("given", "InvalidText"), ("at", "InvalidSeat"), ("at", "InvalidRecord"), ("at", "Clash"), ("name", "DuplicateName"), ("given", "DuplicateNumber"), ("most", "TooMany"), ("limit", "Full"), ("name", "NotAThing"), ("at", "Contradiction"), ("given", "InvalidRule"), ("at", "InvalidCommand"), ("given", "InvalidLimit"), ("line", "InvalidPage"), ("name", "UnknownName")]
def spField (K : PySem.W.Frag) : Sp := fun vs H Q _ => ∃ x v r, vs = [x] ∧ r.2 ∈ pairs ∧ Er H v x r ∧ At K r.1 ∧ PySem.W.findIn K (.ref r.1) r.2.1 = some none ∧ ∀ (t : Addr) (H' : Hp), H t = none → Same H H' → H' t = some (.tup [v]) → Q (.ref t) H'
theorem scField : FnScope ["_law_e"] ["_law_e"] (defScope sField) := ⟨rfl, rfl, rfl, by decide +kernel, rfl, by decide +kernel, by decide +kernel⟩
theorem ok_field {f : Addr} {fd : FuncData} {k : Nat} (F : Fun K "_law_field" "_law_field" sField f fd) : FnOk P w K mg base CX0 (k + 1) f fd ["_law_e"] (spField K) := by
  refine F.ok scField (fun vs H Q E h => ?_) (fun cdv A outer s H vs Q E hr h => ?_)
  · obtain ⟨x, v, r, rfl, _⟩ := h
    rfl
  · obtain ⟨x, v, ⟨C, f, nm⟩, rfl, hm, ⟨a, d, rfl, ha, hd⟩, A, nF, k⟩ := h
    refine ⟨_, PSs.nox (pss_cons (ps_if (pt_cmpR op_in_seq (Ex.pe_exf (pv 0)) (pe_tup (pa_cons pe_str (pa_cons pe_str (pa_cons pe_str (pa_cons pe_str (pa_cons pe_str (pa_cons pe_str pa_nil))))))) (by rfl)) (pss_one (ps_ret (pe_tup (pa_cons (Ex.pe_exf (pv 0)) pa_nil)))) pss_nil)
 (pss_cons (ps_if (pt_cmpR op_in_seq (Ex.pe_exf (pv 0)) (pe_tup (pa_cons pe_str (pa_cons pe_str (pa_cons pe_str pa_nil)))) (by rfl)) (pss_one (ps_ret (pe_tup (pa_cons (Ex.pe_exf (pv 0)) pa_nil)))) pss_nil)
 (pss_cons (ps_if (pt_cmpR op_in_seq (Ex.pe_exf (pv 0)) (pe_tup (pa_cons pe_str (pa_cons pe_str pa_nil))) (by rfl)) (pss_one (ps_ret (pe_ifExp (pt_cmpR op_eq (Ex.pe_exf (pv 0)) pe_str (nomark _)) (pe_tup (pa_cons (Ex.pe_exf (pv 0)) pa_nil)) (pe_tup (pa_cons (Ex.pe_exf (pv 0)) pa_nil))))) pss_nil)
 (pss_cons (ps_if (pt_cmpR op_eq (Ex.pe_exf (pv 0)) pe_str (nomark _)) (pss_one (ps_ret (pe_tup pa_nil))) pss_nil)
 (pss_one (ps_ret (pe_ifExp (pt_cmpR op_eq (Ex.pe_exf (pv 0)) pe_str (nomark _)) (pe_tup (pa_cons (Ex.pe_exf (pv 0)) pa_nil)) (pe_tup (pa_cons (Ex.pe_exf (pv 0)) pa_nil))))))))), ?_⟩
    unfold pairs at hm
    simp only [List.mem_cons, List.not_mem_nil, or_false, Prod.mk.injEq] at hm
    rcases hm with ⟨rfl, rfl⟩ | ⟨rfl, rfl⟩ | ⟨rfl, rfl⟩ | ⟨rfl, rfl⟩ | ⟨rfl, rfl⟩ | ⟨rfl, rfl⟩ | ⟨rfl, rfl⟩ | ⟨rfl, rfl⟩ | ⟨rfl, rfl⟩ | ⟨rfl, rfl⟩ | ⟨rfl, rfl⟩ | ⟨rfl, rfl⟩ | ⟨rfl, rfl⟩ | ⟨rfl, rfl⟩ | ⟨rfl, rfl⟩ | ⟨rfl, rfl⟩ | ⟨rfl, rfl⟩ | ⟨rfl, rfl⟩
    · have hd1 : H d = some (exd d [("code", .str "InvalidNumber"), ("given", v)]) := hd
      have ha1 : H a = some (exo a C (some d)) := ha
      have nF1 : PySem.W.findIn K (.ref C) "given" = some none := nF
      have nC1 : PySem.W.findIn K (.ref C) "code" = some none := A.nC
      exact ⟨_, rfl, a, C, d, _, _, rfl, ha1, hd1, A.xf, nC1, rfl, (by show 6 ≤ sizeLine; decide), fun t1 zt1 => ⟨t1, _, rfl, .inr (SqT.of upd_same), rfl, rfl, _, rfl, ite2 (fun g => absurd g (by decide +kernel)) (fun _ => ⟨_, rfl, a, C, d, _, _, rfl, ((same_upd zt1) _ _ ha1), ((same_upd zt1) _ _ hd1), A.xf, nC1, rfl, (by show 3 ≤ sizeLine; decide), fun t2 zt2 => ⟨t2, _, rfl, .inr (SqT.of upd_same), rfl, rfl, _, rfl, ite2 (fun g => absurd g (by decide +kernel)) (fun _ => ⟨_, rfl, a, C, d, _, _, rfl, ((same_upd zt2) _ _ ((same_upd zt1) _ _ ha1)), ((same_upd zt2) _ _ ((same_upd zt1) _ _ hd1)), A.xf, nC1, rfl, (by show 2 ≤ sizeLine; decide), fun t3 zt3 => ⟨t3, _, rfl, .inr (SqT.of upd_same), rfl, rfl, _, rfl, ite2 (fun g => absurd g (by decide +kernel)) (fun _ => ⟨_, rfl, a, C, d, _, _, rfl, ((same_upd zt3) _ _ ((same_upd zt2) _ _ ((same_upd zt1) _ _ ha1))), ((same_upd zt3) _ _ ((same_upd zt2) _ _ ((same_upd zt1) _ _ hd1))), A.xf, nC1, rfl, rfl, _, rfl, ite2 (fun g => absurd g (by decide +kernel)) (fun _ => ⟨_, rfl, a, C, d, _, _, rfl, ((same_upd zt3) _ _ ((same_upd zt2) _ _ ((same_upd zt1) _ _ ha1))), ((same_upd zt3) _ _ ((same_upd zt2) _ _ ((same_upd zt1) _ _ hd1))), A.xf, nC1, rfl, rfl, _, rfl, ite2 (fun g => absurd g (by decide +kernel)) (fun _ => ⟨_, rfl, a, C, d, _, _, rfl, ((same_upd zt3) _ _ ((same_upd zt2) _ _ ((same_upd zt1) _ _ ha1))), ((same_upd zt3) _ _ ((same_upd zt2) _ _ ((same_upd zt1) _ _ hd1))), A.xf, nF1, rfl, (by show 1 ≤ sizeLine; decide), fun t zt => k t _ (Same.free (Same.trans (Same.trans (same_upd zt1) (same_upd zt2)) (same_upd zt3)) zt) (Same.trans (Same.trans (Same.trans (same_upd zt1) (same_upd zt2)) (same_upd zt3)) (same_upd zt)) upd_same⟩)⟩)⟩)⟩⟩)⟩⟩)⟩⟩
    · have hd1 : H d = some (exd d [("code", .str "InvalidName"), ("given", v)]) := hd
      have ha1 : H a = some (exo a C (some d)) := ha
      have nF1 : PySem.W.findIn K (.ref C) "given" = some none := nF
      have nC1 : PySem.W.findIn K (.ref C) "code" = some none := A.nC
      exact ⟨_, rfl, a, C, d, _, _, rfl, ha1, hd1, A.xf, nC1, rfl, (by show 6 ≤ sizeLine; decide), fun t1 zt1 => ⟨t1, _, rfl, .inr (SqT.of upd_same), rfl, rfl, _, rfl, ite2 (fun g => absurd g (by decide +kernel)) (fun _ => ⟨_, rfl, a, C, d, _, _, rfl, ((same_upd zt1) _ _ ha1), ((same_upd zt1) _ _ hd1), A.xf, nC1, rfl, (by show 3 ≤ sizeLine; decide), fun t2 zt2 => ⟨t2, _, rfl, .inr (SqT.of upd_same), rfl, rfl, _, rfl, ite2 (fun g => absurd g (by decide +kernel)) (fun _ => ⟨_, rfl, a, C, d, _, _, rfl, ((same_upd zt2) _ _ ((same_upd zt1) _ _ ha1)), ((same_upd zt2) _ _ ((same_upd zt1) _ _ hd1)), A.xf, nC1, rfl, (by show 2 ≤ sizeLine; decide), fun t3 zt3 => ⟨t3, _, rfl, .inr (SqT.of upd_same), rfl, rfl, _, rfl, ite2 (fun g => absurd g (by decide +kernel)) (fun _ => ⟨_, rfl, a, C, d, _, _, rfl, ((same_upd zt3) _ _ ((same_upd zt2) _ _ ((same_upd zt1) _ _ ha1))), ((same_upd zt3) _ _ ((same_upd zt2) _ _ ((same_upd zt1) _ _ hd1))), A.xf, nC1, rfl, rfl, _, rfl, ite2 (fun g => absurd g (by decide +kernel)) (fun _ => ⟨_, rfl, a, C, d, _, _, rfl, ((same_upd zt3) _ _ ((same_upd zt2) _ _ ((same_upd zt1) _ _ ha1))), ((same_upd zt3) _ _ ((same_upd zt2) _ _ ((same_upd zt1) _ _ hd1))), A.xf, nC1, rfl, rfl, _, rfl, ite2 (fun g => absurd g (by decide +kernel)) (fun _ => ⟨_, rfl, a, C, d, _, _, rfl, ((same_upd zt3) _ _ ((same_upd zt2) _ _ ((same_upd zt1) _ _ ha1))), ((same_upd zt3) _ _ ((same_upd zt2) _ _ ((same_upd zt1) _ _ hd1))), A.xf, nF1, rfl, (by show 1 ≤ sizeLine; decide), fun t zt => k t _ (Same.free (Same.trans (Same.trans (same_upd zt1) (same_upd zt2)) (same_upd zt3)) zt) (Same.trans (Same.trans (Same.trans (same_upd zt1) (same_upd zt2)) (same_upd zt3)) (same_upd zt)) upd_same⟩)⟩)⟩)⟩⟩)⟩⟩)⟩⟩
    · have hd1 : H d = some (exd d [("code", .str "InvalidSpan"), ("at", v)]) := hd
      have ha1 : H a = some (exo a C (some d)) := ha
      have nF1 : PySem.W.findIn K (.ref C) "at" = some none := nF
      have nC1 : PySem.W.findIn K (.ref C) "code" = some none := A.nC
      exact ⟨_, rfl, a, C, d, _, _, rfl, ha1, hd1, A.xf, nC1, rfl, (by show 6 ≤ sizeLine; decide), fun t1 zt1 => ⟨t1, _, rfl, .inr (SqT.of upd_same), rfl, rfl, _, rfl, ite2 (fun _ => ⟨_, rfl, a, C, d, _, _, rfl, ((same_upd zt1) _ _ ha1), ((same_upd zt1) _ _ hd1), A.xf, nF1, rfl, (by show 1 ≤ sizeLine; decide), fun t zt => k t _ (Same.free (same_upd zt1) zt) (Same.trans (same_upd zt1) (same_upd zt)) upd_same⟩) (fun g => absurd (by decide +kernel) g)⟩⟩
    · have hd1 : H d = some (exd d [("code", .str "InvalidText"), ("given", v)]) := hd
      have ha1 : H a = some (exo a C (some d)) := ha
      have nF1 : PySem.W.findIn K (.ref C) "given" = some none := nF
      have nC1 : PySem.W.findIn K (.ref C) "code" = some none := A.nC
      exact ⟨_, rfl, a, C, d, _, _, rfl, ha1, hd1, A.xf, nC1, rfl, (by show 6 ≤ sizeLine; decide), fun t1 zt1 => ⟨t1, _, rfl, .inr (SqT.of upd_same), rfl, rfl, _, rfl, ite2 (fun g => absurd g (by decide +kernel)) (fun _ => ⟨_, rfl, a, C, d, _, _, rfl, ((same_upd zt1) _ _ ha1), ((same_upd zt1) _ _ hd1), A.xf, nC1, rfl, (by show 3 ≤ sizeLine; decide), fun t2 zt2 => ⟨t2, _, rfl, .inr (SqT.of upd_same), rfl, rfl, _, rfl, ite2 (fun g => absurd g (by decide +kernel)) (fun _ => ⟨_, rfl, a, C, d, _, _, rfl, ((same_upd zt2) _ _ ((same_upd zt1) _ _ ha1)), ((same_upd zt2) _ _ ((same_upd zt1) _ _ hd1)), A.xf, nC1, rfl, (by show 2 ≤ sizeLine; decide), fun t3 zt3 => ⟨t3, _, rfl, .inr (SqT.of upd_same), rfl, rfl, _, rfl, ite2 (fun g => absurd g (by decide +kernel)) (fun _ => ⟨_, rfl, a, C, d, _, _, rfl, ((same_upd zt3) _ _ ((same_upd zt2) _ _ ((same_upd zt1) _ _ ha1))), ((same_upd zt3) _ _ ((same_upd zt2) _ _ ((same_upd zt1) _ _ hd1))), A.xf, nC1, rfl, rfl, _, rfl, ite2 (fun g => absurd g (by decide +kernel)) (fun _ => ⟨_, rfl, a, C, d, _, _, rfl, ((same_upd zt3) _ _ ((same_upd zt2) _ _ ((same_upd zt1) _ _ ha1))), ((same_upd zt3) _ _ ((same_upd zt2) _ _ ((same_upd zt1) _ _ hd1))), A.xf, nC1, rfl, rfl, _, rfl, ite2 (fun g => absurd g (by decide +kernel)) (fun _ => ⟨_, rfl, a, C, d, _, _, rfl, ((same_upd zt3) _ _ ((same_upd zt2) _ _ ((same_upd zt1) _ _ ha1))), ((same_upd zt3) _ _ ((same_upd zt2) _ _ ((same_upd zt1) _ _ hd1))), A.xf, nF1, rfl, (by show 1 ≤ sizeLine; decide), fun t zt => k t _ (Same.free (Same.trans (Same.trans (same_upd zt1) (same_upd zt2)) (same_upd zt3)) zt) (Same.trans (Same.trans (Same.trans (same_upd zt1) (same_upd zt2)) (same_upd zt3)) (same_upd zt)) upd_same⟩)⟩)⟩)⟩⟩)⟩⟩)⟩⟩
    · have hd1 : H d = some (exd d [("code", .str "InvalidSeat"), ("at", v)]) := hd
      have ha1 : H a = some (exo a C (some d)) := ha
      have nF1 : PySem.W.findIn K (.ref C) "at" = some none := nF
      have nC1 : PySem.W.findIn K (.ref C) "code" = some none := A.nC
      exact ⟨_, rfl, a, C, d, _, _, rfl, ha1, hd1, A.xf, nC1, rfl, (by show 6 ≤ sizeLine; decide), fun t1 zt1 => ⟨t1, _, rfl, .inr (SqT.of upd_same), rfl, rfl, _, rfl, ite2 (fun _ => ⟨_, rfl, a, C, d, _, _, rfl, ((same_upd zt1) _ _ ha1), ((same_upd zt1) _ _ hd1), A.xf, nF1, rfl, (by show 1 ≤ sizeLine; decide), fun t zt => k t _ (Same.free (same_upd zt1) zt) (Same.trans (same_upd zt1) (same_upd zt)) upd_same⟩) (fun g => absurd (by decide +kernel) g)⟩⟩
    · have hd1 : H d = some (exd d [("code", .str "InvalidRecord"), ("at", v)]) := hd
      have ha1 : H a = some (exo a C (some d)) := ha
      have nF1 : PySem.W.findIn K (.ref C) "at" = some none := nF
      have nC1 : PySem.W.findIn K (.ref C) "code" = some none := A.nC
      exact ⟨_, rfl, a, C, d, _, _, rfl, ha1, hd1, A.xf, nC1, rfl, (by show 6 ≤ sizeLine; decide), fun t1 zt1 => ⟨t1, _, rfl, .inr (SqT.of upd_same), rfl, rfl, _, rfl, ite2 (fun _ => ⟨_, rfl, a, C, d, _, _, rfl, ((same_upd zt1) _ _ ha1), ((same_upd zt1) _ _ hd1), A.xf, nF1, rfl, (by show 1 ≤ sizeLine; decide), fun t zt => k t _ (Same.free (same_upd zt1) zt) (Same.trans (same_upd zt1) (same_upd zt)) upd_same⟩) (fun g => absurd (by decide +kernel) g)⟩⟩
    · have hd1 : H d = some (exd d [("code", .str "Clash"), ("at", v)]) := hd
      have ha1 : H a = some (exo a C (some d)) := ha
      have nF1 : PySem.W.findIn K (.ref C) "at" = some none := nF
      have nC1 : PySem.W.findIn K (.ref C) "code" = some none := A.nC
      exact ⟨_, rfl, a, C, d, _, _, rfl, ha1, hd1, A.xf, nC1, rfl, (by show 6 ≤ sizeLine; decide), fun t1 zt1 => ⟨t1, _, rfl, .inr (SqT.of upd_same), rfl, rfl, _, rfl, ite2 (fun _ => ⟨_, rfl, a, C, d, _, _, rfl, ((same_upd zt1) _ _ ha1), ((same_upd zt1) _ _ hd1), A.xf, nF1, rfl, (by show 1 ≤ sizeLine; decide), fun t zt => k t _ (Same.free (same_upd zt1) zt) (Same.trans (same_upd zt1) (same_upd zt)) upd_same⟩) (fun g => absurd (by decide +kernel) g)⟩⟩
    · have hd1 : H d = some (exd d [("code", .str "DuplicateName"), ("name", v)]) := hd
      have ha1 : H a = some (exo a C (some d)) := ha
      have nF1 : PySem.W.findIn K (.ref C) "name" = some none := nF
      have nC1 : PySem.W.findIn K (.ref C) "code" = some none := A.nC
      exact ⟨_, rfl, a, C, d, _, _, rfl, ha1, hd1, A.xf, nC1, rfl, (by show 6 ≤ sizeLine; decide), fun t1 zt1 => ⟨t1, _, rfl, .inr (SqT.of upd_same), rfl, rfl, _, rfl, ite2 (fun g => absurd g (by decide +kernel)) (fun _ => ⟨_, rfl, a, C, d, _, _, rfl, ((same_upd zt1) _ _ ha1), ((same_upd zt1) _ _ hd1), A.xf, nC1, rfl, (by show 3 ≤ sizeLine; decide), fun t2 zt2 => ⟨t2, _, rfl, .inr (SqT.of upd_same), rfl, rfl, _, rfl, ite2 (fun _ => ⟨_, rfl, a, C, d, _, _, rfl, ((same_upd zt2) _ _ ((same_upd zt1) _ _ ha1)), ((same_upd zt2) _ _ ((same_upd zt1) _ _ hd1)), A.xf, nF1, rfl, (by show 1 ≤ sizeLine; decide), fun t zt => k t _ (Same.free (Same.trans (same_upd zt1) (same_upd zt2)) zt) (Same.trans (Same.trans (same_upd zt1) (same_upd zt2)) (same_upd zt)) upd_same⟩) (fun g => absurd (by decide +kernel) g)⟩⟩)⟩⟩
    · have hd1 : H d = some (exd d [("code", .str "DuplicateNumber"), ("given", v)]) := hd
      have ha1 : H a = some (exo a C (some d)) := ha
      have nF1 : PySem.W.findIn K (.ref C) "given" = some none := nF
      have nC1 : PySem.W.findIn K (.ref C) "code" = some none := A.nC
      exact ⟨_, rfl, a, C, d, _, _, rfl, ha1, hd1, A.xf, nC1, rfl, (by show 6 ≤ sizeLine; decide), fun t1 zt1 => ⟨t1, _, rfl, .inr (SqT.of upd_same), rfl, rfl, _, rfl, ite2 (fun g => absurd g (by decide +kernel)) (fun _ => ⟨_, rfl, a, C, d, _, _, rfl, ((same_upd zt1) _ _ ha1), ((same_upd zt1) _ _ hd1), A.xf, nC1, rfl, (by show 3 ≤ sizeLine; decide), fun t2 zt2 => ⟨t2, _, rfl, .inr (SqT.of upd_same), rfl, rfl, _, rfl, ite2 (fun g => absurd g (by decide +kernel)) (fun _ => ⟨_, rfl, a, C, d, _, _, rfl, ((same_upd zt2) _ _ ((same_upd zt1) _ _ ha1)), ((same_upd zt2) _ _ ((same_upd zt1) _ _ hd1)), A.xf, nC1, rfl, (by show 2 ≤ sizeLine; decide), fun t3 zt3 => ⟨t3, _, rfl, .inr (SqT.of upd_same), rfl, rfl, _, rfl, ite2 (fun g => absurd g (by decide +kernel)) (fun _ => ⟨_, rfl, a, C, d, _, _, rfl, ((same_upd zt3) _ _ ((same_upd zt2) _ _ ((same_upd zt1) _ _ ha1))), ((same_upd zt3) _ _ ((same_upd zt2) _ _ ((same_upd zt1) _ _ hd1))), A.xf, nC1, rfl, rfl, _, rfl, ite2 (fun g => absurd g (by decide +kernel)) (fun _ => ⟨_, rfl, a, C, d, _, _, rfl, ((same_upd zt3) _ _ ((same_upd zt2) _ _ ((same_upd zt1) _ _ ha1))), ((same_upd zt3) _ _ ((same_upd zt2) _ _ ((same_upd zt1) _ _ hd1))), A.xf, nC1, rfl, rfl, _, rfl, ite2 (fun g => absurd g (by decide +kernel)) (fun _ => ⟨_, rfl, a, C, d, _, _, rfl, ((same_upd zt3) _ _ ((same_upd zt2) _ _ ((same_upd zt1) _ _ ha1))), ((same_upd zt3) _ _ ((same_upd zt2) _ _ ((same_upd zt1) _ _ hd1))), A.xf, nF1, rfl, (by show 1 ≤ sizeLine; decide), fun t zt => k t _ (Same.free (Same.trans (Same.trans (same_upd zt1) (same_upd zt2)) (same_upd zt3)) zt) (Same.trans (Same.trans (Same.trans (same_upd zt1) (same_upd zt2)) (same_upd zt3)) (same_upd zt)) upd_same⟩)⟩)⟩)⟩⟩)⟩⟩)⟩⟩
    · have hd1 : H d = some (exd d [("code", .str "TooMany"), ("most", v)]) := hd
      have ha1 : H a = some (exo a C (some d)) := ha
      have nF1 : PySem.W.findIn K (.ref C) "most" = some none := nF
      have nC1 : PySem.W.findIn K (.ref C) "code" = some none := A.nC
      exact ⟨_, rfl, a, C, d, _, _, rfl, ha1, hd1, A.xf, nC1, rfl, (by show 6 ≤ sizeLine; decide), fun t1 zt1 => ⟨t1, _, rfl, .inr (SqT.of upd_same), rfl, rfl, _, rfl, ite2 (fun g => absurd g (by decide +kernel)) (fun _ => ⟨_, rfl, a, C, d, _, _, rfl, ((same_upd zt1) _ _ ha1), ((same_upd zt1) _ _ hd1), A.xf, nC1, rfl, (by show 3 ≤ sizeLine; decide), fun t2 zt2 => ⟨t2, _, rfl, .inr (SqT.of upd_same), rfl, rfl, _, rfl, ite2 (fun g => absurd g (by decide +kernel)) (fun _ => ⟨_, rfl, a, C, d, _, _, rfl, ((same_upd zt2) _ _ ((same_upd zt1) _ _ ha1)), ((same_upd zt2) _ _ ((same_upd zt1) _ _ hd1)), A.xf, nC1, rfl, (by show 2 ≤ sizeLine; decide), fun t3 zt3 => ⟨t3, _, rfl, .inr (SqT.of upd_same), rfl, rfl, _, rfl, ite2 (fun _ => ⟨_, rfl, a, C, d, _, _, rfl, ((same_upd zt3) _ _ ((same_upd zt2) _ _ ((same_upd zt1) _ _ ha1))), ((same_upd zt3) _ _ ((same_upd zt2) _ _ ((same_upd zt1) _ _ hd1))), A.xf, nC1, rfl, rfl, _, rfl, ite2 (fun _ => ⟨_, rfl, a, C, d, _, _, rfl, ((same_upd zt3) _ _ ((same_upd zt2) _ _ ((same_upd zt1) _ _ ha1))), ((same_upd zt3) _ _ ((same_upd zt2) _ _ ((same_upd zt1) _ _ hd1))), A.xf, nF1, rfl, (by show 1 ≤ sizeLine; decide), fun t zt => k t _ (Same.free (Same.trans (Same.trans (same_upd zt1) (same_upd zt2)) (same_upd zt3)) zt) (Same.trans (Same.trans (Same.trans (same_upd zt1) (same_upd zt2)) (same_upd zt3)) (same_upd zt)) upd_same⟩) (fun g => absurd (by decide +kernel) g)⟩) (fun g => absurd (by decide +kernel) g)⟩⟩)⟩⟩)⟩⟩
    · have hd1 : H d = some (exd d [("code", .str "Full"), ("limit", v)]) := hd
      have ha1 : H a = some (exo a C (some d)) := ha
      have nF1 : PySem.W.findIn K (.ref C) "limit" = some none := nF
      have nC1 : PySem.W.findIn K (.ref C) "code" = some none := A.nC
      exact ⟨_, rfl, a, C, d, _, _, rfl, ha1, hd1, A.xf, nC1, rfl, (by show 6 ≤ sizeLine; decide), fun t1 zt1 => ⟨t1, _, rfl, .inr (SqT.of upd_same), rfl, rfl, _, rfl, ite2 (fun g => absurd g (by decide +kernel)) (fun _ => ⟨_, rfl, a, C, d, _, _, rfl, ((same_upd zt1) _ _ ha1), ((same_upd zt1) _ _ hd1), A.xf, nC1, rfl, (by show 3 ≤ sizeLine; decide), fun t2 zt2 => ⟨t2, _, rfl, .inr (SqT.of upd_same), rfl, rfl, _, rfl, ite2 (fun g => absurd g (by decide +kernel)) (fun _ => ⟨_, rfl, a, C, d, _, _, rfl, ((same_upd zt2) _ _ ((same_upd zt1) _ _ ha1)), ((same_upd zt2) _ _ ((same_upd zt1) _ _ hd1)), A.xf, nC1, rfl, (by show 2 ≤ sizeLine; decide), fun t3 zt3 => ⟨t3, _, rfl, .inr (SqT.of upd_same), rfl, rfl, _, rfl, ite2 (fun _ => ⟨_, rfl, a, C, d, _, _, rfl, ((same_upd zt3) _ _ ((same_upd zt2) _ _ ((same_upd zt1) _ _ ha1))), ((same_upd zt3) _ _ ((same_upd zt2) _ _ ((same_upd zt1) _ _ hd1))), A.xf, nC1, rfl, rfl, _, rfl, ite2 (fun g => absurd g (by decide +kernel)) (fun _ => ⟨_, rfl, a, C, d, _, _, rfl, ((same_upd zt3) _ _ ((same_upd zt2) _ _ ((same_upd zt1) _ _ ha1))), ((same_upd zt3) _ _ ((same_upd zt2) _ _ ((same_upd zt1) _ _ hd1))), A.xf, nF1, rfl, (by show 1 ≤ sizeLine; decide), fun t zt => k t _ (Same.free (Same.trans (Same.trans (same_upd zt1) (same_upd zt2)) (same_upd zt3)) zt) (Same.trans (Same.trans (Same.trans (same_upd zt1) (same_upd zt2)) (same_upd zt3)) (same_upd zt)) upd_same⟩)⟩) (fun g => absurd (by decide +kernel) g)⟩⟩)⟩⟩)⟩⟩
    · have hd1 : H d = some (exd d [("code", .str "NotAThing"), ("name", v)]) := hd
      have ha1 : H a = some (exo a C (some d)) := ha
      have nF1 : PySem.W.findIn K (.ref C) "name" = some none := nF
      have nC1 : PySem.W.findIn K (.ref C) "code" = some none := A.nC
      exact ⟨_, rfl, a, C, d, _, _, rfl, ha1, hd1, A.xf, nC1, rfl, (by show 6 ≤ sizeLine; decide), fun t1 zt1 => ⟨t1, _, rfl, .inr (SqT.of upd_same), rfl, rfl, _, rfl, ite2 (fun g => absurd g (by decide +kernel)) (fun _ => ⟨_, rfl, a, C, d, _, _, rfl, ((same_upd zt1) _ _ ha1), ((same_upd zt1) _ _ hd1), A.xf, nC1, rfl, (by show 3 ≤ sizeLine; decide), fun t2 zt2 => ⟨t2, _, rfl, .inr (SqT.of upd_same), rfl, rfl, _, rfl, ite2 (fun _ => ⟨_, rfl, a, C, d, _, _, rfl, ((same_upd zt2) _ _ ((same_upd zt1) _ _ ha1)), ((same_upd zt2) _ _ ((same_upd zt1) _ _ hd1)), A.xf, nF1, rfl, (by show 1 ≤ sizeLine; decide), fun t zt => k t _ (Same.free (Same.trans (same_upd zt1) (same_upd zt2)) zt) (Same.trans (Same.trans (same_upd zt1) (same_upd zt2)) (same_upd zt)) upd_same⟩) (fun g => absurd (by decide +kernel) g)⟩⟩)⟩⟩
    · have hd1 : H d = some (exd d [("code", .str "Contradiction"), ("at", v)]) := hd
      have ha1 : H a = some (exo a C (some d)) := ha
      have nF1 : PySem.W.findIn K (.ref C) "at" = some none := nF
      have nC1 : PySem.W.findIn K (.ref C) "code" = some none := A.nC
      exact ⟨_, rfl, a, C, d, _, _, rfl, ha1, hd1, A.xf, nC1, rfl, (by show 6 ≤ sizeLine; decide), fun t1 zt1 => ⟨t1, _, rfl, .inr (SqT.of upd_same), rfl, rfl, _, rfl, ite2 (fun _ => ⟨_, rfl, a, C, d, _, _, rfl, ((same_upd zt1) _ _ ha1), ((same_upd zt1) _ _ hd1), A.xf, nF1, rfl, (by show 1 ≤ sizeLine; decide), fun t zt => k t _ (Same.free (same_upd zt1) zt) (Same.trans (same_upd zt1) (same_upd zt)) upd_same⟩) (fun g => absurd (by decide +kernel) g)⟩⟩
    · have hd1 : H d = some (exd d [("code", .str "InvalidRule"), ("given", v)]) := hd
      have ha1 : H a = some (exo a C (some d)) := ha
      have nF1 : PySem.W.findIn K (.ref C) "given" = some none := nF
      have nC1 : PySem.W.findIn K (.ref C) "code" = some none := A.nC
      exact ⟨_, rfl, a, C, d, _, _, rfl, ha1, hd1, A.xf, nC1, rfl, (by show 6 ≤ sizeLine; decide), fun t1 zt1 => ⟨t1, _, rfl, .inr (SqT.of upd_same), rfl, rfl, _, rfl, ite2 (fun g => absurd g (by decide +kernel)) (fun _ => ⟨_, rfl, a, C, d, _, _, rfl, ((same_upd zt1) _ _ ha1), ((same_upd zt1) _ _ hd1), A.xf, nC1, rfl, (by show 3 ≤ sizeLine; decide), fun t2 zt2 => ⟨t2, _, rfl, .inr (SqT.of upd_same), rfl, rfl, _, rfl, ite2 (fun g => absurd g (by decide +kernel)) (fun _ => ⟨_, rfl, a, C, d, _, _, rfl, ((same_upd zt2) _ _ ((same_upd zt1) _ _ ha1)), ((same_upd zt2) _ _ ((same_upd zt1) _ _ hd1)), A.xf, nC1, rfl, (by show 2 ≤ sizeLine; decide), fun t3 zt3 => ⟨t3, _, rfl, .inr (SqT.of upd_same), rfl, rfl, _, rfl, ite2 (fun g => absurd g (by decide +kernel)) (fun _ => ⟨_, rfl, a, C, d, _, _, rfl, ((same_upd zt3) _ _ ((same_upd zt2) _ _ ((same_upd zt1) _ _ ha1))), ((same_upd zt3) _ _ ((same_upd zt2) _ _ ((same_upd zt1) _ _ hd1))), A.xf, nC1, rfl, rfl, _, rfl, ite2 (fun g => absurd g (by decide +kernel)) (fun _ => ⟨_, rfl, a, C, d, _, _, rfl, ((same_upd zt3) _ _ ((same_upd zt2) _ _ ((same_upd zt1) _ _ ha1))), ((same_upd zt3) _ _ ((same_upd zt2) _ _ ((same_upd zt1) _ _ hd1))), A.xf, nC1, rfl, rfl, _, rfl, ite2 (fun g => absurd g (by decide +kernel)) (fun _ => ⟨_, rfl, a, C, d, _, _, rfl, ((same_upd zt3) _ _ ((same_upd zt2) _ _ ((same_upd zt1) _ _ ha1))), ((same_upd zt3) _ _ ((same_upd zt2) _ _ ((same_upd zt1) _ _ hd1))), A.xf, nF1, rfl, (by show 1 ≤ sizeLine; decide), fun t zt => k t _ (Same.free (Same.trans (Same.trans (same_upd zt1) (same_upd zt2)) (same_upd zt3)) zt) (Same.trans (Same.trans (Same.trans (same_upd zt1) (same_upd zt2)) (same_upd zt3)) (same_upd zt)) upd_same⟩)⟩)⟩)⟩⟩)⟩⟩)⟩⟩
    · have hd1 : H d = some (exd d [("code", .str "InvalidCommand"), ("at", v)]) := hd
      have ha1 : H a = some (exo a C (some d)) := ha
      have nF1 : PySem.W.findIn K (.ref C) "at" = some none := nF
      have nC1 : PySem.W.findIn K (.ref C) "code" = some none := A.nC
      exact ⟨_, rfl, a, C, d, _, _, rfl, ha1, hd1, A.xf, nC1, rfl, (by show 6 ≤ sizeLine; decide), fun t1 zt1 => ⟨t1, _, rfl, .inr (SqT.of upd_same), rfl, rfl, _, rfl, ite2 (fun _ => ⟨_, rfl, a, C, d, _, _, rfl, ((same_upd zt1) _ _ ha1), ((same_upd zt1) _ _ hd1), A.xf, nF1, rfl, (by show 1 ≤ sizeLine; decide), fun t zt => k t _ (Same.free (same_upd zt1) zt) (Same.trans (same_upd zt1) (same_upd zt)) upd_same⟩) (fun g => absurd (by decide +kernel) g)⟩⟩
    · have hd1 : H d = some (exd d [("code", .str "InvalidLimit"), ("given", v)]) := hd
      have ha1 : H a = some (exo a C (some d)) := ha
      have nF1 : PySem.W.findIn K (.ref C) "given" = some none := nF
      have nC1 : PySem.W.findIn K (.ref C) "code" = some none := A.nC
      exact ⟨_, rfl, a, C, d, _, _, rfl, ha1, hd1, A.xf, nC1, rfl, (by show 6 ≤ sizeLine; decide), fun t1 zt1 => ⟨t1, _, rfl, .inr (SqT.of upd_same), rfl, rfl, _, rfl, ite2 (fun g => absurd g (by decide +kernel)) (fun _ => ⟨_, rfl, a, C, d, _, _, rfl, ((same_upd zt1) _ _ ha1), ((same_upd zt1) _ _ hd1), A.xf, nC1, rfl, (by show 3 ≤ sizeLine; decide), fun t2 zt2 => ⟨t2, _, rfl, .inr (SqT.of upd_same), rfl, rfl, _, rfl, ite2 (fun g => absurd g (by decide +kernel)) (fun _ => ⟨_, rfl, a, C, d, _, _, rfl, ((same_upd zt2) _ _ ((same_upd zt1) _ _ ha1)), ((same_upd zt2) _ _ ((same_upd zt1) _ _ hd1)), A.xf, nC1, rfl, (by show 2 ≤ sizeLine; decide), fun t3 zt3 => ⟨t3, _, rfl, .inr (SqT.of upd_same), rfl, rfl, _, rfl, ite2 (fun g => absurd g (by decide +kernel)) (fun _ => ⟨_, rfl, a, C, d, _, _, rfl, ((same_upd zt3) _ _ ((same_upd zt2) _ _ ((same_upd zt1) _ _ ha1))), ((same_upd zt3) _ _ ((same_upd zt2) _ _ ((same_upd zt1) _ _ hd1))), A.xf, nC1, rfl, rfl, _, rfl, ite2 (fun g => absurd g (by decide +kernel)) (fun _ => ⟨_, rfl, a, C, d, _, _, rfl, ((same_upd zt3) _ _ ((same_upd zt2) _ _ ((same_upd zt1) _ _ ha1))), ((same_upd zt3) _ _ ((same_upd zt2) _ _ ((same_upd zt1) _ _ hd1))), A.xf, nC1, rfl, rfl, _, rfl, ite2 (fun g => absurd g (by decide +kernel)) (fun _ => ⟨_, rfl, a, C, d, _, _, rfl, ((same_upd zt3) _ _ ((same_upd zt2) _ _ ((same_upd zt1) _ _ ha1))), ((same_upd zt3) _ _ ((same_upd zt2) _ _ ((same_upd zt1) _ _ hd1))), A.xf, nF1, rfl, (by show 1 ≤ sizeLine; decide), fun t zt => k t _ (Same.free (Same.trans (Same.trans (same_upd zt1) (same_upd zt2)) (same_upd zt3)) zt) (Same.trans (Same.trans (Same.trans (same_upd zt1) (same_upd zt2)) (same_upd zt3)) (same_upd zt)) upd_same⟩)⟩)⟩)⟩⟩)⟩⟩)⟩⟩
    · have hd1 : H d = some (exd d [("code", .str "InvalidPage"), ("line", v)]) := hd
      have ha1 : H a = some (exo a C (some d)) := ha
      have nF1 : PySem.W.findIn K (.ref C) "line" = some none := nF
      have nC1 : PySem.W.findIn K (.ref C) "code" = some none := A.nC
      exact ⟨_, rfl, a, C, d, _, _, rfl, ha1, hd1, A.xf, nC1, rfl, (by show 6 ≤ sizeLine; decide), fun t1 zt1 => ⟨t1, _, rfl, .inr (SqT.of upd_same), rfl, rfl, _, rfl, ite2 (fun g => absurd g (by decide +kernel)) (fun _ => ⟨_, rfl, a, C, d, _, _, rfl, ((same_upd zt1) _ _ ha1), ((same_upd zt1) _ _ hd1), A.xf, nC1, rfl, (by show 3 ≤ sizeLine; decide), fun t2 zt2 => ⟨t2, _, rfl, .inr (SqT.of upd_same), rfl, rfl, _, rfl, ite2 (fun g => absurd g (by decide +kernel)) (fun _ => ⟨_, rfl, a, C, d, _, _, rfl, ((same_upd zt2) _ _ ((same_upd zt1) _ _ ha1)), ((same_upd zt2) _ _ ((same_upd zt1) _ _ hd1)), A.xf, nC1, rfl, (by show 2 ≤ sizeLine; decide), fun t3 zt3 => ⟨t3, _, rfl, .inr (SqT.of upd_same), rfl, rfl, _, rfl, ite2 (fun g => absurd g (by decide +kernel)) (fun _ => ⟨_, rfl, a, C, d, _, _, rfl, ((same_upd zt3) _ _ ((same_upd zt2) _ _ ((same_upd zt1) _ _ ha1))), ((same_upd zt3) _ _ ((same_upd zt2) _ _ ((same_upd zt1) _ _ hd1))), A.xf, nC1, rfl, rfl, _, rfl, ite2 (fun g => absurd g (by decide +kernel)) (fun _ => ⟨_, rfl, a, C, d, _, _, rfl, ((same_upd zt3) _ _ ((same_upd zt2) _ _ ((same_upd zt1) _ _ ha1))), ((same_upd zt3) _ _ ((same_upd zt2) _ _ ((same_upd zt1) _ _ hd1))), A.xf, nC1, rfl, rfl, _, rfl, ite2 (fun _ => ⟨_, rfl, a, C, d, _, _, rfl, ((same_upd zt3) _ _ ((same_upd zt2) _ _ ((same_upd zt1) _ _ ha1))), ((same_upd zt3) _ _ ((same_upd zt2) _ _ ((same_upd zt1) _ _ hd1))), A.xf, nF1, rfl, (by show 1 ≤ sizeLine; decide), fun t zt => k t _ (Same.free (Same.trans (Same.trans (same_upd zt1) (same_upd zt2)) (same_upd zt3)) zt) (Same.trans (Same.trans (Same.trans (same_upd zt1) (same_upd zt2)) (same_upd zt3)) (same_upd zt)) upd_same⟩) (fun g => absurd (by decide +kernel) g)⟩)⟩)⟩⟩)⟩⟩)⟩⟩
    · have hd1 : H d = some (exd d [("code", .str "UnknownName"), ("name", v)]) := hd
      have ha1 : H a = some (exo a C (some d)) := ha
      have nF1 : PySem.W.findIn K (.ref C) "name" = some none := nF
      have nC1 : PySem.W.findIn K (.ref C) "code" = some none := A.nC
      exact ⟨_, rfl, a, C, d, _, _, rfl, ha1, hd1, A.xf, nC1, rfl, (by show 6 ≤ sizeLine; decide), fun t1 zt1 => ⟨t1, _, rfl, .inr (SqT.of upd_same), rfl, rfl, _, rfl, ite2 (fun g => absurd g (by decide +kernel)) (fun _ => ⟨_, rfl, a, C, d, _, _, rfl, ((same_upd zt1) _ _ ha1), ((same_upd zt1) _ _ hd1), A.xf, nC1, rfl, (by show 3 ≤ sizeLine; decide), fun t2 zt2 => ⟨t2, _, rfl, .inr (SqT.of upd_same), rfl, rfl, _, rfl, ite2 (fun _ => ⟨_, rfl, a, C, d, _, _, rfl, ((same_upd zt2) _ _ ((same_upd zt1) _ _ ha1)), ((same_upd zt2) _ _ ((same_upd zt1) _ _ hd1)), A.xf, nF1, rfl, (by show 1 ≤ sizeLine; decide), fun t zt => k t _ (Same.free (Same.trans (same_upd zt1) (same_upd zt2)) zt) (Same.trans (Same.trans (same_upd zt1) (same_upd zt2)) (same_upd zt)) upd_same⟩) (fun g => absurd (by decide +kernel) g)⟩⟩)⟩⟩
structure TxI (mg : Str → Option Value) : Prop where
  len : mg "len" = none
  isinstance : mg "isinstance" = none
def spCls (K : PySem.W.Frag) (Cs : List Addr) : Sp := fun vs H Q _ => ∃ (x : V) (D : Addr) (fs : List (Str × V)) (bf : Addr → Bool), vs = [x] ∧ Ex.Xv H x D fs ∧ ExcC K D ∧ (PySem.W.clsIn K D).isSome = true ∧ (∀ c ∈ Cs, PySem.W.kitOne K (.ref D) (.ref c) = some (bf c)) ∧
  ∀ H', Same H H' → Q (.int (((Cs.map bf).filter id).length : Nat)) H'
theorem scClasses : FnScope ["_law_e", "_law_found", "_law_told"] ["_law_e"] (defScope sClasses) := ⟨rfl, rfl, rfl, by decide +kernel, rfl, by decide +kernel, by decide +kernel⟩
theorem ok_classes {C1 C2 C3 C4 C5 C6 C7 C8 C9 C10 C11 C12 C13 C14 C15 C16 C17 C18 f : Addr} {fd : FuncData} {k : Nat} (F : Fun K "_law_classes_of" "_law_classes_of" sClasses f fd) (T : TxI mg) (m1 : mg "InvalidNumber" = some (.ref C1)) (m2 : mg "InvalidName" = some (.ref C2)) (m3 : mg "InvalidSpan" = some (.ref C3)) (m4 : mg "InvalidText" = some (.ref C4)) (m5 : mg "InvalidSeat" = some (.ref C5)) (m6 : mg "InvalidRecord" = some (.ref C6)) (m7 : mg "Clash" = some (.ref C7)) (m8 : mg "DuplicateName" = some (.ref C8)) (m9 : mg "DuplicateNumber" = some (.ref C9)) (m10 : mg "TooMany" = some (.ref C10)) (m11 : mg "Full" = some (.ref C11)) (m12 : mg "NotAThing" = some (.ref C12)) (m13 : mg "Contradiction" = some (.ref C13)) (m14 : mg "InvalidRule" = some (.ref C14)) (m15 : mg "InvalidCommand" = some (.ref C15)) (m16 : mg "InvalidLimit" = some (.ref C16)) (m17 : mg "InvalidPage" = some (.ref C17)) (m18 : mg "UnknownName" = some (.ref C18)) : FnOk P w K mg base CX0 (k + 1) f fd ["_law_e"] (spCls K [C1, C2, C3, C4, C5, C6, C7, C8, C9, C10, C11, C12, C13, C14, C15, C16, C17, C18]) := by
  refine F.ok scClasses (fun vs H Q E h => ?_) (fun cdv A outer s H vs Q E hr h => ?_)
  · obtain ⟨x, D, fs, bf, rfl, _⟩ := h
    rfl
  · obtain ⟨x, D, fs, bf, rfl, ⟨a, d, rfl, ha, hd⟩, ec, ic, ks, k⟩ := h
    have k1 := ks C1 (by simp)
    have k2 := ks C2 (by simp)
    have k3 := ks C3 (by simp)
    have k4 := ks C4 (by simp)
    have k5 := ks C5 (by simp)
    have k6 := ks C6 (by simp)
    have k7 := ks C7 (by simp)
    have k8 := ks C8 (by simp)
    have k9 := ks C9 (by simp)
    have k10 := ks C10 (by simp)
    have k11 := ks C11 (by simp)
    have k12 := ks C12 (by simp)
    have k13 := ks C13 (by simp)
    have k14 := ks C14 (by simp)
    have k15 := ks C15 (by simp)
    have k16 := ks C16 (by simp)
    have k17 := ks C17 (by simp)
    have k18 := ks C18 (by simp)
    refine ⟨_, PSs.nox (pss_cons (ps_set (i := 1) scClasses.nd rfl (Or.inl rfl) (pe_lst (pa_cons (pe_callB Ex.call_isX (by rfl) T.isinstance PyProof.Rows.boot_isinstance (pa_cons (pv 0) (pa_cons (pe_glob (v := .ref C1) (by rfl) m1 rfl) pa_nil))) (pa_cons (pe_callB Ex.call_isX (by rfl) T.isinstance PyProof.Rows.boot_isinstance (pa_cons (pv 0) (pa_cons (pe_glob (v := .ref C2) (by rfl) m2 rfl) pa_nil))) (pa_cons (pe_callB Ex.call_isX (by rfl) T.isinstance PyProof.Rows.boot_isinstance (pa_cons (pv 0) (pa_cons (pe_glob (v := .ref C3) (by rfl) m3 rfl) pa_nil))) pa_nil)))))
 (pss_cons (ps_set (i := 1) scClasses.nd rfl (Or.inl rfl) (pe_op op_cat (pv 1) (pe_lst (pa_cons (pe_callB Ex.call_isX (by rfl) T.isinstance PyProof.Rows.boot_isinstance (pa_cons (pv 0) (pa_cons (pe_glob (v := .ref C4) (by rfl) m4 rfl) pa_nil))) (pa_cons (pe_callB Ex.call_isX (by rfl) T.isinstance PyProof.Rows.boot_isinstance (pa_cons (pv 0) (pa_cons (pe_glob (v := .ref C5) (by rfl) m5 rfl) pa_nil))) (pa_cons (pe_callB Ex.call_isX (by rfl) T.isinstance PyProof.Rows.boot_isinstance (pa_cons (pv 0) (pa_cons (pe_glob (v := .ref C6) (by rfl) m6 rfl) pa_nil))) pa_nil))))))
 (pss_cons (ps_set (i := 1) scClasses.nd rfl (Or.inl rfl) (pe_op op_cat (pv 1) (pe_lst (pa_cons (pe_callB Ex.call_isX (by rfl) T.isinstance PyProof.Rows.boot_isinstance (pa_cons (pv 0) (pa_cons (pe_glob (v := .ref C7) (by rfl) m7 rfl) pa_nil))) (pa_cons (pe_callB Ex.call_isX (by rfl) T.isinstance PyProof.Rows.boot_isinstance (pa_cons (pv 0) (pa_cons (pe_glob (v := .ref C8) (by rfl) m8 rfl) pa_nil))) (pa_cons (pe_callB Ex.call_isX (by rfl) T.isinstance PyProof.Rows.boot_isinstance (pa_cons (pv 0) (pa_cons (pe_glob (v := .ref C9) (by rfl) m9 rfl) pa_nil))) pa_nil))))))
 (pss_cons (ps_set (i := 1) scClasses.nd rfl (Or.inl rfl) (pe_op op_cat (pv 1) (pe_lst (pa_cons (pe_callB Ex.call_isX (by rfl) T.isinstance PyProof.Rows.boot_isinstance (pa_cons (pv 0) (pa_cons (pe_glob (v := .ref C10) (by rfl) m10 rfl) pa_nil))) (pa_cons (pe_callB Ex.call_isX (by rfl) T.isinstance PyProof.Rows.boot_isinstance (pa_cons (pv 0) (pa_cons (pe_glob (v := .ref C11) (by rfl) m11 rfl) pa_nil))) (pa_cons (pe_callB Ex.call_isX (by rfl) T.isinstance PyProof.Rows.boot_isinstance (pa_cons (pv 0) (pa_cons (pe_glob (v := .ref C12) (by rfl) m12 rfl) pa_nil))) (pa_cons (pe_callB Ex.call_isX (by rfl) T.isinstance PyProof.Rows.boot_isinstance (pa_cons (pv 0) (pa_cons (pe_glob (v := .ref C13) (by rfl) m13 rfl) pa_nil))) pa_nil)))))))
 (pss_cons (ps_set (i := 1) scClasses.nd rfl (Or.inl rfl) (pe_op op_cat (pv 1) (pe_lst (pa_cons (pe_callB Ex.call_isX (by rfl) T.isinstance PyProof.Rows.boot_isinstance (pa_cons (pv 0) (pa_cons (pe_glob (v := .ref C14) (by rfl) m14 rfl) pa_nil))) (pa_cons (pe_callB Ex.call_isX (by rfl) T.isinstance PyProof.Rows.boot_isinstance (pa_cons (pv 0) (pa_cons (pe_glob (v := .ref C15) (by rfl) m15 rfl) pa_nil))) (pa_cons (pe_callB Ex.call_isX (by rfl) T.isinstance PyProof.Rows.boot_isinstance (pa_cons (pv 0) (pa_cons (pe_glob (v := .ref C16) (by rfl) m16 rfl) pa_nil))) pa_nil))))))
 (pss_one (ps_ret (pe_callB call_len_seq (by rfl) T.len PySem.boot_len (pa_cons (pe_lc (own := [("_law_told", 2)]) (g := gName 2) rfl scClasses.nd (pi_list (pe_op op_cat (pv 1) (pe_lst (pa_cons (pe_callB Ex.call_isX (by rfl) T.isinstance PyProof.Rows.boot_isinstance (pa_cons (pv 0) (pa_cons (pe_glob (v := .ref C17) (by rfl) m17 rfl) pa_nil))) (pa_cons (pe_callB Ex.call_isX (by rfl) T.isinstance PyProof.Rows.boot_isinstance (pa_cons (pv 0) (pa_cons (pe_glob (v := .ref C18) (by rfl) m18 rfl) pa_nil))) pa_nil))))) (blkOk_by (own := [("_law_told", 2)]) (N := ["_law_e", "_law_found", "_law_told"]) (sc := defScope sClasses) (by decide +kernel)) (fun _ _ _ _ _ => (pg_name (i := 2) scClasses.nd rfl (Or.inl rfl))) (fun _ _ _ _ _ => (pts_one (pt_val (pv 2)))) (fun _ _ _ _ _ => (pv 2))) pa_nil))))))))), ?_⟩
    refine ⟨_, rfl, a, D, d, fs, _, _, bf C1, rfl, ha, hd, ec, ic, .own C1, k1, ?_⟩
    refine ⟨_, rfl, a, D, d, fs, _, _, bf C2, rfl, ha, hd, ec, ic, .own C2, k2, ?_⟩
    refine ⟨_, rfl, a, D, d, fs, _, _, bf C3, rfl, ha, hd, ec, ic, .own C3, k3, ?_⟩
    refine ⟨(by show 3 ≤ sizeLine; decide), fun c0 nc0 => ?_⟩
    have sc0 := same_upd (o := .lst [.bl (bf C1), .bl (bf C2), .bl (bf C3)]) nc0
    have hl0 := upd_same (H := H) (a := c0) (o := .lst [.bl (bf C1), .bl (bf C2), .bl (bf C3)])
    have ha1 := (sc0) _ _ ha
    have hd1 := (sc0) _ _ hd
    refine ⟨_, rfl, _, rfl, a, D, d, fs, _, _, bf C4, rfl, ha1, hd1, ec, ic, .own C4, k4, ?_⟩
    refine ⟨_, rfl, a, D, d, fs, _, _, bf C5, rfl, ha1, hd1, ec, ic, .own C5, k5, ?_⟩
    refine ⟨_, rfl, a, D, d, fs, _, _, bf C6, rfl, ha1, hd1, ec, ic, .own C6, k6, ?_⟩
    refine ⟨(by show 3 ≤ sizeLine; decide), fun c1 nc1 => ?_⟩
    have sc1 := same_upd (o := .lst [.bl (bf C4), .bl (bf C5), .bl (bf C6)]) nc1
    have ho1 := sc1 _ _ hl0
    refine ⟨_, _, _, _, rfl, rfl, ho1, upd_same, (by show 6 ≤ sizeLine; decide), fun e1 ne1 => ?_⟩
    have se1 := same_upd (o := .lst ([.bl (bf C1), .bl (bf C2), .bl (bf C3)] ++ [.bl (bf C4), .bl (bf C5), .bl (bf C6)])) ne1
    have hl1 : _ = some (HO.lst [.bl (bf C1), .bl (bf C2), .bl (bf C3), .bl (bf C4), .bl (bf C5), .bl (bf C6)]) := upd_same (H := (upd (upd H c0 (.lst [.bl (bf C1), .bl (bf C2), .bl (bf C3)])) c1 (.lst [.bl (bf C4), .bl (bf C5), .bl (bf C6)]))) (a := e1) (o := .lst [.bl (bf C1), .bl (bf C2), .bl (bf C3), .bl (bf C4), .bl (bf C5), .bl (bf C6)])
    have ha2 := (sc0.trans (sc1.trans (se1))) _ _ ha
    have hd2 := (sc0.trans (sc1.trans (se1))) _ _ hd
    refine ⟨_, rfl, _, rfl, a, D, d, fs, _, _, bf C7, rfl, ha2, hd2, ec, ic, .own C7, k7, ?_⟩
    refine ⟨_, rfl, a, D, d, fs, _, _, bf C8, rfl, ha2, hd2, ec, ic, .own C8, k8, ?_⟩
    refine ⟨_, rfl, a, D, d, fs, _, _, bf C9, rfl, ha2, hd2, ec, ic, .own C9, k9, ?_⟩
    refine ⟨(by show 3 ≤ sizeLine; decide), fun c2 nc2 => ?_⟩
    have sc2 := same_upd (o := .lst [.bl (bf C7), .bl (bf C8), .bl (bf C9)]) nc2
    have ho2 := sc2 _ _ hl1
    refine ⟨_, _, _, _, rfl, rfl, ho2, upd_same, (by show 9 ≤ sizeLine; decide), fun e2 ne2 => ?_⟩
    have se2 := same_upd (o := .lst ([.bl (bf C1), .bl (bf C2), .bl (bf C3), .bl (bf C4), .bl (bf C5), .bl (bf C6)] ++ [.bl (bf C7), .bl (bf C8), .bl (bf C9)])) ne2
    have hl2 : _ = some (HO.lst [.bl (bf C1), .bl (bf C2), .bl (bf C3), .bl (bf C4), .bl (bf C5), .bl (bf C6), .bl (bf C7), .bl (bf C8), .bl (bf C9)]) := upd_same (H := (upd (upd (upd (upd H c0 (.lst [.bl (bf C1), .bl (bf C2), .bl (bf C3)])) c1 (.lst [.bl (bf C4), .bl (bf C5), .bl (bf C6)])) e1 (.lst [.bl (bf C1), .bl (bf C2), .bl (bf C3), .bl (bf C4), .bl (bf C5), .bl (bf C6)])) c2 (.lst [.bl (bf C7), .bl (bf C8), .bl (bf C9)]))) (a := e2) (o := .lst [.bl (bf C1), .bl (bf C2), .bl (bf C3), .bl (bf C4), .bl (bf C5), .bl (bf C6), .bl (bf C7), .bl (bf C8), .bl (bf C9)])
    have ha3 := (sc0.trans (sc1.trans (se1.trans (sc2.trans (se2))))) _ _ ha
    have hd3 := (sc0.trans (sc1.trans (se1.trans (sc2.trans (se2))))) _ _ hd
    refine ⟨_, rfl, _, rfl, a, D, d, fs, _, _, bf C10, rfl, ha3, hd3, ec, ic, .own C10, k10, ?_⟩
    refine ⟨_, rfl, a, D, d, fs, _, _, bf C11, rfl, ha3, hd3, ec, ic, .own C11, k11, ?_⟩
    refine ⟨_, rfl, a, D, d, fs, _, _, bf C12, rfl, ha3, hd3, ec, ic, .own C12, k12, ?_⟩
    refine ⟨_, rfl, a, D, d, fs, _, _, bf C13, rfl, ha3, hd3, ec, ic, .own C13, k13, ?_⟩
    refine ⟨(by show 4 ≤ sizeLine; decide), fun c3 nc3 => ?_⟩
    have sc3 := same_upd (o := .lst [.bl (bf C10), .bl (bf C11), .bl (bf C12), .bl (bf C13)]) nc3
    have ho3 := sc3 _ _ hl2
    refine ⟨_, _, _, _, rfl, rfl, ho3, upd_same, (by show 13 ≤ sizeLine; decide), fun e3 ne3 => ?_⟩
    have se3 := same_upd (o := .lst ([.bl (bf C1), .bl (bf C2), .bl (bf C3), .bl (bf C4), .bl (bf C5), .bl (bf C6), .bl (bf C7), .bl (bf C8), .bl (bf C9)] ++ [.bl (bf C10), .bl (bf C11), .bl (bf C12), .bl (bf C13)])) ne3
    have hl3 : _ = some (HO.lst [.bl (bf C1), .bl (bf C2), .bl (bf C3), .bl (bf C4), .bl (bf C5), .bl (bf C6), .bl (bf C7), .bl (bf C8), .bl (bf C9), .bl (bf C10), .bl (bf C11), .bl (bf C12), .bl (bf C13)]) := upd_same (H := (upd (upd (upd (upd (upd (upd H c0 (.lst [.bl (bf C1), .bl (bf C2), .bl (bf C3)])) c1 (.lst [.bl (bf C4), .bl (bf C5), .bl (bf C6)])) e1 (.lst [.bl (bf C1), .bl (bf C2), .bl (bf C3), .bl (bf C4), .bl (bf C5), .bl (bf C6)])) c2 (.lst [.bl (bf C7), .bl (bf C8), .bl (bf C9)])) e2 (.lst [.bl (bf C1), .bl (bf C2), .bl (bf C3), .bl (bf C4), .bl (bf C5), .bl (bf C6), .bl (bf C7), .bl (bf C8), .bl (bf C9)])) c3 (.lst [.bl (bf C10), .bl (bf C11), .bl (bf C12), .bl (bf C13)]))) (a := e3) (o := .lst [.bl (bf C1), .bl (bf C2), .bl (bf C3), .bl (bf C4), .bl (bf C5), .bl (bf C6), .bl (bf C7), .bl (bf C8), .bl (bf C9), .bl (bf C10), .bl (bf C11), .bl (bf C12), .bl (bf C13)])
    have ha4 := (sc0.trans (sc1.trans (se1.trans (sc2.trans (se2.trans (sc3.trans (se3))))))) _ _ ha
    have hd4 := (sc0.trans (sc1.trans (se1.trans (sc2.trans (se2.trans (sc3.trans (se3))))))) _ _ hd
    refine ⟨_, rfl, _, rfl, a, D, d, fs, _, _, bf C14, rfl, ha4, hd4, ec, ic, .own C14, k14, ?_⟩
    refine ⟨_, rfl, a, D, d, fs, _, _, bf C15, rfl, ha4, hd4, ec, ic, .own C15, k15, ?_⟩
    refine ⟨_, rfl, a, D, d, fs, _, _, bf C16, rfl, ha4, hd4, ec, ic, .own C16, k16, ?_⟩
    refine ⟨(by show 3 ≤ sizeLine; decide), fun c4 nc4 => ?_⟩
    have sc4 := same_upd (o := .lst [.bl (bf C14), .bl (bf C15), .bl (bf C16)]) nc4
    have ho4 := sc4 _ _ hl3
    refine ⟨_, _, _, _, rfl, rfl, ho4, upd_same, (by show 16 ≤ sizeLine; decide), fun e4 ne4 => ?_⟩
    have se4 := same_upd (o := .lst ([.bl (bf C1), .bl (bf C2), .bl (bf C3), .bl (bf C4), .bl (bf C5), .bl (bf C6), .bl (bf C7), .bl (bf C8), .bl (bf C9), .bl (bf C10), .bl (bf C11), .bl (bf C12), .bl (bf C13)] ++ [.bl (bf C14), .bl (bf C15), .bl (bf C16)])) ne4
    have hl4 : _ = some (HO.lst [.bl (bf C1), .bl (bf C2), .bl (bf C3), .bl (bf C4), .bl (bf C5), .bl (bf C6), .bl (bf C7), .bl (bf C8), .bl (bf C9), .bl (bf C10), .bl (bf C11), .bl (bf C12), .bl (bf C13), .bl (bf C14), .bl (bf C15), .bl (bf C16)]) := upd_same (H := (upd (upd (upd (upd (upd (upd (upd (upd H c0 (.lst [.bl (bf C1), .bl (bf C2), .bl (bf C3)])) c1 (.lst [.bl (bf C4), .bl (bf C5), .bl (bf C6)])) e1 (.lst [.bl (bf C1), .bl (bf C2), .bl (bf C3), .bl (bf C4), .bl (bf C5), .bl (bf C6)])) c2 (.lst [.bl (bf C7), .bl (bf C8), .bl (bf C9)])) e2 (.lst [.bl (bf C1), .bl (bf C2), .bl (bf C3), .bl (bf C4), .bl (bf C5), .bl (bf C6), .bl (bf C7), .bl (bf C8), .bl (bf C9)])) c3 (.lst [.bl (bf C10), .bl (bf C11), .bl (bf C12), .bl (bf C13)])) e3 (.lst [.bl (bf C1), .bl (bf C2), .bl (bf C3), .bl (bf C4), .bl (bf C5), .bl (bf C6), .bl (bf C7), .bl (bf C8), .bl (bf C9), .bl (bf C10), .bl (bf C11), .bl (bf C12), .bl (bf C13)])) c4 (.lst [.bl (bf C14), .bl (bf C15), .bl (bf C16)]))) (a := e4) (o := .lst [.bl (bf C1), .bl (bf C2), .bl (bf C3), .bl (bf C4), .bl (bf C5), .bl (bf C6), .bl (bf C7), .bl (bf C8), .bl (bf C9), .bl (bf C10), .bl (bf C11), .bl (bf C12), .bl (bf C13), .bl (bf C14), .bl (bf C15), .bl (bf C16)])
    have ha5 := (sc0.trans (sc1.trans (se1.trans (sc2.trans (se2.trans (sc3.trans (se3.trans (sc4.trans (se4))))))))) _ _ ha
    have hd5 := (sc0.trans (sc1.trans (se1.trans (sc2.trans (se2.trans (sc3.trans (se3.trans (sc4.trans (se4))))))))) _ _ hd
    refine ⟨_, rfl, _, rfl, a, D, d, fs, _, _, bf C17, rfl, ha5, hd5, ec, ic, .own C17, k17, ?_⟩
    refine ⟨_, rfl, a, D, d, fs, _, _, bf C18, rfl, ha5, hd5, ec, ic, .own C18, k18, ?_⟩
    refine ⟨(by show 2 ≤ sizeLine; decide), fun c5 nc5 => ?_⟩
    have sc5 := same_upd (o := .lst [.bl (bf C17), .bl (bf C18)]) nc5
    have ho5 := sc5 _ _ hl4
    refine ⟨_, _, _, _, rfl, rfl, ho5, upd_same, (by show 18 ≤ sizeLine; decide), fun e5 ne5 => ?_⟩
    have se5 := same_upd (o := .lst ([.bl (bf C1), .bl (bf C2), .bl (bf C3), .bl (bf C4), .bl (bf C5), .bl (bf C6), .bl (bf C7), .bl (bf C8), .bl (bf C9), .bl (bf C10), .bl (bf C11), .bl (bf C12), .bl (bf C13), .bl (bf C14), .bl (bf C15), .bl (bf C16)] ++ [.bl (bf C17), .bl (bf C18)])) ne5
    have hl5 : _ = some (HO.lst [.bl (bf C1), .bl (bf C2), .bl (bf C3), .bl (bf C4), .bl (bf C5), .bl (bf C6), .bl (bf C7), .bl (bf C8), .bl (bf C9), .bl (bf C10), .bl (bf C11), .bl (bf C12), .bl (bf C13), .bl (bf C14), .bl (bf C15), .bl (bf C16), .bl (bf C17), .bl (bf C18)]) := upd_same (H := (upd (upd (upd (upd (upd (upd (upd (upd (upd (upd H c0 (.lst [.bl (bf C1), .bl (bf C2), .bl (bf C3)])) c1 (.lst [.bl (bf C4), .bl (bf C5), .bl (bf C6)])) e1 (.lst [.bl (bf C1), .bl (bf C2), .bl (bf C3), .bl (bf C4), .bl (bf C5), .bl (bf C6)])) c2 (.lst [.bl (bf C7), .bl (bf C8), .bl (bf C9)])) e2 (.lst [.bl (bf C1), .bl (bf C2), .bl (bf C3), .bl (bf C4), .bl (bf C5), .bl (bf C6), .bl (bf C7), .bl (bf C8), .bl (bf C9)])) c3 (.lst [.bl (bf C10), .bl (bf C11), .bl (bf C12), .bl (bf C13)])) e3 (.lst [.bl (bf C1), .bl (bf C2), .bl (bf C3), .bl (bf C4), .bl (bf C5), .bl (bf C6), .bl (bf C7), .bl (bf C8), .bl (bf C9), .bl (bf C10), .bl (bf C11), .bl (bf C12), .bl (bf C13)])) c4 (.lst [.bl (bf C14), .bl (bf C15), .bl (bf C16)])) e4 (.lst [.bl (bf C1), .bl (bf C2), .bl (bf C3), .bl (bf C4), .bl (bf C5), .bl (bf C6), .bl (bf C7), .bl (bf C8), .bl (bf C9), .bl (bf C10), .bl (bf C11), .bl (bf C12), .bl (bf C13), .bl (bf C14), .bl (bf C15), .bl (bf C16)])) c5 (.lst [.bl (bf C17), .bl (bf C18)]))) (a := e5) (o := .lst [.bl (bf C1), .bl (bf C2), .bl (bf C3), .bl (bf C4), .bl (bf C5), .bl (bf C6), .bl (bf C7), .bl (bf C8), .bl (bf C9), .bl (bf C10), .bl (bf C11), .bl (bf C12), .bl (bf C13), .bl (bf C14), .bl (bf C15), .bl (bf C16), .bl (bf C17), .bl (bf C18)])
    have all := sc0.trans (sc1.trans (se1.trans (sc2.trans (se2.trans (sc3.trans (se3.trans (sc4.trans (se4.trans (sc5.trans (se5))))))))))
    refine ⟨e5, rfl, ⟨_, SqL.of hl5⟩, fun L nL => lc_list (K := K) (a := e5) (xs := ([C1, C2, C3, C4, C5, C6, C7, C8, C9, C10, C11, C12, C13, C14, C15, C16, C17, C18].map bf).map V.bl) (fun i H' => Same _ H' ∧ H' L = some (.lst (((([C1, C2, C3, C4, C5, C6, C7, C8, C9, C10, C11, C12, C13, C14, C15, C16, C17, C18].map bf).take i).filter id).map V.bl))) ⟨same_upd nL, upd_same⟩ (fun i H' _ q => SqL.of (q.1 _ _ hl5)) ?_ ?_⟩
    · rintro i y H' hi ⟨hs, hL⟩
      rw [List.getElem?_map] at hi
      obtain ⟨b, hb, rfl⟩ := Option.map_eq_some_iff.mp hi
      have il := List.length_take_le' i ([C1, C2, C3, C4, C5, C6, C7, C8, C9, C10, C11, C12, C13, C14, C15, C16, C17, C18].map bf)
      have fl := List.length_filter_le id (([C1, C2, C3, C4, C5, C6, C7, C8, C9, C10, C11, C12, C13, C14, C15, C16, C17, C18].map bf).take i)
      have e18 : ([C1, C2, C3, C4, C5, C6, C7, C8, C9, C10, C11, C12, C13, C14, C15, C16, C17, C18].map bf).length = 18 := rfl
      refine ⟨rfl, _, rfl, _, rfl, ite2 (fun g => ?_) (fun g => ?_)⟩
      · refine ⟨_, rfl, _, hL, sz (by rw [List.length_map]; omega), same_mut hs nL, ?_⟩
        have gb : b = true := g
        rw [upd_same, take_succ' hb, List.filter_append, List.map_append, gb]
        rfl
      · have gb : b = false := by simpa using g
        refine ⟨hs, ?_⟩
        rw [take_succ' hb, List.filter_append, gb]
        show _ = some (HO.lst ((_ ++ []).map V.bl))
        rw [List.append_nil]
        exact hL
    · rintro H' ⟨hs, hL⟩
      rw [List.length_map, List.take_length] at hL
      refine ⟨L, _, rfl, .inl (SqL.of hL), ?_⟩
      rw [List.length_map]
      exact k _ (all.trans hs)
end

/-! ### the law -/
section
variable {P : Program} {w : World} {K : PySem.W.Frag} {mg : Str → Option Value} {base : Heap}
def spLaw (K : PySem.W.Frag) : Sp := fun vs H Q _ => ∃ (a : Addr) (ns : List Int), vs = [.ref a] ∧ SqL K H a (ns.map V.int) ∧ ns.length ≤ 63 ∧ ∀ H', Q (.bl true) H'
def isU (r : Tb) : Bool := decide (r.2.2 = ("UnknownName" : Str))
/-- what isinstance tells of an error of this row -/
structure Kt (K : PySem.W.Frag) (CL CM CN : Addr) (Cs : List Addr) (r : Tb) : Prop where
  at_ : At K r.1
  nF : PySem.W.findIn K (.ref r.1) r.2.1 = some none
  kL : PySem.W.kitOne K (.ref r.1) (.ref CL) = some (!isU r)
  kV : PySem.W.kitOne K (.ref r.1) (.type "ValueError") = some (!isU r)
  kM : PySem.W.kitOne K (.ref r.1) (.ref CM) = some (isU r)
  kK : PySem.W.kitOne K (.ref r.1) (.type "LookupError") = some (isU r)
  kI : PySem.W.kitOne K (.ref r.1) (.type "IndexError") = some false
  kN : PySem.W.kitOne K (.ref r.1) (.ref CN) = some false
  ks : ∀ c ∈ Cs, PySem.W.kitOne K (.ref r.1) (.ref c) = some (decide (r.1 = c))
theorem one_of : ∀ {Cs : List Addr} {C : Addr}, C ∈ Cs → Cs.Nodup → ((Cs.map fun c => decide (C = c)).filter id).length = 1
  | c :: r, C, h, n => by
    obtain ⟨n1, n2⟩ := List.nodup_cons.mp n
    have off : ∀ {r : List Addr}, C ∉ r → (r.map fun c => decide (C = c)).filter id = [] := fun {r} h => by
      rw [List.filter_eq_nil_iff]
      intro b hb
      obtain ⟨c', hc, rfl⟩ := List.mem_map.mp hb
      show ¬ (decide (C = c') = true)
      rw [decide_eq_false fun e => h (by rw [e]; exact hc)]
      exact Bool.false_ne_true
    rw [List.map_cons]
    by_cases e : C = c
    · rw [decide_eq_true e, List.filter_cons_of_pos (by rfl), off (by rw [e]; exact n1)]
      rfl
    · rw [decide_eq_false e, List.filter_cons_of_neg (by simp)]
      rcases List.mem_cons.mp h with z | z
      · exact absurd z e
      · exact one_of z n2
def T1 (H : Hp) (v x : V) : Prop := ∃ t, x = V.ref t ∧ H t = some (.tup [v])
theorem T1.same {H H' : Hp} {v x : V} (e : Same H H') (h : T1 H v x) : T1 H' v x := by
  obtain ⟨t, h1, h2⟩ := h
  exact ⟨t, h1, e _ _ h2⟩
theorem T1.mut {H : Hp} {v x : V} {D : Addr} {zs : List V} {o : HO} (hD : H D = some (.lst zs)) (h : T1 H v x) : T1 (upd H D o) v x := by
  obtain ⟨t, h1, h2⟩ := h
  exact ⟨t, h1, (upd_ne fun z => by rw [z, hD] at h2; cases h2).trans h2⟩
theorem da_T1s {H : Hp} {p : Addr} {bs : List V} {v : V} {dd : PyData} (hp : H p = some (.lst bs)) (hd : Da p H 2 v dd) : ∀ {xs : List V}, (∀ x ∈ xs, T1 H v x) → Paired (Da p H 3) xs (List.replicate xs.length (.tuple [dd]))
  | [], _ => .nil
  | x :: r, h => by
    obtain ⟨t, rfl, ht⟩ := h x (.head _)
    rw [List.length_cons, List.replicate_succ]
    exact .cons ⟨t, _, rfl, (fun z => by rw [z, hp] at ht; cases ht), ht, (by show 1 ≤ 100000; decide), .cons hd .nil⟩ (da_T1s hp hd fun y hy => h y (.tail _ hy))
theorem rep_one {x : V} : ∀ n : Nat, (List.replicate n [x]).flatten = List.replicate n x
  | 0 => rfl
  | n + 1 => by rw [List.replicate_succ, List.flatten_cons, rep_one n, List.replicate_succ]; rfl
theorem paired_same {H H' : Hp} {v : V} {xs : List V} {tb : List Tb} (e : Same H H') (h : Paired (Er H v) xs tb) : Paired (Er H' v) xs tb := Paired.mapP h fun _ _ z => z.same e
structure TxW (mg : Str → Option Value) : Prop where
  isinstance : mg "isinstance" = none
  ValueError : mg "ValueError" = none
  LookupError : mg "LookupError" = none
  IndexError : mg "IndexError" = none
theorem scLaw : FnScope ["_law_script", "_law_bag_here", "_law_one", "_law_codes", "_law_named_here", "_law_bare_here", "_law_e", "_law_low", "_law_found", "_law_end"] ["_law_script"] (defScope sLaw) := ⟨rfl, rfl, rfl, by decide +kernel, rfl, by decide +kernel, by decide +kernel⟩
theorem ok_law {CL CM CN fN0 f fB fP fK fC fF fA fR fD : Addr} {fd dB dP dK dC dF dA dR dD : FuncData} {tb : List Tb} {Cs : List Addr} {bmN bmL bmM : List Value} {BN wN iN wL iL wM iM : String}
    (F : Fun K "law" "law" sLaw f fd) (T : TxW mg)
    (FB : Fun K "_law_bag" "_law_bag" sBag fB dB) (bB : Binds K dB ["_law_script"] []) (mB : mg "_law_bag" = some (.ref fB)) (GB : FnOk P w K mg base CX0 1 fB dB ["_law_script"] (spBag K))
    (FP : Fun K "_law_pull" "_law_pull" sPull fP dP) (bP : Binds K dP ["_law_bag_here", "_law_many"] []) (mP : mg "_law_pull" = some (.ref fP)) (GP : FnOk P w K mg base CX0 1 fP dP ["_law_bag_here", "_law_many"] spPull)
    (FK : Fun K "_law_pick" "_law_pick" sPick fK dK) (bK : Binds K dK ["_law_bag_here", "_law_rows"] []) (mK : mg "_law_pick" = some (.ref fK)) (GL : FnOk P w K mg base CX0 2 fK dK ["_law_bag_here", "_law_rows"] (spPickL K))
    (FC : Fun K "_law_same" "_law_same" sSame fC dC) (bC : Binds K dC ["_law_found", "_law_due"] []) (mC : mg "_law_same" = some (.ref fC)) (GC : FnOk P w K mg base CX0 5 fC dC ["_law_found", "_law_due"] (spSame 4))
    (FF : Fun K "_law_field" "_law_field" sField fF dF) (bF : Binds K dF ["_law_e"] []) (mF : mg "_law_field" = some (.ref fF)) (GF : FnOk P w K mg base CX0 1 fF dF ["_law_e"] (spField K))
    (FA : Fun K "_law_named" "_law_named" sNamed fA dA) (bA : Binds K dA ["_law_one"] []) (mA : mg "_law_named" = some (.ref fA)) (GA : FnOk P w K mg base CX0 3 fA dA ["_law_one"] (spnamed tb))
    (FR : Fun K "_law_bare" "_law_bare" sBare fR dR) (bR : Binds K dR ["_law_one"] []) (mR : mg "_law_bare" = some (.ref fR)) (GR : FnOk P w K mg base CX0 3 fR dR ["_law_one"] (spbare tb))
    (FD : Fun K "_law_classes_of" "_law_classes_of" sClasses fD dD) (bD : Binds K dD ["_law_e"] []) (mD : mg "_law_classes_of" = some (.ref fD)) (GD : FnOk P w K mg base CX0 1 fD dD ["_law_e"] (spCls K Cs))
    (mL : mg "LumpError" = some (.ref CL)) (mM : mg "Missing" = some (.ref CM)) (mN : mg "NothingLeft" = some (.ref CN))
    (hT : ∀ r ∈ tb, Kt K CL CM CN Cs r ∧ r.2 ∈ pairs) (hl : tb.length = 18) (hc : tb.map (·.2.2) = (["InvalidNumber", "InvalidName", "InvalidSpan", "InvalidText", "InvalidSeat", "InvalidRecord", "Clash", "DuplicateName", "DuplicateNumber", "TooMany", "Full", "NotAThing", "Contradiction", "InvalidRule", "InvalidCommand", "InvalidLimit", "InvalidPage", "UnknownName"] : List Str))
    (hm : ∀ r ∈ tb, r.1 ∈ Cs) (hnd : Cs.Nodup)
    (TN : Ex.OexG K CN BN wN iN bmN) (iN0 : PySem.W.findIn K (.ref CN) "__init__" = some (some (.ref fN0))) (tN0 : PySem.W.typeIn K (.ref fN0) = some (.type "function")) (FN : FnR P w K mg base CX0 1 fN0 (fun vs H Q E => Ex.spX0 CN "NothingLeft" (vs ++ []) H Q E)) (aN : At K CN)
    (nI : PySem.W.kitOne K (.ref CN) (.type "IndexError") = some true) (nL : PySem.W.kitOne K (.ref CN) (.ref CL) = some false) (nM : PySem.W.kitOne K (.ref CN) (.ref CM) = some false) (nS : ∀ c ∈ Cs, PySem.W.kitOne K (.ref CN) (.ref c) = some false)
    (qL : PySem.W.excIn K CL bmL wL = true) (bL : ExcBaseFacts "ValueError" wL iL bmL) (kL : PySem.W.keepIn K (.ref CL) = true) (eL : ExcC K CL) (cL : (PySem.W.clsIn K CL).isSome = true) (vL : PySem.W.kitOne K (.ref CL) (.type "ValueError") = some true)
    (qM : PySem.W.excIn K CM bmM wM = true) (bM : ExcBaseFacts "LookupError" wM iM bmM) (kM : PySem.W.keepIn K (.ref CM) = true) (eM : ExcC K CM) (cM : (PySem.W.clsIn K CM).isSome = true) (vM : PySem.W.kitOne K (.ref CM) (.type "LookupError") = some true) :
    FnOk P w K mg base CX0 6 f fd ["_law_script"] (spLaw K) := by
  refine F.ok scLaw (fun vs H Q E h => ?_) (fun cdv A outer s H vs Q E hr h => ?_)
  · obtain ⟨a, ns, rfl, _⟩ := h
    rfl
  · obtain ⟨a, ns, rfl, hS, hlen, k⟩ := h
    have hr1 : Room 1 _ := hr.mono (by decide)
    have hr2 : Room 2 _ := hr.mono (by decide)
    have hr3 : Room 3 _ := hr.mono (by decide)
    have hr5 : Room 5 _ := hr
    refine ⟨_, PSs.nox (pss_cons (ps_set (i := 1) scLaw.nd rfl (Or.inl rfl) (pe_call GB hr1 (by rfl) mB FB.kp bB .nil pass0 (pa_cons (pv 0) pa_nil)))
 (pss_cons (ps_set (i := 2) scLaw.nd rfl (Or.inl rfl) (pe_call GL hr2 (by rfl) mK FK.kp bK .nil pass0 (pa_cons (pv 1) (pa_cons (pe_lst (pa_cons pe_non (pa_cons pe_bl (pa_cons pe_int (pa_cons pe_str (pa_cons (pe_lst (pa_cons pe_int pa_nil)) (pa_cons (pe_tup (pa_cons pe_int (pa_cons pe_str pa_nil))) (pa_cons (pe_call GP hr1 (by rfl) mP FP.kp bP .nil pass0 (pa_cons (pv 1) (pa_cons (pe_op op_pow pe_int pe_int) pa_nil))) (pa_cons (pe_op op_sub pe_int (pe_call GP hr1 (by rfl) mP FP.kp bP .nil pass0 (pa_cons (pv 1) (pa_cons pe_int pa_nil)))) pa_nil))))))))) pa_nil))))
 (pss_cons (ps_set (i := 3) scLaw.nd rfl (Or.inl rfl) (pe_lst (pa_cons pe_str (pa_cons pe_str (pa_cons pe_str (pa_cons pe_str (pa_cons pe_str (pa_cons pe_str (pa_cons pe_str pa_nil)))))))))
 (pss_cons (ps_set (i := 3) scLaw.nd rfl (Or.inl rfl) (pe_op op_cat (pv 3) (pe_lst (pa_cons pe_str (pa_cons pe_str (pa_cons pe_str (pa_cons pe_str (pa_cons pe_str (pa_cons pe_str (pa_cons pe_str pa_nil))))))))))
 (pss_cons (ps_set (i := 3) scLaw.nd rfl (Or.inl rfl) (pe_op op_cat (pv 3) (pe_lst (pa_cons pe_str (pa_cons pe_str (pa_cons pe_str (pa_cons pe_str pa_nil)))))))
 (pss_cons (ps_par (i := 4) (j := 5) (by rfl) scLaw.nd rfl rfl (by decide) rfl rfl (pa_cons (pe_call GA hr3 (by rfl) mA FA.kp bA .nil pass0 (pa_cons (pv 2) pa_nil)) (pa_cons (pe_call GR hr3 (by rfl) mR FR.kp bR .nil pass0 (pa_cons (pv 2) pa_nil)) pa_nil)) (by rfl))
 (pss_cons (ps_if (PW.pt (pw_or (pt_not (pt_val (pe_call GC hr5 (by rfl) mC FC.kp bC .nil pass0 (pa_cons (pe_lc (own := [("_law_e", 6)]) (g := gName 6) (tt := tYes) rfl scLaw.nd (pi_list (pv 4)) (blkOk_by (own := [("_law_e", 6)]) (N := ["_law_script", "_law_bag_here", "_law_one", "_law_codes", "_law_named_here", "_law_bare_here", "_law_e", "_law_low", "_law_found", "_law_end"]) (sc := defScope sLaw) (by decide +kernel)) (fun _ _ _ _ _ => (pg_name (i := 6) scLaw.nd rfl (Or.inl rfl))) (fun _ _ _ _ _ => pts_nil) (fun _ _ _ _ _ => (Ex.pe_exfK (K := K) rfl (pv 6)))) (pa_cons (pv 3) pa_nil))))) (pw_or1 (pt_not (pt_val (pe_call GC hr5 (by rfl) mC FC.kp bC .nil pass0 (pa_cons (pe_lc (own := [("_law_e", 6)]) (g := gName 6) (tt := tYes) rfl scLaw.nd (pi_list (pv 5)) (blkOk_by (own := [("_law_e", 6)]) (N := ["_law_script", "_law_bag_here", "_law_one", "_law_codes", "_law_named_here", "_law_bare_here", "_law_e", "_law_low", "_law_found", "_law_end"]) (sc := defScope sLaw) (by decide +kernel)) (fun _ _ _ _ _ => (pg_name (i := 6) scLaw.nd rfl (Or.inl rfl))) (fun _ _ _ _ _ => pts_nil) (fun _ _ _ _ _ => (Ex.pe_exfK (K := K) rfl (pv 6)))) (pa_cons (pv 3) pa_nil)))))))) (pss_one (ps_ret pe_bl)) pss_nil)
 (pss_cons (ps_if (pt_not (pt_val (pe_call GC hr5 (by rfl) mC FC.kp bC .nil pass0 (pa_cons (pe_lc (own := [("_law_e", 6)]) (g := gName 6) (tt := tYes) rfl scLaw.nd (pi_list (pe_op op_cat (pv 4) (pv 5))) (blkOk_by (own := [("_law_e", 6)]) (N := ["_law_script", "_law_bag_here", "_law_one", "_law_codes", "_law_named_here", "_law_bare_here", "_law_e", "_law_low", "_law_found", "_law_end"]) (sc := defScope sLaw) (by decide +kernel)) (fun _ _ _ _ _ => (pg_name (i := 6) scLaw.nd rfl (Or.inl rfl))) (fun _ _ _ _ _ => pts_nil) (fun _ _ _ _ _ => (pe_call GF hr1 (by rfl) mF FF.kp bF .nil pass0 (pa_cons (pv 6) pa_nil)))) (pa_cons (pe_op op_rep (pe_lst (pa_cons (pe_tup (pa_cons (pv 2) pa_nil)) pa_nil)) pe_int) pa_nil))))) (pss_one (ps_ret pe_bl)) pss_nil)
 (pss_cons (ps_for PassesOwn.never rfl (pi_list (pe_op op_cat (pv 5) (pv 4))) (pg_name (i := 6) scLaw.nd rfl (Or.inl rfl))
 (pss_cons (ps_set (i := 7) scLaw.nd rfl (Or.inl rfl) (pe_cmpR op_eq (Ex.pe_exf (pv 6)) pe_str (nomark _)))
 (pss_cons (ps_set (i := 8) scLaw.nd rfl (Or.inl rfl) (pe_lst (pa_cons (pe_callB Ex.call_isX (by rfl) T.isinstance PyProof.Rows.boot_isinstance (pa_cons (pv 6) (pa_cons (pe_glob (v := .ref CL) (by rfl) mL rfl) pa_nil))) (pa_cons (pe_callB Ex.call_isX (by rfl) T.isinstance PyProof.Rows.boot_isinstance (pa_cons (pv 6) (pa_cons (pe_bltn (v := .ty "ValueError") (by rfl) T.ValueError PyProof.Rows.Boot.«ValueError» rfl) pa_nil))) (pa_cons (pe_callB Ex.call_isX (by rfl) T.isinstance PyProof.Rows.boot_isinstance (pa_cons (pv 6) (pa_cons (pe_glob (v := .ref CM) (by rfl) mM rfl) pa_nil))) (pa_cons (pe_callB Ex.call_isX (by rfl) T.isinstance PyProof.Rows.boot_isinstance (pa_cons (pv 6) (pa_cons (pe_bltn (v := .ty "LookupError") (by rfl) T.LookupError PyProof.Rows.Boot.«LookupError» rfl) pa_nil))) pa_nil))))))
 (pss_cons (ps_if (pt_not (pt_val (pe_call GC hr5 (by rfl) mC FC.kp bC .nil pass0 (pa_cons (pe_op op_cat (pv 8) (pe_lst (pa_cons (pe_callB Ex.call_isX (by rfl) T.isinstance PyProof.Rows.boot_isinstance (pa_cons (pv 6) (pa_cons (pe_bltn (v := .ty "IndexError") (by rfl) T.IndexError PyProof.Rows.Boot.«IndexError» rfl) pa_nil))) pa_nil))) (pa_cons (pe_lst (pa_cons (pe_not (pv 7)) (pa_cons (pe_not (pv 7)) (pa_cons (pv 7) (pa_cons (pv 7) (pa_cons pe_bl pa_nil)))))) pa_nil))))) (pss_one (ps_ret pe_bl)) pss_nil)
 (pss_one (ps_if (PW.pt (pw_or (pt_cmpR op_ne (pe_call GD hr1 (by rfl) mD FD.kp bD .nil pass0 (pa_cons (pv 6) pa_nil)) pe_int (nomark _)) (pw_or1 (pt_val (pe_callB Ex.call_isX (by rfl) T.isinstance PyProof.Rows.boot_isinstance (pa_cons (pv 6) (pa_cons (pe_glob (v := .ref CN) (by rfl) mN rfl) pa_nil))))))) (pss_one (ps_ret pe_bl)) pss_nil))))))
 (pss_cons (ps_set (i := 9) scLaw.nd rfl (Or.inl rfl) (Ex.pe_oex0 TN iN0 tN0 FN hr2 pass0 (by rfl) mN))
 (pss_cons (ps_set (i := 8) scLaw.nd rfl (Or.inl rfl) (pe_lst (pa_cons (pe_callB Ex.call_isX (by rfl) T.isinstance PyProof.Rows.boot_isinstance (pa_cons (pv 9) (pa_cons (pe_bltn (v := .ty "IndexError") (by rfl) T.IndexError PyProof.Rows.Boot.«IndexError» rfl) pa_nil))) (pa_cons (pe_callB Ex.call_isX (by rfl) T.isinstance PyProof.Rows.boot_isinstance (pa_cons (pv 9) (pa_cons (pe_glob (v := .ref CL) (by rfl) mL rfl) pa_nil))) (pa_cons (pe_callB Ex.call_isX (by rfl) T.isinstance PyProof.Rows.boot_isinstance (pa_cons (pv 9) (pa_cons (pe_glob (v := .ref CM) (by rfl) mM rfl) pa_nil))) (pa_cons (pe_call GD hr1 (by rfl) mD FD.kp bD .nil pass0 (pa_cons (pv 9) pa_nil)) pa_nil))))))
 (pss_cons (ps_if (pt_not (pt_val (pe_call GC hr5 (by rfl) mC FC.kp bC .nil pass0 (pa_cons (pe_lst (pa_cons (pv 8) (pa_cons (Ex.pe_exf (pv 9)) pa_nil))) (pa_cons (pe_lst (pa_cons (pe_lst (pa_cons pe_bl (pa_cons pe_bl (pa_cons pe_bl (pa_cons pe_int pa_nil))))) (pa_cons pe_str pa_nil))) pa_nil))))) (pss_one (ps_ret pe_bl)) pss_nil)
 (pss_one (ps_ret (pe_and (pe_callB Ex.call_isX0 (by rfl) T.isinstance PyProof.Rows.boot_isinstance (pa_cons (Ex.pe_oexP bL qL mL kL (by rfl)) (pa_cons (pe_bltn (v := .ty "ValueError") (by rfl) T.ValueError PyProof.Rows.Boot.«ValueError» rfl) pa_nil))) (pe_one (pe_callB Ex.call_isX0 (by rfl) T.isinstance PyProof.Rows.boot_isinstance (pa_cons (Ex.pe_oexP bM qM mM kM (by rfl)) (pa_cons (pe_bltn (v := .ty "LookupError") (by rfl) T.LookupError PyProof.Rows.Boot.«LookupError» rfl) pa_nil))))))))))))))))))), ?_⟩
    refine ⟨_, rfl, a, ns, rfl, hS, hlen, fun p q H0 np nq s0 hB0 => ?_⟩
    -- one
    refine ⟨_, rfl, (by show 1 ≤ sizeLine; decide), fun u1 n1 => ⟨(by show 2 ≤ sizeLine; decide), fun u2 n2 => ?_⟩⟩
    have hB2 := (hB0.upd (o := .lst [.int 1]) n1).upd (o := .tup [.int 2, .str "b"]) n2
    have e1 := (same_upd (o := .tup [.int 2, .str "b"]) n2) _ _ (upd_same (H := H0) (a := u1) (o := .lst [.int 1]))
    have e2 := upd_same (H := upd H0 u1 (.lst [.int 1])) (a := u2) (o := .tup [.int 2, .str "b"])
    have u1p : u1 ≠ p := hB0.nn n1
    have u2p : u2 ≠ p := (hB0.upd (o := .lst [.int 1]) n1).nn n2
    refine ⟨_, rfl, 10, 18, rfl, rfl, ⟨by decide, by decide, by decide⟩, p, q, _, rfl, hB2, by decide, by decide, fun i1 H2 d0 d1 b2 => ?_⟩
    refine ⟨_, rfl, p, q, 9, rfl, b2.bag, by decide, by decide, fun i2 H3 d0' d1' b3 => ⟨_, _, rfl, rfl, ?_⟩⟩
    refine ⟨(by show 8 ≤ sizeLine; decide), fun r nr => ⟨p, q, r, _, rfl, b3.bag.upd nr, b3.bag.nn nr, SqL.of upd_same, (by show 0 < 8; decide), (by show 8 ≤ 1000000000000000000; decide), fun x H4 hx b4 => ?_⟩⟩
    have bb : Bs p q (upd (upd H0 u1 (.lst [.int 1])) u2 (.tup [.int 2, .str "b"])) H4 := (b2.trans (b3.trans ((Bs.refl b3.bag).new nr))).trans b4
    have e1' := bb.keep _ _ u1p e1
    have e2' := bb.keep _ _ u2p e2
    have hda : ∃ dd, Da p H4 2 x dd := by
      simp only [List.mem_cons, List.not_mem_nil, or_false] at hx
      rcases hx with rfl | rfl | rfl | rfl | rfl | rfl | rfl | rfl
      · exact ⟨.none, rfl⟩
      · exact ⟨.bool true, rfl⟩
      · exact ⟨.int 0, rfl⟩
      · exact ⟨.str "a", rfl⟩
      · exact ⟨.list [.int 1], u1, _, rfl, u1p, e1', by decide, .cons rfl .nil⟩
      · exact ⟨.tuple [.int 2, .str "b"], u2, _, rfl, u2p, e2', (by show 2 ≤ 100000; decide), .cons rfl (.cons rfl .nil)⟩
      · exact ⟨.int i1, rfl⟩
      · exact ⟨.int (0 - i2), rfl⟩
    obtain ⟨dd, hda⟩ := hda
    have hB4 := bb.bag
    clear bb b2 b3 b4 e1' e2' e1 e2 hB2 n1 n2 nr hx u1p u2p s0 hB0 np nq
    -- the codes
    refine ⟨(by show 7 ≤ sizeLine; decide), fun c1 nc1 => ?_⟩
    have s1 := same_upd (o := .lst [.str "InvalidNumber", .str "InvalidName", .str "InvalidSpan", .str "InvalidText", .str "InvalidSeat", .str "InvalidRecord", .str "Clash"]) nc1
    refine ⟨_, rfl, (by show 7 ≤ sizeLine; decide), fun c2 nc2 => ?_⟩
    have s2 := same_upd (o := .lst [.str "DuplicateName", .str "DuplicateNumber", .str "TooMany", .str "Full", .str "NotAThing", .str "Contradiction", .str "InvalidRule"]) nc2
    refine ⟨_, _, _, _, rfl, rfl, s2 _ _ upd_same, upd_same, (by show 14 ≤ sizeLine; decide), fun c3 nc3 => ?_⟩
    have s3 := same_upd (o := .lst ([.str "InvalidNumber", .str "InvalidName", .str "InvalidSpan", .str "InvalidText", .str "InvalidSeat", .str "InvalidRecord", .str "Clash"] ++ [.str "DuplicateName", .str "DuplicateNumber", .str "TooMany", .str "Full", .str "NotAThing", .str "Contradiction", .str "InvalidRule"])) nc3
    refine ⟨_, rfl, (by show 4 ≤ sizeLine; decide), fun c4 nc4 => ?_⟩
    have s4 := same_upd (o := .lst [.str "InvalidCommand", .str "InvalidLimit", .str "InvalidPage", .str "UnknownName"]) nc4
    refine ⟨_, _, _, _, rfl, rfl, s4 _ _ upd_same, upd_same, (by show 18 ≤ sizeLine; decide), fun cd ncd => ?_⟩
    have s5 := same_upd (o := .lst ([.str "InvalidNumber", .str "InvalidName", .str "InvalidSpan", .str "InvalidText", .str "InvalidSeat", .str "InvalidRecord", .str "Clash", .str "DuplicateName", .str "DuplicateNumber", .str "TooMany", .str "Full", .str "NotAThing", .str "Contradiction", .str "InvalidRule"] ++ [.str "InvalidCommand", .str "InvalidLimit", .str "InvalidPage", .str "UnknownName"])) ncd
    have s15 : Same H4 _ := s1.trans (s2.trans (s3.trans (s4.trans s5)))
    have ncdp : cd ≠ p := hB4.nn ((s1.trans (s2.trans (s3.trans s4))).free ncd)
    have hcv : ∀ {Z : Option HO}, Z = some (HO.lst (([.str "InvalidNumber", .str "InvalidName", .str "InvalidSpan", .str "InvalidText", .str "InvalidSeat", .str "InvalidRecord", .str "Clash", .str "DuplicateName", .str "DuplicateNumber", .str "TooMany", .str "Full", .str "NotAThing", .str "Contradiction", .str "InvalidRule"] : List V) ++ [.str "InvalidCommand", .str "InvalidLimit", .str "InvalidPage", .str "UnknownName"])) → Z = some (HO.lst ((tb.map (·.2.2)).map V.str)) := fun e => by
      rw [hc]
      exact e
    have hcd := hcv (upd_same (H := upd (upd (upd (upd H4 c1 (.lst [.str "InvalidNumber", .str "InvalidName", .str "InvalidSpan", .str "InvalidText", .str "InvalidSeat", .str "InvalidRecord", .str "Clash"])) c2 (.lst [.str "DuplicateName", .str "DuplicateNumber", .str "TooMany", .str "Full", .str "NotAThing", .str "Contradiction", .str "InvalidRule"])) c3 (.lst ([.str "InvalidNumber", .str "InvalidName", .str "InvalidSpan", .str "InvalidText", .str "InvalidSeat", .str "InvalidRecord", .str "Clash"] ++ [.str "DuplicateName", .str "DuplicateNumber", .str "TooMany", .str "Full", .str "NotAThing", .str "Contradiction", .str "InvalidRule"]))) c4 (.lst [.str "InvalidCommand", .str "InvalidLimit", .str "InvalidPage", .str "UnknownName"])) (a := cd) (o := .lst ([.str "InvalidNumber", .str "InvalidName", .str "InvalidSpan", .str "InvalidText", .str "InvalidSeat", .str "InvalidRecord", .str "Clash", .str "DuplicateName", .str "DuplicateNumber", .str "TooMany", .str "Full", .str "NotAThing", .str "Contradiction", .str "InvalidRule"] ++ [.str "InvalidCommand", .str "InvalidLimit", .str "InvalidPage", .str "UnknownName"])))
    clear s1 s2 s3 s4 s5
    -- named, bare
    refine ⟨_, rfl, x, rfl, fun r1 xs1 H6 nr1 s6 hr1' hE1 => ⟨_, rfl, x, rfl, fun r2 xs2 H7 nr2 s7 hr2' hE2 => ⟨_, _, rfl, ?_⟩⟩⟩
    have l1 := hE1.length
    have l2 := hE2.length
    have s67 := s6.trans s7
    have s47 := s15.trans s67
    have hcd7 := s67 _ _ hcd
    have hr17 := s7 _ _ hr1'
    have hE17 := paired_same s7 hE1
    have hda7 := hda.same s47
    obtain ⟨bs, hbs⟩ := bag_lst hB4
    have hbs7 := s47 _ _ hbs
    clear hr1' hE1 hcd s6 s7 s67
    have npn : ∀ {H' : Hp} {z : Addr}, Same H7 H' → H' z = none → z ≠ p := fun s n => hB4.nn ((s47.trans s).free n)
    -- the codes of both
    refine ⟨_, rfl, r1, rfl, ⟨_, SqL.of ((Same.refl H7) _ _ hr17)⟩, fun D nD => lc_list (K := K) (a := r1) (xs := xs1) (fun i H' => Same H7 H' ∧ H' D = some (.lst (((tb.map (·.2.2)).take i).map V.str))) ⟨same_upd nD, upd_same⟩ (fun i H' _ q => SqL.of (q.1 _ _ ((Same.refl H7) _ _ hr17))) ?_ ?_⟩
    · rintro i y H' hi ⟨hs, hD⟩
      obtain ⟨r, hr', a1, d1, rfl, h1, h2⟩ := paired_get hE17 hi
      have rm := List.mem_of_getElem? hr'
      have il := (List.getElem?_eq_some_iff.mp hr').1
      have at_ := (hT r rm).1.at_
      have sx := Same.trans (Same.refl H7) hs
      refine ⟨rfl, _, rfl, a1, r.1, d1, _, _, rfl, sx _ _ h1, sx _ _ h2, at_.xf, at_.nC, rfl, _, hD, sz (by rw [List.length_map, List.length_take, List.length_map]; omega), same_mut hs nD, ?_⟩
      rw [upd_same, take_succ' (x := r.2.2) (by rw [List.getElem?_map, hr']; rfl), List.map_append]
      rfl
    rintro H8 ⟨s8, hD⟩
    rw [l1, ← List.length_map (f := fun r : Tb => r.2.2), List.take_length] at hD
    have n1p := npn (Same.refl _) nD
    refine ⟨_, rfl, p, _, _, .list ((tb.map (·.2.2)).map .str), rfl, da_list hD n1p (by rw [List.length_map, List.length_map]; omega) da_strs, da_list (s8 _ _ hcd7) ncdp (by rw [List.length_map, List.length_map]; omega) da_strs, fun H9 s9 => ⟨true, rfl, iteF ?_⟩⟩
    have s79 := s8.trans s9
    clear hD nD s8 s9
    refine ⟨_, rfl, r2, rfl, ⟨_, SqL.of (s79 _ _ hr2')⟩, fun D2 nD2 => lc_list (K := K) (a := r2) (xs := xs2) (fun i H' => Same H9 H' ∧ H' D2 = some (.lst (((tb.map (·.2.2)).take i).map V.str))) ⟨same_upd nD2, upd_same⟩ (fun i H' _ q => SqL.of (q.1 _ _ (s79 _ _ hr2'))) ?_ ?_⟩
    · rintro i y H' hi ⟨hs, hD⟩
      obtain ⟨r, hr', a1, d1, rfl, h1, h2⟩ := paired_get hE2 hi
      have rm := List.mem_of_getElem? hr'
      have il := (List.getElem?_eq_some_iff.mp hr').1
      have at_ := (hT r rm).1.at_
      have sx := Same.trans s79 hs
      refine ⟨rfl, _, rfl, a1, r.1, d1, _, _, rfl, sx _ _ h1, sx _ _ h2, at_.xf, at_.nC, rfl, _, hD, sz (by rw [List.length_map, List.length_take, List.length_map]; omega), same_mut hs nD2, ?_⟩
      rw [upd_same, take_succ' (x := r.2.2) (by rw [List.getElem?_map, hr']; rfl), List.map_append]
      rfl
    rintro H10 ⟨s10, hD2⟩
    rw [l2, ← List.length_map (f := fun r : Tb => r.2.2), List.take_length] at hD2
    have n2p := npn s79 nD2
    refine ⟨_, rfl, p, _, _, .list ((tb.map (·.2.2)).map .str), rfl, da_list hD2 n2p (by rw [List.length_map, List.length_map]; omega) da_strs, da_list ((s79.trans s10) _ _ hcd7) ncdp (by rw [List.length_map, List.length_map]; omega) da_strs, fun H11 s11 => ⟨true, rfl, iteF ?_⟩⟩
    have s711 := s79.trans (s10.trans s11)
    clear hD2 nD2 s10 s11 n1p n2p
    -- the attributes of both
    have k1 := s711 _ _ hr17
    have k2 := s711 _ _ hr2'
    refine ⟨_, rfl, _, rfl, r1, r2, _, _, rfl, rfl, k1, k2, Nat.le_of_lt (sz (by rw [l1, l2]; omega)), fun c5 nc5 => ⟨c5, rfl, ⟨_, SqL.of upd_same⟩, fun D nD => ?_⟩⟩
    have s12 := same_upd (o := .lst (xs1 ++ xs2)) nc5
    have hE12 : Paired (Er (upd H11 c5 (.lst (xs1 ++ xs2))) x) (xs1 ++ xs2) (tb ++ tb) := paired_app (paired_same (s711.trans s12) hE17) (paired_same (s711.trans s12) hE2)
    have hc5 : (upd H11 c5 (.lst (xs1 ++ xs2))) c5 = some (.lst (xs1 ++ xs2)) := upd_same
    have s712 := s711.trans s12
    generalize upd H11 c5 (.lst (xs1 ++ xs2)) = H12 at nD hE12 hc5 s712 ⊢
    have ll : (xs1 ++ xs2).length = 36 := by rw [List.length_append, l1, l2, hl]
    refine lc_list (K := K) (a := c5) (xs := xs1 ++ xs2) (fun i H' => Same H12 H' ∧ ∃ ys, H' D = some (.lst ys) ∧ ys.length = i ∧ ∀ y ∈ ys, T1 H' x y) ⟨same_upd nD, [], upd_same, rfl, fun y hy => by cases hy⟩ (fun i H' _ q => SqL.of (q.1 _ _ hc5)) ?_ ?_
    · rintro i y H' hi ⟨hs, ys, hD, ly, hy⟩
      obtain ⟨r, hr', hx'⟩ := paired_get hE12 hi
      have il : i < (xs1 ++ xs2).length := (List.getElem?_eq_some_iff.mp hi).1
      have rm : r ∈ tb := (List.mem_append.mp (List.mem_of_getElem? hr')).elim id id
      obtain ⟨kt, pm⟩ := hT r rm
      refine ⟨rfl, _, rfl, y, x, r, rfl, pm, hx'.same hs, kt.at_, kt.nF, fun t H'' nt s'' ht => ?_⟩
      refine ⟨ys, s'' _ _ hD, sz (by omega), same_mut (hs.trans s'') nD, ys ++ [.ref t], upd_same, by rw [List.length_append, ly]; rfl, fun z hz => ?_⟩
      rcases List.mem_append.mp hz with hz | hz
      · exact ((hy z hz).same s'').mut (s'' _ _ hD)
      · rw [List.mem_singleton.mp hz]
        exact T1.mut (s'' _ _ hD) ⟨t, rfl, ht⟩
    rintro H13 ⟨s13, ys, hD, ly, hy⟩
    rw [ll] at ly
    have nDp := npn s712 nD
    have s713 := s712.trans s13
    refine ⟨_, rfl, (by show 1 ≤ sizeLine; decide), fun t5 nt5 => ⟨(by show 1 ≤ sizeLine; decide), fun c6 nc6 => ⟨c6, _, _, rfl, rfl, upd_same, by decide, by decide, ?_, fun I nI => ?_⟩⟩⟩
    · show 1 * Int.toNat 36 ≤ sizeLine
      decide
    have q1 := same_upd (o := .tup [x]) nt5
    have q2 := same_upd (o := .lst [.ref t5]) nc6
    have q3 := same_upd (o := .lst ((List.replicate (Int.toNat 36) [V.ref t5]).flatten)) nI
    have q13 := q1.trans (q2.trans q3)
    have hI := upd_same (H := upd (upd H13 t5 (.tup [x])) c6 (.lst [.ref t5])) (a := I) (o := .lst ((List.replicate (Int.toNat 36) [V.ref t5]).flatten))
    have nIp := npn (s713.trans (q1.trans q2)) nI
    have hbs13 := (s713.trans q13) _ _ hbs7
    have hda13 := hda7.same (s713.trans q13)
    have ht5 := (q2.trans q3) _ _ (upd_same (H := H13) (a := t5) (o := .tup [x]))
    rw [rep_one] at hI
    have w1 : Paired (Da p _ 3) ys (List.replicate ys.length (.tuple [dd])) := da_T1s hbs13 hda13 fun y m => (hy y m).same q13
    have w2 : Paired (Da p _ 3) (List.replicate (Int.toNat 36) (V.ref t5)) (List.replicate (List.replicate (Int.toNat 36) (V.ref t5)).length (.tuple [dd])) := da_T1s hbs13 hda13 fun y m => by
      rw [(List.mem_replicate.mp m).2]
      exact ⟨t5, rfl, ht5⟩
    rw [ly] at w1
    rw [List.length_replicate] at w2
    refine ⟨p, _, _, .list (List.replicate 36 (.tuple [dd])), rfl, da_list (q13 _ _ hD) nDp (by omega) w1, da_list hI nIp (by rw [List.length_replicate]; decide) w2, fun H14 s14 => ⟨true, rfl, iteF ?_⟩⟩
    have s714 := s713.trans (q13.trans s14)
    clear w1 w2 ht5 hda13 hbs13 hI q1 q2 q3 q13 nI nc6 nt5 hy hD s13 s712 s12 hE12 hc5 nD
    -- the loop
    have k1 := s714 _ _ hr17
    have k2 := s714 _ _ hr2'
    refine ⟨_, rfl, _, rfl, r2, r1, _, _, rfl, rfl, k2, k1, Nat.le_of_lt (sz (by rw [l1, l2]; omega)), fun c7 nc7 => ?_⟩
    have s15' := same_upd (o := .lst (xs2 ++ xs1)) nc7
    have s715 := s714.trans s15'
    have hE21 : Paired (Er (upd H14 c7 (.lst (xs2 ++ xs1))) x) (xs2 ++ xs1) (tb ++ tb) := paired_app (paired_same s715 hE2) (paired_same s715 hE17)
    have hc7 : (upd H14 c7 (.lst (xs2 ++ xs1))) c7 = some (.lst (xs2 ++ xs1)) := upd_same
    refine ⟨c7, rfl, ⟨_, SqL.of upd_same⟩, ?_⟩
    generalize upd H14 c7 (.lst (xs2 ++ xs1)) = H15 at hE21 hc7 s715 ⊢
    clear s15' s714 s711 k1 k2
    have npn2 : ∀ {H' : Hp} {z : Addr}, Same H15 H' → H' z = none → z ≠ p := fun s n => npn (s715.trans s) n
    refine for_list (K := K) (a := c7) (xs := xs2 ++ xs1) (fun i σ H' => (∃ y6 y7 y8, σ = [some (.ref a), some (.ref p), some x, some (.ref cd), some (.ref r1), some (.ref r2), y6, y7, y8, none]) ∧ Same H15 H') ⟨⟨_, _, _, rfl⟩, Same.refl _⟩ (fun i σ H' _ q => SqL.of (q.2 _ _ hc7)) ?_ ?_
    · rintro i y σ H16 hi ⟨⟨y6, y7, y8, rfl⟩, hs⟩
      obtain ⟨r, hr', a1, d1, rfl, h1, h2⟩ := paired_get hE21 hi
      have rm : r ∈ tb := (List.mem_append.mp (List.mem_of_getElem? hr')).elim id id
      obtain ⟨kt, pm⟩ := hT r rm
      have A1 := kt.at_
      have h1' := hs _ _ h1
      have h2' := hs _ _ h2
      refine ⟨_, rfl, a1, r.1, d1, _, _, rfl, h1', h2', A1.xf, A1.nC, rfl, rfl, ?_⟩
      have eU : decide (V.str r.2.2 = V.str "UnknownName") = isU r := by
        unfold isU
        by_cases c : r.2.2 = ("UnknownName" : Str)
        · rw [c, decide_eq_true rfl, decide_eq_true rfl]
        · rw [decide_eq_false c, decide_eq_false fun z => c (by injection z)]
      rw [eU]
      refine ⟨_, rfl, a1, r.1, d1, _, _, _, _, rfl, h1', h2', A1.ec, A1.ic, .own CL, kt.kL, ?_⟩
      refine ⟨_, rfl, a1, r.1, d1, _, _, _, _, rfl, h1', h2', A1.ec, A1.ic, .ty _, kt.kV, ?_⟩
      refine ⟨_, rfl, a1, r.1, d1, _, _, _, _, rfl, h1', h2', A1.ec, A1.ic, .own CM, kt.kM, ?_⟩
      refine ⟨_, rfl, a1, r.1, d1, _, _, _, _, rfl, h1', h2', A1.ec, A1.ic, .ty _, kt.kK, ?_⟩
      refine ⟨(by show 4 ≤ sizeLine; decide), fun c8 nc8 => ?_⟩
      have q1 := same_upd (o := .lst [.bl (!isU r), .bl (!isU r), .bl (isU r), .bl (isU r)]) nc8
      refine ⟨_, rfl, _, rfl, a1, r.1, d1, _, _, _, _, rfl, q1 _ _ h1', q1 _ _ h2', A1.ec, A1.ic, .ty _, kt.kI, ?_⟩
      refine ⟨(by show 1 ≤ sizeLine; decide), fun c9 nc9 => ?_⟩
      have q2 := same_upd (o := .lst [.bl false]) nc9
      refine ⟨_, _, _, _, rfl, rfl, q2 _ _ upd_same, upd_same, (by show 5 ≤ sizeLine; decide), fun c10 nc10 => ?_⟩
      have q3 := same_upd (o := .lst ([.bl (!isU r), .bl (!isU r), .bl (isU r), .bl (isU r)] ++ [.bl false])) nc10
      refine ⟨_, rfl, _, rfl, _, rfl, _, rfl, _, rfl, _, rfl, (by show 5 ≤ sizeLine; decide), fun c11 nc11 => ?_⟩
      have q4 := same_upd (o := .lst [.bl (!isU r), .bl (!isU r), .bl (isU r), .bl (isU r), .bl false]) nc11
      have q14 := q1.trans (q2.trans (q3.trans q4))
      refine ⟨p, _, _, .list ([!isU r, !isU r, isU r, isU r, false].map .bool), rfl, da_list (q4 _ _ upd_same) (npn2 (hs.trans (q1.trans q2)) nc10) (by show 5 ≤ 100000; decide) (da_bls (zs := [!isU r, !isU r, isU r, isU r, false])), da_list upd_same (npn2 (hs.trans (q1.trans (q2.trans q3))) nc11) (by show 5 ≤ 100000; decide) (da_bls (zs := [!isU r, !isU r, isU r, isU r, false])), fun H17 s17 => ⟨true, rfl, iteF ?_⟩⟩
      have q17 := q14.trans s17
      have g1 := q17 _ _ h1'
      have g2 := q17 _ _ h2'
      refine ⟨_, rfl, _, r.1, _, _, rfl, ⟨a1, d1, rfl, g1, g2⟩, A1.ec, A1.ic, kt.ks, fun H18 s18 => ⟨rfl, _, rfl, ?_⟩⟩
      rw [one_of (hm r rm) hnd]
      refine iteF ?_
      refine ⟨_, rfl, a1, r.1, d1, _, _, _, _, rfl, s18 _ _ g1, s18 _ _ g2, A1.ec, A1.ic, .own CN, kt.kN, _, rfl, iteF ?_⟩
      exact ⟨⟨_, _, _, rfl⟩, hs.trans (q17.trans s18)⟩
    · rintro σ H16 ⟨⟨y6, y7, y8, rfl⟩, hs⟩
      -- NothingLeft
      refine fun a2 na2 => Ex.told0 rfl na2 fun H17 s17 x17 => ?_
      obtain ⟨a3, d3, e3, h1, h2⟩ := x17
      obtain rfl : a2 = a3 := by injection e3
      refine ⟨_, rfl, a2, CN, d3, _, _, _, _, rfl, h1, h2, aN.ec, aN.ic, .ty _, nI, ?_⟩
      refine ⟨_, rfl, a2, CN, d3, _, _, _, _, rfl, h1, h2, aN.ec, aN.ic, .own CL, nL, ?_⟩
      refine ⟨_, rfl, a2, CN, d3, _, _, _, _, rfl, h1, h2, aN.ec, aN.ic, .own CM, nM, ?_⟩
      refine ⟨_, rfl, _, CN, _, fun _ => false, rfl, ⟨a2, d3, rfl, h1, h2⟩, aN.ec, aN.ic, nS, fun H18 s18 => ?_⟩
      have z0 : ((Cs.map fun _ => false).filter id).length = 0 := by
        rw [List.filter_eq_nil_iff.mpr]
        · rfl
        · intro b hb
          obtain ⟨c, _, rfl⟩ := List.mem_map.mp hb
          exact Bool.false_ne_true
      rw [z0]
      refine ⟨(by show 4 ≤ sizeLine; decide), fun c8 nc8 => ?_⟩
      have q1 := same_upd (o := .lst [.bl true, .bl false, .bl false, .int ((0 : Nat) : Int)]) nc8
      have q11 := s18.trans q1
      refine ⟨_, rfl, _, rfl, a2, CN, d3, _, _, rfl, q11 _ _ h1, q11 _ _ h2, aN.xf, aN.nC, rfl, (by show 2 ≤ sizeLine; decide), fun c9 nc9 => ?_⟩
      have q2 := same_upd (o := .lst [.ref c8, .str "NothingLeft"]) nc9
      refine ⟨(by show 4 ≤ sizeLine; decide), fun c10 nc10 => ⟨(by show 2 ≤ sizeLine; decide), fun c11 nc11 => ?_⟩⟩
      have q3 := same_upd (o := .lst [.bl true, .bl false, .bl false, .int 0]) nc10
      have q4 := same_upd (o := .lst [.ref c10, .str "NothingLeft"]) nc11
      have b0 := hs.trans (s17.trans s18)
      have n8 := npn2 b0 nc8
      have n9 := npn2 (b0.trans q1) nc9
      have n10 := npn2 (b0.trans (q1.trans q2)) nc10
      have n11 := npn2 (b0.trans (q1.trans (q2.trans q3))) nc11
      refine ⟨p, _, _, .list [.list [.bool true, .bool false, .bool false, .int 0], .str "NothingLeft"], rfl, da_list ((q3.trans q4) _ _ upd_same) n9 (by show 2 ≤ 100000; decide) (.cons (da_list ((q2.trans (q3.trans q4)) _ _ upd_same) n8 (by show 4 ≤ 100000; decide) (.cons rfl (.cons rfl (.cons rfl (.cons rfl .nil))))) (.cons rfl .nil)),
        da_list upd_same n11 (by show 2 ≤ 100000; decide) (.cons (da_list (q4 _ _ upd_same) n10 (by show 4 ≤ 100000; decide) (.cons rfl (.cons rfl (.cons rfl (.cons rfl .nil))))) (.cons rfl .nil)), fun H19 s19 => ⟨true, rfl, iteF ?_⟩⟩
      -- the base classes
      refine fun a4 na4 => ⟨a4, CL, _, _, _, rfl, upd_same, eL, cL, .ty _, vL, _, rfl, ?_⟩
      refine iteT fun a5 na5 => ⟨a5, CM, _, _, _, rfl, upd_same, eM, cM, .ty _, vM, ?_⟩
      exact k _
end

/-! ### what the written part says of the classes -/
structure CG (K : PySem.W.Frag) (C : Addr) (x : Str) : Prop where
  ns : PySem.W.nsIn K mainGlobals x = some (some (.ref C))
  ty : PySem.W.typeIn K (.ref C) = some (.type "type")
  kp : PySem.W.keepIn K (.ref C) = true
  ga : PySem.W.findIn K (.ref C) "__getattribute__" = some (some (.builtin "BaseException.__getattribute__"))
  gg : PySem.W.findIn K (.ref C) "__getattr__" = some none
  kc : PySem.W.findIn K (.ref C) "__class__" = some (some (.builtin "object.__class__"))
  hd : PySem.W.hasDictIn K C = true
structure CF (K : PySem.W.Frag) (C : Addr) (f : Str) : Prop where
  sa : PySem.W.findIn K (.ref C) "__setattr__" = some (some (.builtin "object.__setattr__"))
  nf : PySem.W.findIn K (.ref C) f = some none
  nc : PySem.W.findIn K (.ref C) "code" = some none
structure SP (K : PySem.W.Frag) : Prop where
  gt : PySem.W.specialIn K (.builtin "object.__class__") "__get__" = some (some (.builtin "getset_descriptor.__get__"))
  tk : PySem.W.takesIn K (.builtin "object.__class__") = some true
def CM (K : PySem.W.Frag) (C : Addr) (m : List Value) : Prop := ∃ cd, PySem.W.clsIn K C = some cd ∧ cd.mro = .ref C :: m
theorem CM.sub {K : PySem.W.Frag} {C : Addr} {m : List Value} (h : CM K C m) (t : Value) : PySem.W.subIn K (.ref C) t = some ((Value.ref C :: m).contains t) := by
  obtain ⟨cd, h1, h2⟩ := h
  show PySem.W.mroIn K C t = _
  unfold PySem.W.mroIn
  rw [h1, Option.bind_some, h2]
  rfl
theorem CM.some {K : PySem.W.Frag} {C : Addr} {m : List Value} (h : CM K C m) : (PySem.W.clsIn K C).isSome = true := by
  obtain ⟨cd, h1, h2⟩ := h
  rw [h1]
  rfl
theorem ref_beq {a b : Addr} : (Value.ref a == Value.ref b) = decide (a = b) := by
  by_cases h : a = b
  · rw [h, decide_eq_true rfl, beq_self_eq_true]
  · rw [decide_eq_false h, beq_eq_false_iff_ne.mpr fun e => h (by injection e)]
theorem ref_ty {a : Addr} {t : String} : (Value.ref a == Value.type t) = false := beq_eq_false_iff_ne.mpr fun e => by cases e
theorem ty_ref {a : Addr} {t : String} : (Value.type t == Value.ref a) = false := beq_eq_false_iff_ne.mpr fun e => by cases e
theorem kitR {K : PySem.W.Frag} {C D : Addr} {m : List Value} (h : CM K C m) (i : (PySem.W.clsIn K D).isSome = true) (t : PySem.W.typeIn K (.ref D) = some (.type "type")) : PySem.W.kitOne K (.ref C) (.ref D) = some (decide (C = D) || m.contains (.ref D)) := by
  unfold PySem.W.kitOne
  rw [ref_beq]
  by_cases e : C = D
  · rw [decide_eq_true e, if_pos rfl, Bool.true_or]
  · rw [decide_eq_false e, if_neg Bool.false_ne_true, Bool.false_or]
    show (if ((PySem.W.clsIn K D).isSome && PySem.W.typeIn K (.ref D) == some (.type "type")) = true then PySem.W.subIn K (.ref C) (.ref D) else none) = _
    rw [if_pos (by rw [i, t, beq_self_eq_true]; rfl), h.sub, List.contains_cons, ref_beq, decide_eq_false fun z => e z.symm, Bool.false_or]
theorem kitT {K : PySem.W.Frag} {C : Addr} {m : List Value} {T : String} (h : CM K C m) (k : PySem.W.kitMeta T = true) : PySem.W.kitOne K (.ref C) (.type T) = some (m.contains (.type T)) := by
  unfold PySem.W.kitOne
  rw [ref_ty, if_neg Bool.false_ne_true]
  show (if PySem.W.kitMeta T = true then PySem.W.subIn K (.ref C) (.type T) else none) = _
  rw [if_pos k, h.sub, List.contains_cons, ty_ref, Bool.false_or]
theorem at_of {K : PySem.W.Frag} {C : Addr} {x : Str} {m : List Value} (g : CG K C x) (nc : PySem.W.findIn K (.ref C) "code" = some none) (s : SP K) (h : CM K C m) (b : m.contains (.type "BaseException") = true) (o : m.contains (.type "object") = true) : At K C := by
  have e1 : PySem.W.subIn K (.ref C) (.type "BaseException") = some true := by rw [h.sub, List.contains_cons, b, Bool.or_true]
  have e2 : PySem.W.mroIn K C (.type "object") = some true := (h.sub (.type "object")).trans (by rw [List.contains_cons, o, Bool.or_true])
  exact ⟨⟨g.ga, g.gg, e1, g.hd⟩, nc, ⟨g.ga, g.gg, e1, g.hd, g.kc, s.gt, s.tk, e2⟩, h.some⟩
abbrev mVE : List Value := [.type "ValueError", .type "Exception", .type "BaseException", .type "object"]
abbrev mLE : List Value := [.type "LookupError", .type "Exception", .type "BaseException", .type "object"]
abbrev mIE : List Value := [.type "IndexError", .type "LookupError", .type "Exception", .type "BaseException", .type "object"]
theorem cont_ref {a b : Addr} {m : List Value} (h : ∀ t ∈ m, ∃ n, t = Value.type n) : (Value.ref a :: m).contains (.ref b) = decide (b = a) := by
  have off : m.contains (.ref b) = false := by
    rw [List.contains_eq_any_beq, List.any_eq_false]
    intro t ht
    obtain ⟨n, rfl⟩ := h t ht
    rw [ref_ty]
    exact Bool.false_ne_true
  rw [List.contains_cons, off, Bool.or_false, ref_beq]
theorem off_ref {b : Addr} {m : List Value} (h : ∀ t ∈ m, ∃ n, t = Value.type n) : m.contains (.ref b) = false := by
  rw [List.contains_eq_any_beq, List.any_eq_false]
  intro t ht
  obtain ⟨n, rfl⟩ := h t ht
  rw [ref_ty]
  exact Bool.false_ne_true
theorem tyVE : ∀ t ∈ mVE, ∃ n, t = Value.type n := fun t h => by
  simp only [mVE, List.mem_cons, List.not_mem_nil, or_false] at h
  rcases h with rfl | rfl | rfl | rfl <;> exact ⟨_, rfl⟩
theorem tyLE : ∀ t ∈ mLE, ∃ n, t = Value.type n := fun t h => by
  simp only [mLE, List.mem_cons, List.not_mem_nil, or_false] at h
  rcases h with rfl | rfl | rfl | rfl <;> exact ⟨_, rfl⟩
theorem tyIE : ∀ t ∈ mIE, ∃ n, t = Value.type n := fun t h => by
  simp only [mIE, List.mem_cons, List.not_mem_nil, or_false] at h
  rcases h with rfl | rfl | rfl | rfl | rfl <;> exact ⟨_, rfl⟩
/-- what each class of isinstance is asked for -/
abbrev Tys (K : PySem.W.Frag) (c : Addr) : Prop := (PySem.W.clsIn K c).isSome = true ∧ PySem.W.typeIn K (.ref c) = some (.type "type")
theorem kt_ve {K : PySem.W.Frag} {C CL CM0 CN : Addr} {Cs : List Addr} {f x : Str} (h : CM K C (.ref CL :: mVE)) (A : At K C) (nF : PySem.W.findIn K (.ref C) f = some none) (u : isU (C, f, x) = false) (mem : C ∈ Cs) (nd : (CL :: CM0 :: CN :: Cs).Nodup) (tys : ∀ c ∈ CL :: CM0 :: CN :: Cs, Tys K c) : Kt K CL CM0 CN Cs (C, f, x) := by
  obtain ⟨n1, nd⟩ := List.nodup_cons.mp nd
  obtain ⟨n2, nd⟩ := List.nodup_cons.mp nd
  obtain ⟨n3, nd⟩ := List.nodup_cons.mp nd
  have t1 := tys CL (by simp)
  have t2 := tys CM0 (by simp)
  have t3 := tys CN (by simp)
  refine ⟨A, nF, ?_, ?_, ?_, ?_, ?_, ?_, fun c hc => ?_⟩
  · rw [u, kitR h t1.1 t1.2, cont_ref tyVE, decide_eq_true rfl, Bool.or_true]; rfl
  · rw [u, kitT h (by decide +kernel), List.contains_cons, ty_ref, Bool.false_or]; rfl
  · rw [u, kitR h t2.1 t2.2, cont_ref tyVE, decide_eq_false fun e => n2 (by rw [← e]; simp [mem]), decide_eq_false fun e => n1 (by rw [← e]; simp)]; rfl
  · rw [u, kitT h (by decide +kernel), List.contains_cons, ty_ref, Bool.false_or]; rfl
  · rw [kitT h (by decide +kernel), List.contains_cons, ty_ref, Bool.false_or]; rfl
  · rw [kitR h t3.1 t3.2, cont_ref tyVE, decide_eq_false fun e => n3 (by rw [← e]; exact mem), decide_eq_false fun e => n1 (by rw [← e]; simp)]; rfl
  · have t := tys c (by simp [hc])
    rw [kitR h t.1 t.2, cont_ref tyVE, decide_eq_false (show ¬ c = CL from fun e => n1 (by rw [← e]; simp [hc])), Bool.or_false]
theorem kt_le {K : PySem.W.Frag} {C CL CM0 CN : Addr} {Cs : List Addr} {f x : Str} (h : CM K C (.ref CM0 :: mLE)) (A : At K C) (nF : PySem.W.findIn K (.ref C) f = some none) (u : isU (C, f, x) = true) (mem : C ∈ Cs) (nd : (CL :: CM0 :: CN :: Cs).Nodup) (tys : ∀ c ∈ CL :: CM0 :: CN :: Cs, Tys K c) : Kt K CL CM0 CN Cs (C, f, x) := by
  obtain ⟨n1, nd⟩ := List.nodup_cons.mp nd
  obtain ⟨n2, nd⟩ := List.nodup_cons.mp nd
  obtain ⟨n3, nd⟩ := List.nodup_cons.mp nd
  have t1 := tys CL (by simp)
  have t2 := tys CM0 (by simp)
  have t3 := tys CN (by simp)
  refine ⟨A, nF, ?_, ?_, ?_, ?_, ?_, ?_, fun c hc => ?_⟩
  · rw [u, kitR h t1.1 t1.2, cont_ref tyLE, decide_eq_false fun e => n1 (by rw [← e]; simp [mem]), decide_eq_false fun e => n1 (by rw [e]; simp)]; rfl
  · rw [u, kitT h (by decide +kernel), List.contains_cons, ty_ref, Bool.false_or]; rfl
  · rw [u, kitR h t2.1 t2.2, cont_ref tyLE, decide_eq_true rfl, Bool.or_true]
  · rw [u, kitT h (by decide +kernel), List.contains_cons, ty_ref, Bool.false_or]; rfl
  · rw [kitT h (by decide +kernel), List.contains_cons, ty_ref, Bool.false_or]; rfl
  · rw [kitR h t3.1 t3.2, cont_ref tyLE, decide_eq_false fun e => n3 (by rw [← e]; exact mem), decide_eq_false fun e => n2 (by rw [← e]; simp)]; rfl
  · have t := tys c (by simp [hc])
    rw [kitR h t.1 t.2, cont_ref tyLE, decide_eq_false (show ¬ c = CM0 from fun e => n2 (by rw [← e]; simp [hc])), Bool.or_false]

set_option maxHeartbeats 40000000 in
theorem all_mk {l : PySem.W.OpenLaw} {w : World} {K : PySem.W.Frag} {h : Heap} {mg : Str → Option Value} {fa : Addr} (X : K.In h) (G : h.Ns mainGlobals mg) (hfa : mg "law" = some (.ref fa))
    {CL CM0 CN C1 C2 C3 C4 C5 C6 C7 C8 C9 C10 C11 C12 C13 C14 C15 C16 C17 C18 : Addr}
    {f1 : Addr} {od1 an1 : Option Addr} {sl1 : Array (Option Value)} {oc1 kV1 dc1 pm1 cd1 ct1 : Value}
    {f2 : Addr} {od2 an2 : Option Addr} {sl2 : Array (Option Value)} {oc2 kV2 dc2 pm2 cd2 ct2 : Value}
    {f3 : Addr} {od3 an3 : Option Addr} {sl3 : Array (Option Value)} {oc3 kV3 dc3 pm3 cd3 ct3 : Value}
    {f4 : Addr} {od4 an4 : Option Addr} {sl4 : Array (Option Value)} {oc4 kV4 dc4 pm4 cd4 ct4 : Value}
    {f5 : Addr} {od5 an5 : Option Addr} {sl5 : Array (Option Value)} {oc5 kV5 dc5 pm5 cd5 ct5 : Value}
    {f6 : Addr} {od6 an6 : Option Addr} {sl6 : Array (Option Value)} {oc6 kV6 dc6 pm6 cd6 ct6 : Value}
    {f7 : Addr} {od7 an7 : Option Addr} {sl7 : Array (Option Value)} {oc7 kV7 dc7 pm7 cd7 ct7 : Value}
    {f8 : Addr} {od8 an8 : Option Addr} {sl8 : Array (Option Value)} {oc8 kV8 dc8 pm8 cd8 ct8 : Value}
    {f9 : Addr} {od9 an9 : Option Addr} {sl9 : Array (Option Value)} {oc9 kV9 dc9 pm9 cd9 ct9 : Value}
    {f10 : Addr} {od10 an10 : Option Addr} {sl10 : Array (Option Value)} {oc10 kV10 dc10 pm10 cd10 ct10 : Value}
    {f11 : Addr} {od11 an11 : Option Addr} {sl11 : Array (Option Value)} {oc11 kV11 dc11 pm11 cd11 ct11 : Value}
    {f12 : Addr} {od12 an12 : Option Addr} {sl12 : Array (Option Value)} {oc12 kV12 dc12 pm12 cd12 ct12 : Value}
    {f13 : Addr} {od13 an13 : Option Addr} {sl13 : Array (Option Value)} {oc13 kV13 dc13 pm13 cd13 ct13 : Value}
    {f14 : Addr} {od14 an14 : Option Addr} {sl14 : Array (Option Value)} {oc14 kV14 dc14 pm14 cd14 ct14 : Value}
    {f15 : Addr} {od15 an15 : Option Addr} {sl15 : Array (Option Value)} {oc15 kV15 dc15 pm15 cd15 ct15 : Value}
    {f16 : Addr} {od16 an16 : Option Addr} {sl16 : Array (Option Value)} {oc16 kV16 dc16 pm16 cd16 ct16 : Value}
    {f17 : Addr} {od17 an17 : Option Addr} {sl17 : Array (Option Value)} {oc17 kV17 dc17 pm17 cd17 ct17 : Value}
    {f18 : Addr} {od18 an18 : Option Addr} {sl18 : Array (Option Value)} {oc18 kV18 dc18 pm18 cd18 ct18 : Value}
    {f19 : Addr} {od19 an19 : Option Addr} {sl19 : Array (Option Value)} {oc19 kV19 dc19 pm19 cd19 ct19 : Value}
    {f20 : Addr} {od20 an20 : Option Addr} {sl20 : Array (Option Value)} {oc20 kV20 dc20 pm20 cd20 ct20 : Value}
    {f21 : Addr} {od21 an21 : Option Addr} {sl21 : Array (Option Value)} {oc21 kV21 dc21 pm21 cd21 ct21 : Value}
    {f22 : Addr} {od22 an22 : Option Addr} {sl22 : Array (Option Value)} {oc22 kV22 dc22 pm22 cd22 ct22 : Value}
    {f23 : Addr} {od23 an23 : Option Addr} {sl23 : Array (Option Value)} {oc23 kV23 dc23 pm23 cd23 ct23 : Value}
    {f24 : Addr} {od24 an24 : Option Addr} {sl24 : Array (Option Value)} {oc24 kV24 dc24 pm24 cd24 ct24 : Value}
    {f25 : Addr} {od25 an25 : Option Addr} {sl25 : Array (Option Value)} {oc25 kV25 dc25 pm25 cd25 ct25 : Value}
    {f26 : Addr} {od26 an26 : Option Addr} {sl26 : Array (Option Value)} {oc26 kV26 dc26 pm26 cd26 ct26 : Value}
    {f27 : Addr} {od27 an27 : Option Addr} {sl27 : Array (Option Value)} {oc27 kV27 dc27 pm27 cd27 ct27 : Value}
    {f28 : Addr} {od28 an28 : Option Addr} {sl28 : Array (Option Value)} {oc28 kV28 dc28 pm28 cd28 ct28 : Value}
    (gC1 : CG K C1 "InvalidNumber")
    (gC2 : CG K C2 "InvalidName")
    (gC3 : CG K C3 "InvalidSpan")
    (gC4 : CG K C4 "InvalidText")
    (gC5 : CG K C5 "InvalidSeat")
    (gC6 : CG K C6 "InvalidRecord")
    (gC7 : CG K C7 "Clash")
    (gC8 : CG K C8 "DuplicateName")
    (gC9 : CG K C9 "DuplicateNumber")
    (gC10 : CG K C10 "TooMany")
    (gC11 : CG K C11 "Full")
    (gC12 : CG K C12 "NotAThing")
    (gC13 : CG K C13 "Contradiction")
    (gC14 : CG K C14 "InvalidRule")
    (gC15 : CG K C15 "InvalidCommand")
    (gC16 : CG K C16 "InvalidLimit")
    (gC17 : CG K C17 "InvalidPage")
    (gC18 : CG K C18 "UnknownName")
    (gCL : CG K CL "LumpError")
    (gCM0 : CG K CM0 "Missing")
    (gCN : CG K CN "NothingLeft")
    (mC1 : CM K C1 (.ref CL :: mVE))
    (mC2 : CM K C2 (.ref CL :: mVE))
    (mC3 : CM K C3 (.ref CL :: mVE))
    (mC4 : CM K C4 (.ref CL :: mVE))
    (mC5 : CM K C5 (.ref CL :: mVE))
    (mC6 : CM K C6 (.ref CL :: mVE))
    (mC7 : CM K C7 (.ref CL :: mVE))
    (mC8 : CM K C8 (.ref CL :: mVE))
    (mC9 : CM K C9 (.ref CL :: mVE))
    (mC10 : CM K C10 (.ref CL :: mVE))
    (mC11 : CM K C11 (.ref CL :: mVE))
    (mC12 : CM K C12 (.ref CL :: mVE))
    (mC13 : CM K C13 (.ref CL :: mVE))
    (mC14 : CM K C14 (.ref CL :: mVE))
    (mC15 : CM K C15 (.ref CL :: mVE))
    (mC16 : CM K C16 (.ref CL :: mVE))
    (mC17 : CM K C17 (.ref CL :: mVE))
    (mC18 : CM K C18 (.ref CM0 :: mLE))
    (mCL : CM K CL mVE)
    (mCM0 : CM K CM0 mLE)
    (mCN : CM K CN mIE)
    (h1 : CF K C1 "given")
    (x1 : PySem.W.excInitIn K C1 mVE "ValueError.__new__" = true)
    (h2 : CF K C2 "given")
    (x2 : PySem.W.excInitIn K C2 mVE "ValueError.__new__" = true)
    (h3 : CF K C3 "at")
    (x3 : PySem.W.excInitIn K C3 mVE "ValueError.__new__" = true)
    (h4 : CF K C4 "given")
    (x4 : PySem.W.excInitIn K C4 mVE "ValueError.__new__" = true)
    (h5 : CF K C5 "at")
    (x5 : PySem.W.excInitIn K C5 mVE "ValueError.__new__" = true)
    (h6 : CF K C6 "at")
    (x6 : PySem.W.excInitIn K C6 mVE "ValueError.__new__" = true)
    (h7 : CF K C7 "at")
    (x7 : PySem.W.excInitIn K C7 mVE "ValueError.__new__" = true)
    (h8 : CF K C8 "name")
    (x8 : PySem.W.excInitIn K C8 mVE "ValueError.__new__" = true)
    (h9 : CF K C9 "given")
    (x9 : PySem.W.excInitIn K C9 mVE "ValueError.__new__" = true)
    (h10 : CF K C10 "most")
    (x10 : PySem.W.excInitIn K C10 mVE "ValueError.__new__" = true)
    (h11 : CF K C11 "limit")
    (x11 : PySem.W.excInitIn K C11 mVE "ValueError.__new__" = true)
    (h12 : CF K C12 "name")
    (x12 : PySem.W.excInitIn K C12 mVE "ValueError.__new__" = true)
    (h13 : CF K C13 "at")
    (x13 : PySem.W.excInitIn K C13 mVE "ValueError.__new__" = true)
    (h14 : CF K C14 "given")
    (x14 : PySem.W.excInitIn K C14 mVE "ValueError.__new__" = true)
    (h15 : CF K C15 "at")
    (x15 : PySem.W.excInitIn K C15 mVE "ValueError.__new__" = true)
    (h16 : CF K C16 "given")
    (x16 : PySem.W.excInitIn K C16 mVE "ValueError.__new__" = true)
    (h17 : CF K C17 "line")
    (x17 : PySem.W.excInitIn K C17 mVE "ValueError.__new__" = true)
    (h18 : CF K C18 "name")
    (x18 : PySem.W.excInitIn K C18 mLE "LookupError.__new__" = true)
    (hN : CF K CN "code")
    (xN : PySem.W.excInitIn K CN mIE "IndexError.__new__" = true)
    (xL : PySem.W.excIn K CL mVE "ValueError.__new__" = true)
    (xM : PySem.W.excIn K CM0 mLE "LookupError.__new__" = true)
    (sp : SP K)
    (nd : [CL, CM0, CN, C1, C2, C3, C4, C5, C6, C7, C8, C9, C10, C11, C12, C13, C14, C15, C16, C17, C18].Nodup)
    (a1 : PySem.W.nsIn K mainGlobals "_law_bag" = some (some (.ref f1)))
    (l1 : K.lookup f1 = some ⟨oc1, od1, .func (PySem.W.fnOf "_law_bag" "_law_bag" (defArgs sBag) (defBody sBag) (defScope sBag) .none kV1 dc1 pm1 an1 cd1 ct1), sl1⟩)
    (c1 : PySem.W.codeIn K cd1 "_law_bag" = true) (k1 : PySem.W.keepIn K (.ref f1) = true)
    (a2 : PySem.W.nsIn K mainGlobals "_law_pull" = some (some (.ref f2)))
    (l2 : K.lookup f2 = some ⟨oc2, od2, .func (PySem.W.fnOf "_law_pull" "_law_pull" (defArgs sPull) (defBody sPull) (defScope sPull) .none kV2 dc2 pm2 an2 cd2 ct2), sl2⟩)
    (c2 : PySem.W.codeIn K cd2 "_law_pull" = true) (k2 : PySem.W.keepIn K (.ref f2) = true)
    (a3 : PySem.W.nsIn K mainGlobals "_law_pick" = some (some (.ref f3)))
    (l3 : K.lookup f3 = some ⟨oc3, od3, .func (PySem.W.fnOf "_law_pick" "_law_pick" (defArgs sPick) (defBody sPick) (defScope sPick) .none kV3 dc3 pm3 an3 cd3 ct3), sl3⟩)
    (c3 : PySem.W.codeIn K cd3 "_law_pick" = true) (k3 : PySem.W.keepIn K (.ref f3) = true)
    (a4 : PySem.W.nsIn K mainGlobals "_law_same" = some (some (.ref f4)))
    (l4 : K.lookup f4 = some ⟨oc4, od4, .func (PySem.W.fnOf "_law_same" "_law_same" (defArgs sSame) (defBody sSame) (defScope sSame) .none kV4 dc4 pm4 an4 cd4 ct4), sl4⟩)
    (c4 : PySem.W.codeIn K cd4 "_law_same" = true) (k4 : PySem.W.keepIn K (.ref f4) = true)
    (a5 : PySem.W.nsIn K mainGlobals "_law_field" = some (some (.ref f5)))
    (l5 : K.lookup f5 = some ⟨oc5, od5, .func (PySem.W.fnOf "_law_field" "_law_field" (defArgs sField) (defBody sField) (defScope sField) .none kV5 dc5 pm5 an5 cd5 ct5), sl5⟩)
    (c5 : PySem.W.codeIn K cd5 "_law_field" = true) (k5 : PySem.W.keepIn K (.ref f5) = true)
    (a6 : PySem.W.nsIn K mainGlobals "_law_named" = some (some (.ref f6)))
    (l6 : K.lookup f6 = some ⟨oc6, od6, .func (PySem.W.fnOf "_law_named" "_law_named" (defArgs sNamed) (defBody sNamed) (defScope sNamed) .none kV6 dc6 pm6 an6 cd6 ct6), sl6⟩)
    (c6 : PySem.W.codeIn K cd6 "_law_named" = true) (k6 : PySem.W.keepIn K (.ref f6) = true)
    (a7 : PySem.W.nsIn K mainGlobals "_law_bare" = some (some (.ref f7)))
    (l7 : K.lookup f7 = some ⟨oc7, od7, .func (PySem.W.fnOf "_law_bare" "_law_bare" (defArgs sBare) (defBody sBare) (defScope sBare) .none kV7 dc7 pm7 an7 cd7 ct7), sl7⟩)
    (c7 : PySem.W.codeIn K cd7 "_law_bare" = true) (k7 : PySem.W.keepIn K (.ref f7) = true)
    (a8 : PySem.W.nsIn K mainGlobals "_law_classes_of" = some (some (.ref f8)))
    (l8 : K.lookup f8 = some ⟨oc8, od8, .func (PySem.W.fnOf "_law_classes_of" "_law_classes_of" (defArgs sClasses) (defBody sClasses) (defScope sClasses) .none kV8 dc8 pm8 an8 cd8 ct8), sl8⟩)
    (c8 : PySem.W.codeIn K cd8 "_law_classes_of" = true) (k8 : PySem.W.keepIn K (.ref f8) = true)
    (a9 : PySem.W.findIn K (.ref C1) "__init__" = some (some (.ref f9)))
    (i9 : PySem.W.isFn K (.ref f9) = true)
    (l9 : K.lookup f9 = some ⟨oc9, od9, .func (PySem.W.fnOf "__init__" "InvalidNumber.__init__" (defArgs sX1) (defBody sX1) (defScope sX1) .none kV9 dc9 pm9 an9 cd9 ct9), sl9⟩)
    (c9 : PySem.W.codeIn K cd9 "InvalidNumber.__init__" = true) (k9 : PySem.W.keepIn K (.ref f9) = true)
    (a10 : PySem.W.findIn K (.ref C2) "__init__" = some (some (.ref f10)))
    (i10 : PySem.W.isFn K (.ref f10) = true)
    (l10 : K.lookup f10 = some ⟨oc10, od10, .func (PySem.W.fnOf "__init__" "InvalidName.__init__" (defArgs sX2) (defBody sX2) (defScope sX2) .none kV10 dc10 pm10 an10 cd10 ct10), sl10⟩)
    (c10 : PySem.W.codeIn K cd10 "InvalidName.__init__" = true) (k10 : PySem.W.keepIn K (.ref f10) = true)
    (a11 : PySem.W.findIn K (.ref C3) "__init__" = some (some (.ref f11)))
    (i11 : PySem.W.isFn K (.ref f11) = true)
    (l11 : K.lookup f11 = some ⟨oc11, od11, .func (PySem.W.fnOf "__init__" "InvalidSpan.__init__" (defArgs sX3) (defBody sX3) (defScope sX3) .none kV11 dc11 pm11 an11 cd11 ct11), sl11⟩)
    (c11 : PySem.W.codeIn K cd11 "InvalidSpan.__init__" = true) (k11 : PySem.W.keepIn K (.ref f11) = true)
    (a12 : PySem.W.findIn K (.ref C4) "__init__" = some (some (.ref f12)))
    (i12 : PySem.W.isFn K (.ref f12) = true)
    (l12 : K.lookup f12 = some ⟨oc12, od12, .func (PySem.W.fnOf "__init__" "InvalidText.__init__" (defArgs sX4) (defBody sX4) (defScope sX4) .none kV12 dc12 pm12 an12 cd12 ct12), sl12⟩)
    (c12 : PySem.W.codeIn K cd12 "InvalidText.__init__" = true) (k12 : PySem.W.keepIn K (.ref f12) = true)
    (a13 : PySem.W.findIn K (.ref C5) "__init__" = some (some (.ref f13)))
    (i13 : PySem.W.isFn K (.ref f13) = true)
    (l13 : K.lookup f13 = some ⟨oc13, od13, .func (PySem.W.fnOf "__init__" "InvalidSeat.__init__" (defArgs sX5) (defBody sX5) (defScope sX5) .none kV13 dc13 pm13 an13 cd13 ct13), sl13⟩)
    (c13 : PySem.W.codeIn K cd13 "InvalidSeat.__init__" = true) (k13 : PySem.W.keepIn K (.ref f13) = true)
    (a14 : PySem.W.findIn K (.ref C6) "__init__" = some (some (.ref f14)))
    (i14 : PySem.W.isFn K (.ref f14) = true)
    (l14 : K.lookup f14 = some ⟨oc14, od14, .func (PySem.W.fnOf "__init__" "InvalidRecord.__init__" (defArgs sX6) (defBody sX6) (defScope sX6) .none kV14 dc14 pm14 an14 cd14 ct14), sl14⟩)
    (c14 : PySem.W.codeIn K cd14 "InvalidRecord.__init__" = true) (k14 : PySem.W.keepIn K (.ref f14) = true)
    (a15 : PySem.W.findIn K (.ref C7) "__init__" = some (some (.ref f15)))
    (i15 : PySem.W.isFn K (.ref f15) = true)
    (l15 : K.lookup f15 = some ⟨oc15, od15, .func (PySem.W.fnOf "__init__" "Clash.__init__" (defArgs sX7) (defBody sX7) (defScope sX7) .none kV15 dc15 pm15 an15 cd15 ct15), sl15⟩)
    (c15 : PySem.W.codeIn K cd15 "Clash.__init__" = true) (k15 : PySem.W.keepIn K (.ref f15) = true)
    (a16 : PySem.W.findIn K (.ref C8) "__init__" = some (some (.ref f16)))
    (i16 : PySem.W.isFn K (.ref f16) = true)
    (l16 : K.lookup f16 = some ⟨oc16, od16, .func (PySem.W.fnOf "__init__" "DuplicateName.__init__" (defArgs sX8) (defBody sX8) (defScope sX8) .none kV16 dc16 pm16 an16 cd16 ct16), sl16⟩)
    (c16 : PySem.W.codeIn K cd16 "DuplicateName.__init__" = true) (k16 : PySem.W.keepIn K (.ref f16) = true)
    (a17 : PySem.W.findIn K (.ref C9) "__init__" = some (some (.ref f17)))
    (i17 : PySem.W.isFn K (.ref f17) = true)
    (l17 : K.lookup f17 = some ⟨oc17, od17, .func (PySem.W.fnOf "__init__" "DuplicateNumber.__init__" (defArgs sX9) (defBody sX9) (defScope sX9) .none kV17 dc17 pm17 an17 cd17 ct17), sl17⟩)
    (c17 : PySem.W.codeIn K cd17 "DuplicateNumber.__init__" = true) (k17 : PySem.W.keepIn K (.ref f17) = true)
    (a18 : PySem.W.findIn K (.ref C10) "__init__" = some (some (.ref f18)))
    (i18 : PySem.W.isFn K (.ref f18) = true)
    (l18 : K.lookup f18 = some ⟨oc18, od18, .func (PySem.W.fnOf "__init__" "TooMany.__init__" (defArgs sX10) (defBody sX10) (defScope sX10) .none kV18 dc18 pm18 an18 cd18 ct18), sl18⟩)
    (c18 : PySem.W.codeIn K cd18 "TooMany.__init__" = true) (k18 : PySem.W.keepIn K (.ref f18) = true)
    (a19 : PySem.W.findIn K (.ref C11) "__init__" = some (some (.ref f19)))
    (i19 : PySem.W.isFn K (.ref f19) = true)
    (l19 : K.lookup f19 = some ⟨oc19, od19, .func (PySem.W.fnOf "__init__" "Full.__init__" (defArgs sX11) (defBody sX11) (defScope sX11) .none kV19 dc19 pm19 an19 cd19 ct19), sl19⟩)
    (c19 : PySem.W.codeIn K cd19 "Full.__init__" = true) (k19 : PySem.W.keepIn K (.ref f19) = true)
    (a20 : PySem.W.findIn K (.ref C12) "__init__" = some (some (.ref f20)))
    (i20 : PySem.W.isFn K (.ref f20) = true)
    (l20 : K.lookup f20 = some ⟨oc20, od20, .func (PySem.W.fnOf "__init__" "NotAThing.__init__" (defArgs sX12) (defBody sX12) (defScope sX12) .none kV20 dc20 pm20 an20 cd20 ct20), sl20⟩)
    (c20 : PySem.W.codeIn K cd20 "NotAThing.__init__" = true) (k20 : PySem.W.keepIn K (.ref f20) = true)
    (a21 : PySem.W.findIn K (.ref C13) "__init__" = some (some (.ref f21)))
    (i21 : PySem.W.isFn K (.ref f21) = true)
    (l21 : K.lookup f21 = some ⟨oc21, od21, .func (PySem.W.fnOf "__init__" "Contradiction.__init__" (defArgs sX13) (defBody sX13) (defScope sX13) .none kV21 dc21 pm21 an21 cd21 ct21), sl21⟩)
    (c21 : PySem.W.codeIn K cd21 "Contradiction.__init__" = true) (k21 : PySem.W.keepIn K (.ref f21) = true)
    (a22 : PySem.W.findIn K (.ref C14) "__init__" = some (some (.ref f22)))
    (i22 : PySem.W.isFn K (.ref f22) = true)
    (l22 : K.lookup f22 = some ⟨oc22, od22, .func (PySem.W.fnOf "__init__" "InvalidRule.__init__" (defArgs sX14) (defBody sX14) (defScope sX14) .none kV22 dc22 pm22 an22 cd22 ct22), sl22⟩)
    (c22 : PySem.W.codeIn K cd22 "InvalidRule.__init__" = true) (k22 : PySem.W.keepIn K (.ref f22) = true)
    (a23 : PySem.W.findIn K (.ref C15) "__init__" = some (some (.ref f23)))
    (i23 : PySem.W.isFn K (.ref f23) = true)
    (l23 : K.lookup f23 = some ⟨oc23, od23, .func (PySem.W.fnOf "__init__" "InvalidCommand.__init__" (defArgs sX15) (defBody sX15) (defScope sX15) .none kV23 dc23 pm23 an23 cd23 ct23), sl23⟩)
    (c23 : PySem.W.codeIn K cd23 "InvalidCommand.__init__" = true) (k23 : PySem.W.keepIn K (.ref f23) = true)
    (a24 : PySem.W.findIn K (.ref C16) "__init__" = some (some (.ref f24)))
    (i24 : PySem.W.isFn K (.ref f24) = true)
    (l24 : K.lookup f24 = some ⟨oc24, od24, .func (PySem.W.fnOf "__init__" "InvalidLimit.__init__" (defArgs sX16) (defBody sX16) (defScope sX16) .none kV24 dc24 pm24 an24 cd24 ct24), sl24⟩)
    (c24 : PySem.W.codeIn K cd24 "InvalidLimit.__init__" = true) (k24 : PySem.W.keepIn K (.ref f24) = true)
    (a25 : PySem.W.findIn K (.ref C17) "__init__" = some (some (.ref f25)))
    (i25 : PySem.W.isFn K (.ref f25) = true)
    (l25 : K.lookup f25 = some ⟨oc25, od25, .func (PySem.W.fnOf "__init__" "InvalidPage.__init__" (defArgs sX17) (defBody sX17) (defScope sX17) .none kV25 dc25 pm25 an25 cd25 ct25), sl25⟩)
    (c25 : PySem.W.codeIn K cd25 "InvalidPage.__init__" = true) (k25 : PySem.W.keepIn K (.ref f25) = true)
    (a26 : PySem.W.findIn K (.ref C18) "__init__" = some (some (.ref f26)))
    (i26 : PySem.W.isFn K (.ref f26) = true)
    (l26 : K.lookup f26 = some ⟨oc26, od26, .func (PySem.W.fnOf "__init__" "UnknownName.__init__" (defArgs sX18) (defBody sX18) (defScope sX18) .none kV26 dc26 pm26 an26 cd26 ct26), sl26⟩)
    (c26 : PySem.W.codeIn K cd26 "UnknownName.__init__" = true) (k26 : PySem.W.keepIn K (.ref f26) = true)
    (a27 : PySem.W.findIn K (.ref CN) "__init__" = some (some (.ref f27)))
    (i27 : PySem.W.isFn K (.ref f27) = true)
    (l27 : K.lookup f27 = some ⟨oc27, od27, .func (PySem.W.fnOf "__init__" "NothingLeft.__init__" (defArgs sX19) (defBody sX19) (defScope sX19) .none kV27 dc27 pm27 an27 cd27 ct27), sl27⟩)
    (c27 : PySem.W.codeIn K cd27 "NothingLeft.__init__" = true) (k27 : PySem.W.keepIn K (.ref f27) = true)
    (a28 : PySem.W.nsIn K mainGlobals "law" = some (some (.ref f28)))
    (l28 : K.lookup f28 = some ⟨oc28, od28, .func (PySem.W.fnOf "law" "law" (defArgs sLaw) (defBody sLaw) (defScope sLaw) .none kV28 dc28 pm28 an28 cd28 ct28), sl28⟩)
    (c28 : PySem.W.codeIn K cd28 "law" = true) (k28 : PySem.W.keepIn K (.ref f28) = true)
    (z_len : PySem.W.nsIn K mainGlobals "len" = some none)
    (z_int : PySem.W.nsIn K mainGlobals "int" = some none)
    (z_isinstance : PySem.W.nsIn K mainGlobals "isinstance" = some none)
    (z_list : PySem.W.nsIn K mainGlobals "list" = some none)
    (z_tuple : PySem.W.nsIn K mainGlobals "tuple" = some none)
    (z_bool : PySem.W.nsIn K mainGlobals "bool" = some none)
    (z_str : PySem.W.nsIn K mainGlobals "str" = some none)
    (z_all : PySem.W.nsIn K mainGlobals "all" = some none)
    (z_zip : PySem.W.nsIn K mainGlobals "zip" = some none)
    (z_ValueError : PySem.W.nsIn K mainGlobals "ValueError" = some none)
    (z_LookupError : PySem.W.nsIn K mainGlobals "LookupError" = some none)
    (z_IndexError : PySem.W.nsIn K mainGlobals "IndexError" = some none) :
    ∃ fd : FuncData, (∀ (s : Shared) (v : Value), BindsTo s fd ⟨[v], []⟩ [("_law_script", v)]) ∧ ∀ base : Heap, K.In base → base.Ns mainGlobals mg → FnOk l.prog w K mg base CX0 6 fa fd ["_law_script"] (spLaw K) := by
  have e := hfa.symm.trans (PySem.W.mg_of X G a28)
  cases e
  have F1 := fun_mk (st := sBag) l1 c1 k1
  have b1 := F1.binds (ps := ["_law_script"]) fun _ _ _ _ _ _ us hl => match us, hl with | [_], _ => rfl
  have F2 := fun_mk (st := sPull) l2 c2 k2
  have b2 := F2.binds (ps := ["_law_bag_here", "_law_many"]) fun _ _ _ _ _ _ us hl => match us, hl with | [_, _], _ => rfl
  have F3 := fun_mk (st := sPick) l3 c3 k3
  have b3 := F3.binds (ps := ["_law_bag_here", "_law_rows"]) fun _ _ _ _ _ _ us hl => match us, hl with | [_, _], _ => rfl
  have F4 := fun_mk (st := sSame) l4 c4 k4
  have b4 := F4.binds (ps := ["_law_found", "_law_due"]) fun _ _ _ _ _ _ us hl => match us, hl with | [_, _], _ => rfl
  have F5 := fun_mk (st := sField) l5 c5 k5
  have b5 := F5.binds (ps := ["_law_e"]) fun _ _ _ _ _ _ us hl => match us, hl with | [_], _ => rfl
  have F6 := fun_mk (st := sNamed) l6 c6 k6
  have b6 := F6.binds (ps := ["_law_one"]) fun _ _ _ _ _ _ us hl => match us, hl with | [_], _ => rfl
  have F7 := fun_mk (st := sBare) l7 c7 k7
  have b7 := F7.binds (ps := ["_law_one"]) fun _ _ _ _ _ _ us hl => match us, hl with | [_], _ => rfl
  have F8 := fun_mk (st := sClasses) l8 c8 k8
  have b8 := F8.binds (ps := ["_law_e"]) fun _ _ _ _ _ _ us hl => match us, hl with | [_], _ => rfl
  have F9 := fun_mk (st := sX1) l9 c9 k9
  have b9 := F9.binds (ps := ["self", "given"]) fun _ _ _ _ _ _ us hl => match us, hl with | [_, _], _ => rfl
  have F10 := fun_mk (st := sX2) l10 c10 k10
  have b10 := F10.binds (ps := ["self", "given"]) fun _ _ _ _ _ _ us hl => match us, hl with | [_, _], _ => rfl
  have F11 := fun_mk (st := sX3) l11 c11 k11
  have b11 := F11.binds (ps := ["self", "at"]) fun _ _ _ _ _ _ us hl => match us, hl with | [_, _], _ => rfl
  have F12 := fun_mk (st := sX4) l12 c12 k12
  have b12 := F12.binds (ps := ["self", "given"]) fun _ _ _ _ _ _ us hl => match us, hl with | [_, _], _ => rfl
  have F13 := fun_mk (st := sX5) l13 c13 k13
  have b13 := F13.binds (ps := ["self", "at"]) fun _ _ _ _ _ _ us hl => match us, hl with | [_, _], _ => rfl
  have F14 := fun_mk (st := sX6) l14 c14 k14
  have b14 := F14.binds (ps := ["self", "at"]) fun _ _ _ _ _ _ us hl => match us, hl with | [_, _], _ => rfl
  have F15 := fun_mk (st := sX7) l15 c15 k15
  have b15 := F15.binds (ps := ["self", "at"]) fun _ _ _ _ _ _ us hl => match us, hl with | [_, _], _ => rfl
  have F16 := fun_mk (st := sX8) l16 c16 k16
  have b16 := F16.binds (ps := ["self", "name"]) fun _ _ _ _ _ _ us hl => match us, hl with | [_, _], _ => rfl
  have F17 := fun_mk (st := sX9) l17 c17 k17
  have b17 := F17.binds (ps := ["self", "given"]) fun _ _ _ _ _ _ us hl => match us, hl with | [_, _], _ => rfl
  have F18 := fun_mk (st := sX10) l18 c18 k18
  have b18 := F18.binds (ps := ["self", "most"]) fun _ _ _ _ _ _ us hl => match us, hl with | [_, _], _ => rfl
  have F19 := fun_mk (st := sX11) l19 c19 k19
  have b19 := F19.binds (ps := ["self", "limit"]) fun _ _ _ _ _ _ us hl => match us, hl with | [_, _], _ => rfl
  have F20 := fun_mk (st := sX12) l20 c20 k20
  have b20 := F20.binds (ps := ["self", "name"]) fun _ _ _ _ _ _ us hl => match us, hl with | [_, _], _ => rfl
  have F21 := fun_mk (st := sX13) l21 c21 k21
  have b21 := F21.binds (ps := ["self", "at"]) fun _ _ _ _ _ _ us hl => match us, hl with | [_, _], _ => rfl
  have F22 := fun_mk (st := sX14) l22 c22 k22
  have b22 := F22.binds (ps := ["self", "given"]) fun _ _ _ _ _ _ us hl => match us, hl with | [_, _], _ => rfl
  have F23 := fun_mk (st := sX15) l23 c23 k23
  have b23 := F23.binds (ps := ["self", "at"]) fun _ _ _ _ _ _ us hl => match us, hl with | [_, _], _ => rfl
  have F24 := fun_mk (st := sX16) l24 c24 k24
  have b24 := F24.binds (ps := ["self", "given"]) fun _ _ _ _ _ _ us hl => match us, hl with | [_, _], _ => rfl
  have F25 := fun_mk (st := sX17) l25 c25 k25
  have b25 := F25.binds (ps := ["self", "line"]) fun _ _ _ _ _ _ us hl => match us, hl with | [_, _], _ => rfl
  have F26 := fun_mk (st := sX18) l26 c26 k26
  have b26 := F26.binds (ps := ["self", "name"]) fun _ _ _ _ _ _ us hl => match us, hl with | [_, _], _ => rfl
  have F27 := fun_mk (st := sX19) l27 c27 k27
  have b27 := F27.binds (ps := ["self"]) fun _ _ _ _ _ _ us hl => match us, hl with | [_], _ => rfl
  have F28 := fun_mk (st := sLaw) l28 c28 k28
  have TB : TxB mg := ⟨PySem.W.mg_none_of X G z_len, PySem.W.mg_none_of X G z_int⟩
  have TS : TxS mg := ⟨PySem.W.mg_none_of X G z_len, PySem.W.mg_none_of X G z_isinstance, PySem.W.mg_none_of X G z_list, PySem.W.mg_none_of X G z_tuple, PySem.W.mg_none_of X G z_bool, PySem.W.mg_none_of X G z_int, PySem.W.mg_none_of X G z_str, PySem.W.mg_none_of X G z_all, PySem.W.mg_none_of X G z_zip⟩
  have TI : TxI mg := ⟨PySem.W.mg_none_of X G z_len, PySem.W.mg_none_of X G z_isinstance⟩
  have TW : TxW mg := ⟨PySem.W.mg_none_of X G z_isinstance, PySem.W.mg_none_of X G z_ValueError, PySem.W.mg_none_of X G z_LookupError, PySem.W.mg_none_of X G z_IndexError⟩
  refine ⟨PySem.W.fnOf "law" "law" (defArgs sLaw) (defBody sLaw) (defScope sLaw) .none kV28 dc28 pm28 an28 cd28 ct28, fun s v => .of_eq rfl, fun base _ _ => ?_⟩
  have A1 : At K C1 := at_of gC1 h1.nc sp mC1 (by rfl) (by rfl)
  have S1 : Ex.OexS K C1 := Ex.oexS_of F.store_ValueError.passes (by decide) x1 gC1.hd h1.sa
  have W1 : KBn K (PySem.W.fnOf "__init__" "InvalidNumber.__init__" (defArgs sX1) (defBody sX1) (defScope sX1) .none kV9 dc9 pm9 an9 cd9 ct9) ["self", "given"] 1 ["given"] (fun us ws => us ++ ws) (fun vs zs => vs ++ zs) := ⟨fun s us ws _ h1 h2 => match us, ws, h1, h2 with | [_], [_], _, _ => .of_eq rfl, fun r1 r2 => r1.append r2⟩
  have R1 : Row l.prog w K mg base C1 "given" "InvalidNumber" := ⟨⟨_, _, _, _, _, _, _, Ex.oexG_of F.excBase_ValueError x1 gC1.hd gC1.kp, a9, beq_iff_eq.mp i9, ok_x1 (k := 0) F9 S1 h1.nf h1.nc, b9, W1⟩, PySem.W.mg_of X G gC1.ns, A1, h1.nf⟩
  have A2 : At K C2 := at_of gC2 h2.nc sp mC2 (by rfl) (by rfl)
  have S2 : Ex.OexS K C2 := Ex.oexS_of F.store_ValueError.passes (by decide) x2 gC2.hd h2.sa
  have W2 : KBn K (PySem.W.fnOf "__init__" "InvalidName.__init__" (defArgs sX2) (defBody sX2) (defScope sX2) .none kV10 dc10 pm10 an10 cd10 ct10) ["self", "given"] 1 ["given"] (fun us ws => us ++ ws) (fun vs zs => vs ++ zs) := ⟨fun s us ws _ h1 h2 => match us, ws, h1, h2 with | [_], [_], _, _ => .of_eq rfl, fun r1 r2 => r1.append r2⟩
  have R2 : Row l.prog w K mg base C2 "given" "InvalidName" := ⟨⟨_, _, _, _, _, _, _, Ex.oexG_of F.excBase_ValueError x2 gC2.hd gC2.kp, a10, beq_iff_eq.mp i10, ok_x2 (k := 0) F10 S2 h2.nf h2.nc, b10, W2⟩, PySem.W.mg_of X G gC2.ns, A2, h2.nf⟩
  have A3 : At K C3 := at_of gC3 h3.nc sp mC3 (by rfl) (by rfl)
  have S3 : Ex.OexS K C3 := Ex.oexS_of F.store_ValueError.passes (by decide) x3 gC3.hd h3.sa
  have W3 : KBn K (PySem.W.fnOf "__init__" "InvalidSpan.__init__" (defArgs sX3) (defBody sX3) (defScope sX3) .none kV11 dc11 pm11 an11 cd11 ct11) ["self", "at"] 1 ["at"] (fun us ws => us ++ ws) (fun vs zs => vs ++ zs) := ⟨fun s us ws _ h1 h2 => match us, ws, h1, h2 with | [_], [_], _, _ => .of_eq rfl, fun r1 r2 => r1.append r2⟩
  have R3 : Row l.prog w K mg base C3 "at" "InvalidSpan" := ⟨⟨_, _, _, _, _, _, _, Ex.oexG_of F.excBase_ValueError x3 gC3.hd gC3.kp, a11, beq_iff_eq.mp i11, ok_x3 (k := 0) F11 S3 h3.nf h3.nc, b11, W3⟩, PySem.W.mg_of X G gC3.ns, A3, h3.nf⟩
  have A4 : At K C4 := at_of gC4 h4.nc sp mC4 (by rfl) (by rfl)
  have S4 : Ex.OexS K C4 := Ex.oexS_of F.store_ValueError.passes (by decide) x4 gC4.hd h4.sa
  have W4 : KBn K (PySem.W.fnOf "__init__" "InvalidText.__init__" (defArgs sX4) (defBody sX4) (defScope sX4) .none kV12 dc12 pm12 an12 cd12 ct12) ["self", "given"] 1 ["given"] (fun us ws => us ++ ws) (fun vs zs => vs ++ zs) := ⟨fun s us ws _ h1 h2 => match us, ws, h1, h2 with | [_], [_], _, _ => .of_eq rfl, fun r1 r2 => r1.append r2⟩
  have R4 : Row l.prog w K mg base C4 "given" "InvalidText" := ⟨⟨_, _, _, _, _, _, _, Ex.oexG_of F.excBase_ValueError x4 gC4.hd gC4.kp, a12, beq_iff_eq.mp i12, ok_x4 (k := 0) F12 S4 h4.nf h4.nc, b12, W4⟩, PySem.W.mg_of X G gC4.ns, A4, h4.nf⟩
  have A5 : At K C5 := at_of gC5 h5.nc sp mC5 (by rfl) (by rfl)
  have S5 : Ex.OexS K C5 := Ex.oexS_of F.store_ValueError.passes (by decide) x5 gC5.hd h5.sa
  have W5 : KBn K (PySem.W.fnOf "__init__" "InvalidSeat.__init__" (defArgs sX5) (defBody sX5) (defScope sX5) .none kV13 dc13 pm13 an13 cd13 ct13) ["self", "at"] 1 ["at"] (fun us ws => us ++ ws) (fun vs zs => vs ++ zs) := ⟨fun s us ws _ h1 h2 => match us, ws, h1, h2 with | [_], [_], _, _ => .of_eq rfl, fun r1 r2 => r1.append r2⟩
  have R5 : Row l.prog w K mg base C5 "at" "InvalidSeat" := ⟨⟨_, _, _, _, _, _, _, Ex.oexG_of F.excBase_ValueError x5 gC5.hd gC5.kp, a13, beq_iff_eq.mp i13, ok_x5 (k := 0) F13 S5 h5.nf h5.nc, b13, W5⟩, PySem.W.mg_of X G gC5.ns, A5, h5.nf⟩
  have A6 : At K C6 := at_of gC6 h6.nc sp mC6 (by rfl) (by rfl)
  have S6 : Ex.OexS K C6 := Ex.oexS_of F.store_ValueError.passes (by decide) x6 gC6.hd h6.sa
  have W6 : KBn K (PySem.W.fnOf "__init__" "InvalidRecord.__init__" (defArgs sX6) (defBody sX6) (defScope sX6) .none kV14 dc14 pm14 an14 cd14 ct14) ["self", "at"] 1 ["at"] (fun us ws => us ++ ws) (fun vs zs => vs ++ zs) := ⟨fun s us ws _ h1 h2 => match us, ws, h1, h2 with | [_], [_], _, _ => .of_eq rfl, fun r1 r2 => r1.append r2⟩
  have R6 : Row l.prog w K mg base C6 "at" "InvalidRecord" := ⟨⟨_, _, _, _, _, _, _, Ex.oexG_of F.excBase_ValueError x6 gC6.hd gC6.kp, a14, beq_iff_eq.mp i14, ok_x6 (k := 0) F14 S6 h6.nf h6.nc, b14, W6⟩, PySem.W.mg_of X G gC6.ns, A6, h6.nf⟩
  have A7 : At K C7 := at_of gC7 h7.nc sp mC7 (by rfl) (by rfl)
  have S7 : Ex.OexS K C7 := Ex.oexS_of F.store_ValueError.passes (by decide) x7 gC7.hd h7.sa
  have W7 : KBn K (PySem.W.fnOf "__init__" "Clash.__init__" (defArgs sX7) (defBody sX7) (defScope sX7) .none kV15 dc15 pm15 an15 cd15 ct15) ["self", "at"] 1 ["at"] (fun us ws => us ++ ws) (fun vs zs => vs ++ zs) := ⟨fun s us ws _ h1 h2 => match us, ws, h1, h2 with | [_], [_], _, _ => .of_eq rfl, fun r1 r2 => r1.append r2⟩
  have R7 : Row l.prog w K mg base C7 "at" "Clash" := ⟨⟨_, _, _, _, _, _, _, Ex.oexG_of F.excBase_ValueError x7 gC7.hd gC7.kp, a15, beq_iff_eq.mp i15, ok_x7 (k := 0) F15 S7 h7.nf h7.nc, b15, W7⟩, PySem.W.mg_of X G gC7.ns, A7, h7.nf⟩
  have A8 : At K C8 := at_of gC8 h8.nc sp mC8 (by rfl) (by rfl)
  have S8 : Ex.OexS K C8 := Ex.oexS_of F.store_ValueError.passes (by decide) x8 gC8.hd h8.sa
  have W8 : KBn K (PySem.W.fnOf "__init__" "DuplicateName.__init__" (defArgs sX8) (defBody sX8) (defScope sX8) .none kV16 dc16 pm16 an16 cd16 ct16) ["self", "name"] 1 ["name"] (fun us ws => us ++ ws) (fun vs zs => vs ++ zs) := ⟨fun s us ws _ h1 h2 => match us, ws, h1, h2 with | [_], [_], _, _ => .of_eq rfl, fun r1 r2 => r1.append r2⟩
  have R8 : Row l.prog w K mg base C8 "name" "DuplicateName" := ⟨⟨_, _, _, _, _, _, _, Ex.oexG_of F.excBase_ValueError x8 gC8.hd gC8.kp, a16, beq_iff_eq.mp i16, ok_x8 (k := 0) F16 S8 h8.nf h8.nc, b16, W8⟩, PySem.W.mg_of X G gC8.ns, A8, h8.nf⟩
  have A9 : At K C9 := at_of gC9 h9.nc sp mC9 (by rfl) (by rfl)
  have S9 : Ex.OexS K C9 := Ex.oexS_of F.store_ValueError.passes (by decide) x9 gC9.hd h9.sa
  have W9 : KBn K (PySem.W.fnOf "__init__" "DuplicateNumber.__init__" (defArgs sX9) (defBody sX9) (defScope sX9) .none kV17 dc17 pm17 an17 cd17 ct17) ["self", "given"] 1 ["given"] (fun us ws => us ++ ws) (fun vs zs => vs ++ zs) := ⟨fun s us ws _ h1 h2 => match us, ws, h1, h2 with | [_], [_], _, _ => .of_eq rfl, fun r1 r2 => r1.append r2⟩
  have R9 : Row l.prog w K mg base C9 "given" "DuplicateNumber" := ⟨⟨_, _, _, _, _, _, _, Ex.oexG_of F.excBase_ValueError x9 gC9.hd gC9.kp, a17, beq_iff_eq.mp i17, ok_x9 (k := 0) F17 S9 h9.nf h9.nc, b17, W9⟩, PySem.W.mg_of X G gC9.ns, A9, h9.nf⟩
  have A10 : At K C10 := at_of gC10 h10.nc sp mC10 (by rfl) (by rfl)
  have S10 : Ex.OexS K C10 := Ex.oexS_of F.store_ValueError.passes (by decide) x10 gC10.hd h10.sa
  have W10 : KBn K (PySem.W.fnOf "__init__" "TooMany.__init__" (defArgs sX10) (defBody sX10) (defScope sX10) .none kV18 dc18 pm18 an18 cd18 ct18) ["self", "most"] 1 ["most"] (fun us ws => us ++ ws) (fun vs zs => vs ++ zs) := ⟨fun s us ws _ h1 h2 => match us, ws, h1, h2 with | [_], [_], _, _ => .of_eq rfl, fun r1 r2 => r1.append r2⟩
  have R10 : Row l.prog w K mg base C10 "most" "TooMany" := ⟨⟨_, _, _, _, _, _, _, Ex.oexG_of F.excBase_ValueError x10 gC10.hd gC10.kp, a18, beq_iff_eq.mp i18, ok_x10 (k := 0) F18 S10 h10.nf h10.nc, b18, W10⟩, PySem.W.mg_of X G gC10.ns, A10, h10.nf⟩
  have A11 : At K C11 := at_of gC11 h11.nc sp mC11 (by rfl) (by rfl)
  have S11 : Ex.OexS K C11 := Ex.oexS_of F.store_ValueError.passes (by decide) x11 gC11.hd h11.sa
  have W11 : KBn K (PySem.W.fnOf "__init__" "Full.__init__" (defArgs sX11) (defBody sX11) (defScope sX11) .none kV19 dc19 pm19 an19 cd19 ct19) ["self", "limit"] 1 ["limit"] (fun us ws => us ++ ws) (fun vs zs => vs ++ zs) := ⟨fun s us ws _ h1 h2 => match us, ws, h1, h2 with | [_], [_], _, _ => .of_eq rfl, fun r1 r2 => r1.append r2⟩
  have R11 : Row l.prog w K mg base C11 "limit" "Full" := ⟨⟨_, _, _, _, _, _, _, Ex.oexG_of F.excBase_ValueError x11 gC11.hd gC11.kp, a19, beq_iff_eq.mp i19, ok_x11 (k := 0) F19 S11 h11.nf h11.nc, b19, W11⟩, PySem.W.mg_of X G gC11.ns, A11, h11.nf⟩
  have A12 : At K C12 := at_of gC12 h12.nc sp mC12 (by rfl) (by rfl)
  have S12 : Ex.OexS K C12 := Ex.oexS_of F.store_ValueError.passes (by decide) x12 gC12.hd h12.sa
  have W12 : KBn K (PySem.W.fnOf "__init__" "NotAThing.__init__" (defArgs sX12) (defBody sX12) (defScope sX12) .none kV20 dc20 pm20 an20 cd20 ct20) ["self", "name"] 1 ["name"] (fun us ws => us ++ ws) (fun vs zs => vs ++ zs) := ⟨fun s us ws _ h1 h2 => match us, ws, h1, h2 with | [_], [_], _, _ => .of_eq rfl, fun r1 r2 => r1.append r2⟩
  have R12 : Row l.prog w K mg base C12 "name" "NotAThing" := ⟨⟨_, _, _, _, _, _, _, Ex.oexG_of F.excBase_ValueError x12 gC12.hd gC12.kp, a20, beq_iff_eq.mp i20, ok_x12 (k := 0) F20 S12 h12.nf h12.nc, b20, W12⟩, PySem.W.mg_of X G gC12.ns, A12, h12.nf⟩
  have A13 : At K C13 := at_of gC13 h13.nc sp mC13 (by rfl) (by rfl)
  have S13 : Ex.OexS K C13 := Ex.oexS_of F.store_ValueError.passes (by decide) x13 gC13.hd h13.sa
  have W13 : KBn K (PySem.W.fnOf "__init__" "Contradiction.__init__" (defArgs sX13) (defBody sX13) (defScope sX13) .none kV21 dc21 pm21 an21 cd21 ct21) ["self", "at"] 1 ["at"] (fun us ws => us ++ ws) (fun vs zs => vs ++ zs) := ⟨fun s us ws _ h1 h2 => match us, ws, h1, h2 with | [_], [_], _, _ => .of_eq rfl, fun r1 r2 => r1.append r2⟩
  have R13 : Row l.prog w K mg base C13 "at" "Contradiction" := ⟨⟨_, _, _, _, _, _, _, Ex.oexG_of F.excBase_ValueError x13 gC13.hd gC13.kp, a21, beq_iff_eq.mp i21, ok_x13 (k := 0) F21 S13 h13.nf h13.nc, b21, W13⟩, PySem.W.mg_of X G gC13.ns, A13, h13.nf⟩
  have A14 : At K C14 := at_of gC14 h14.nc sp mC14 (by rfl) (by rfl)
  have S14 : Ex.OexS K C14 := Ex.oexS_of F.store_ValueError.passes (by decide) x14 gC14.hd h14.sa
  have W14 : KBn K (PySem.W.fnOf "__init__" "InvalidRule.__init__" (defArgs sX14) (defBody sX14) (defScope sX14) .none kV22 dc22 pm22 an22 cd22 ct22) ["self", "given"] 1 ["given"] (fun us ws => us ++ ws) (fun vs zs => vs ++ zs) := ⟨fun s us ws _ h1 h2 => match us, ws, h1, h2 with | [_], [_], _, _ => .of_eq rfl, fun r1 r2 => r1.append r2⟩
  have R14 : Row l.prog w K mg base C14 "given" "InvalidRule" := ⟨⟨_, _, _, _, _, _, _, Ex.oexG_of F.excBase_ValueError x14 gC14.hd gC14.kp, a22, beq_iff_eq.mp i22, ok_x14 (k := 0) F22 S14 h14.nf h14.nc, b22, W14⟩, PySem.W.mg_of X G gC14.ns, A14, h14.nf⟩
  have A15 : At K C15 := at_of gC15 h15.nc sp mC15 (by rfl) (by rfl)
  have S15 : Ex.OexS K C15 := Ex.oexS_of F.store_ValueError.passes (by decide) x15 gC15.hd h15.sa
  have W15 : KBn K (PySem.W.fnOf "__init__" "InvalidCommand.__init__" (defArgs sX15) (defBody sX15) (defScope sX15) .none kV23 dc23 pm23 an23 cd23 ct23) ["self", "at"] 1 ["at"] (fun us ws => us ++ ws) (fun vs zs => vs ++ zs) := ⟨fun s us ws _ h1 h2 => match us, ws, h1, h2 with | [_], [_], _, _ => .of_eq rfl, fun r1 r2 => r1.append r2⟩
  have R15 : Row l.prog w K mg base C15 "at" "InvalidCommand" := ⟨⟨_, _, _, _, _, _, _, Ex.oexG_of F.excBase_ValueError x15 gC15.hd gC15.kp, a23, beq_iff_eq.mp i23, ok_x15 (k := 0) F23 S15 h15.nf h15.nc, b23, W15⟩, PySem.W.mg_of X G gC15.ns, A15, h15.nf⟩
  have A16 : At K C16 := at_of gC16 h16.nc sp mC16 (by rfl) (by rfl)
  have S16 : Ex.OexS K C16 := Ex.oexS_of F.store_ValueError.passes (by decide) x16 gC16.hd h16.sa
  have W16 : KBn K (PySem.W.fnOf "__init__" "InvalidLimit.__init__" (defArgs sX16) (defBody sX16) (defScope sX16) .none kV24 dc24 pm24 an24 cd24 ct24) ["self", "given"] 1 ["given"] (fun us ws => us ++ ws) (fun vs zs => vs ++ zs) := ⟨fun s us ws _ h1 h2 => match us, ws, h1, h2 with | [_], [_], _, _ => .of_eq rfl, fun r1 r2 => r1.append r2⟩
  have R16 : Row l.prog w K mg base C16 "given" "InvalidLimit" := ⟨⟨_, _, _, _, _, _, _, Ex.oexG_of F.excBase_ValueError x16 gC16.hd gC16.kp, a24, beq_iff_eq.mp i24, ok_x16 (k := 0) F24 S16 h16.nf h16.nc, b24, W16⟩, PySem.W.mg_of X G gC16.ns, A16, h16.nf⟩
  have A17 : At K C17 := at_of gC17 h17.nc sp mC17 (by rfl) (by rfl)
  have S17 : Ex.OexS K C17 := Ex.oexS_of F.store_ValueError.passes (by decide) x17 gC17.hd h17.sa
  have W17 : KBn K (PySem.W.fnOf "__init__" "InvalidPage.__init__" (defArgs sX17) (defBody sX17) (defScope sX17) .none kV25 dc25 pm25 an25 cd25 ct25) ["self", "line"] 1 ["line"] (fun us ws => us ++ ws) (fun vs zs => vs ++ zs) := ⟨fun s us ws _ h1 h2 => match us, ws, h1, h2 with | [_], [_], _, _ => .of_eq rfl, fun r1 r2 => r1.append r2⟩
  have R17 : Row l.prog w K mg base C17 "line" "InvalidPage" := ⟨⟨_, _, _, _, _, _, _, Ex.oexG_of F.excBase_ValueError x17 gC17.hd gC17.kp, a25, beq_iff_eq.mp i25, ok_x17 (k := 0) F25 S17 h17.nf h17.nc, b25, W17⟩, PySem.W.mg_of X G gC17.ns, A17, h17.nf⟩
  have A18 : At K C18 := at_of gC18 h18.nc sp mC18 (by rfl) (by rfl)
  have S18 : Ex.OexS K C18 := Ex.oexS_of F.store_LookupError.passes (by decide) x18 gC18.hd h18.sa
  have W18 : KBn K (PySem.W.fnOf "__init__" "UnknownName.__init__" (defArgs sX18) (defBody sX18) (defScope sX18) .none kV26 dc26 pm26 an26 cd26 ct26) ["self", "name"] 1 ["name"] (fun us ws => us ++ ws) (fun vs zs => vs ++ zs) := ⟨fun s us ws _ h1 h2 => match us, ws, h1, h2 with | [_], [_], _, _ => .of_eq rfl, fun r1 r2 => r1.append r2⟩
  have R18 : Row l.prog w K mg base C18 "name" "UnknownName" := ⟨⟨_, _, _, _, _, _, _, Ex.oexG_of F.excBase_LookupError x18 gC18.hd gC18.kp, a26, beq_iff_eq.mp i26, ok_x18 (k := 0) F26 S18 h18.nf h18.nc, b26, W18⟩, PySem.W.mg_of X G gC18.ns, A18, h18.nf⟩
  have tys : ∀ c ∈ CL :: CM0 :: CN :: [C1, C2, C3, C4, C5, C6, C7, C8, C9, C10, C11, C12, C13, C14, C15, C16, C17, C18], Tys K c := fun c hc => by
    simp only [List.mem_cons, List.not_mem_nil, or_false] at hc
    rcases hc with rfl | rfl | rfl | rfl | rfl | rfl | rfl | rfl | rfl | rfl | rfl | rfl | rfl | rfl | rfl | rfl | rfl | rfl | rfl | rfl | rfl
    · exact ⟨mCL.some, gCL.ty⟩
    · exact ⟨mCM0.some, gCM0.ty⟩
    · exact ⟨mCN.some, gCN.ty⟩
    · exact ⟨mC1.some, gC1.ty⟩
    · exact ⟨mC2.some, gC2.ty⟩
    · exact ⟨mC3.some, gC3.ty⟩
    · exact ⟨mC4.some, gC4.ty⟩
    · exact ⟨mC5.some, gC5.ty⟩
    · exact ⟨mC6.some, gC6.ty⟩
    · exact ⟨mC7.some, gC7.ty⟩
    · exact ⟨mC8.some, gC8.ty⟩
    · exact ⟨mC9.some, gC9.ty⟩
    · exact ⟨mC10.some, gC10.ty⟩
    · exact ⟨mC11.some, gC11.ty⟩
    · exact ⟨mC12.some, gC12.ty⟩
    · exact ⟨mC13.some, gC13.ty⟩
    · exact ⟨mC14.some, gC14.ty⟩
    · exact ⟨mC15.some, gC15.ty⟩
    · exact ⟨mC16.some, gC16.ty⟩
    · exact ⟨mC17.some, gC17.ty⟩
    · exact ⟨mC18.some, gC18.ty⟩
  have KT : ∀ r ∈ tbl C1 C2 C3 C4 C5 C6 C7 C8 C9 C10 C11 C12 C13 C14 C15 C16 C17 C18, Kt K CL CM0 CN [C1, C2, C3, C4, C5, C6, C7, C8, C9, C10, C11, C12, C13, C14, C15, C16, C17, C18] r ∧ r.2 ∈ pairs := fun r hr => by
    unfold tbl at hr
    simp only [List.mem_cons, List.not_mem_nil, or_false] at hr
    rcases hr with rfl | rfl | rfl | rfl | rfl | rfl | rfl | rfl | rfl | rfl | rfl | rfl | rfl | rfl | rfl | rfl | rfl | rfl
    · exact ⟨kt_ve mC1 A1 h1.nf (by show decide (("InvalidNumber" : Str) = "UnknownName") = false; decide +kernel) (by simp) nd tys, by show (("given" : Str), ("InvalidNumber" : Str)) ∈ pairs; decide +kernel⟩
    · exact ⟨kt_ve mC2 A2 h2.nf (by show decide (("InvalidName" : Str) = "UnknownName") = false; decide +kernel) (by simp) nd tys, by show (("given" : Str), ("InvalidName" : Str)) ∈ pairs; decide +kernel⟩
    · exact ⟨kt_ve mC3 A3 h3.nf (by show decide (("InvalidSpan" : Str) = "UnknownName") = false; decide +kernel) (by simp) nd tys, by show (("at" : Str), ("InvalidSpan" : Str)) ∈ pairs; decide +kernel⟩
    · exact ⟨kt_ve mC4 A4 h4.nf (by show decide (("InvalidText" : Str) = "UnknownName") = false; decide +kernel) (by simp) nd tys, by show (("given" : Str), ("InvalidText" : Str)) ∈ pairs; decide +kernel⟩
    · exact ⟨kt_ve mC5 A5 h5.nf (by show decide (("InvalidSeat" : Str) = "UnknownName") = false; decide +kernel) (by simp) nd tys, by show (("at" : Str), ("InvalidSeat" : Str)) ∈ pairs; decide +kernel⟩
    · exact ⟨kt_ve mC6 A6 h6.nf (by show decide (("InvalidRecord" : Str) = "UnknownName") = false; decide +kernel) (by simp) nd tys, by show (("at" : Str), ("InvalidRecord" : Str)) ∈ pairs; decide +kernel⟩
    · exact ⟨kt_ve mC7 A7 h7.nf (by show decide (("Clash" : Str) = "UnknownName") = false; decide +kernel) (by simp) nd tys, by show (("at" : Str), ("Clash" : Str)) ∈ pairs; decide +kernel⟩
    · exact ⟨kt_ve mC8 A8 h8.nf (by show decide (("DuplicateName" : Str) = "UnknownName") = false; decide +kernel) (by simp) nd tys, by show (("name" : Str), ("DuplicateName" : Str)) ∈ pairs; decide +kernel⟩
    · exact ⟨kt_ve mC9 A9 h9.nf (by show decide (("DuplicateNumber" : Str) = "UnknownName") = false; decide +kernel) (by simp) nd tys, by show (("given" : Str), ("DuplicateNumber" : Str)) ∈ pairs; decide +kernel⟩
    · exact ⟨kt_ve mC10 A10 h10.nf (by show decide (("TooMany" : Str) = "UnknownName") = false; decide +kernel) (by simp) nd tys, by show (("most" : Str), ("TooMany" : Str)) ∈ pairs; decide +kernel⟩
    · exact ⟨kt_ve mC11 A11 h11.nf (by show decide (("Full" : Str) = "UnknownName") = false; decide +kernel) (by simp) nd tys, by show (("limit" : Str), ("Full" : Str)) ∈ pairs; decide +kernel⟩
    · exact ⟨kt_ve mC12 A12 h12.nf (by show decide (("NotAThing" : Str) = "UnknownName") = false; decide +kernel) (by simp) nd tys, by show (("name" : Str), ("NotAThing" : Str)) ∈ pairs; decide +kernel⟩
    · exact ⟨kt_ve mC13 A13 h13.nf (by show decide (("Contradiction" : Str) = "UnknownName") = false; decide +kernel) (by simp) nd tys, by show (("at" : Str), ("Contradiction" : Str)) ∈ pairs; decide +kernel⟩
    · exact ⟨kt_ve mC14 A14 h14.nf (by show decide (("InvalidRule" : Str) = "UnknownName") = false; decide +kernel) (by simp) nd tys, by show (("given" : Str), ("InvalidRule" : Str)) ∈ pairs; decide +kernel⟩
    · exact ⟨kt_ve mC15 A15 h15.nf (by show decide (("InvalidCommand" : Str) = "UnknownName") = false; decide +kernel) (by simp) nd tys, by show (("at" : Str), ("InvalidCommand" : Str)) ∈ pairs; decide +kernel⟩
    · exact ⟨kt_ve mC16 A16 h16.nf (by show decide (("InvalidLimit" : Str) = "UnknownName") = false; decide +kernel) (by simp) nd tys, by show (("given" : Str), ("InvalidLimit" : Str)) ∈ pairs; decide +kernel⟩
    · exact ⟨kt_ve mC17 A17 h17.nf (by show decide (("InvalidPage" : Str) = "UnknownName") = false; decide +kernel) (by simp) nd tys, by show (("line" : Str), ("InvalidPage" : Str)) ∈ pairs; decide +kernel⟩
    · exact ⟨kt_le mC18 A18 h18.nf (by show decide (("UnknownName" : Str) = "UnknownName") = true; decide +kernel) (by simp) nd tys, by show (("name" : Str), ("UnknownName" : Str)) ∈ pairs; decide +kernel⟩
  have HM : ∀ r ∈ tbl C1 C2 C3 C4 C5 C6 C7 C8 C9 C10 C11 C12 C13 C14 C15 C16 C17 C18, r.1 ∈ [C1, C2, C3, C4, C5, C6, C7, C8, C9, C10, C11, C12, C13, C14, C15, C16, C17, C18] := fun r hr => by
    unfold tbl at hr
    simp only [List.mem_cons, List.not_mem_nil, or_false] at hr
    rcases hr with rfl | rfl | rfl | rfl | rfl | rfl | rfl | rfl | rfl | rfl | rfl | rfl | rfl | rfl | rfl | rfl | rfl | rfl <;> simp
  have ndS : [C1, C2, C3, C4, C5, C6, C7, C8, C9, C10, C11, C12, C13, C14, C15, C16, C17, C18].Nodup := (List.nodup_cons.mp (List.nodup_cons.mp (List.nodup_cons.mp nd).2).2).2
  obtain ⟨nd1, nd2⟩ := List.nodup_cons.mp nd
  obtain ⟨nd3, nd4⟩ := List.nodup_cons.mp nd2
  obtain ⟨nd5, nd6⟩ := List.nodup_cons.mp nd4
  have aN : At K CN := at_of gCN hN.nc sp mCN (by rfl) (by rfl)
  have aL : ExcC K CL := ⟨gCL.ga, gCL.gg, (mCL.sub _).trans (by rfl), gCL.hd, gCL.kc, sp.gt, sp.tk, (mCL.sub (.type "object")).trans (by rfl)⟩
  have aM : ExcC K CM0 := ⟨gCM0.ga, gCM0.gg, (mCM0.sub _).trans (by rfl), gCM0.hd, gCM0.kc, sp.gt, sp.tk, (mCM0.sub (.type "object")).trans (by rfl)⟩
  have kNr : ∀ c, Tys K c → c ≠ CN → PySem.W.kitOne K (.ref CN) (.ref c) = some false := fun c t ne => by
    rw [kitR mCN t.1 t.2, off_ref tyIE, decide_eq_false fun e => ne e.symm]; rfl
  have mg' : ∀ {x : Str} {C : Addr}, CG K C x → mg x = some (.ref C) := fun g => PySem.W.mg_of X G g.ns
  exact ok_law F28 TW F1 b1 (PySem.W.mg_of X G a1) (ok_bag F1 TB) F2 b2 (PySem.W.mg_of X G a2) (ok_pull (P := l.prog) (w := w) (K := K) (base := base) (k := 0) F2 TB) F3 b3 (PySem.W.mg_of X G a3) (ok_pickL (P := l.prog) (w := w) (base := base) (k := 0) F3 TB F2 b2 (PySem.W.mg_of X G a2)) F4 b4 (PySem.W.mg_of X G a4) (ok_same F4 TS b4 (PySem.W.mg_of X G a4) 4) F5 b5 (PySem.W.mg_of X G a5) (ok_field F5)
    F6 b6 (PySem.W.mg_of X G a6) (ok_named (k := 0) F6 R1 R2 R3 R4 R5 R6 R7 R8 R9 R10 R11 R12 R13 R14 R15 R16 R17 R18) F7 b7 (PySem.W.mg_of X G a7) (ok_bare (k := 0) F7 R1 R2 R3 R4 R5 R6 R7 R8 R9 R10 R11 R12 R13 R14 R15 R16 R17 R18) F8 b8 (PySem.W.mg_of X G a8) (ok_classes F8 TI (mg' gC1) (mg' gC2) (mg' gC3) (mg' gC4) (mg' gC5) (mg' gC6) (mg' gC7) (mg' gC8) (mg' gC9) (mg' gC10) (mg' gC11) (mg' gC12) (mg' gC13) (mg' gC14) (mg' gC15) (mg' gC16) (mg' gC17) (mg' gC18)) (mg' gCL) (mg' gCM0) (mg' gCN) KT rfl rfl HM ndS
    (Ex.oexG_of F.excBase_IndexError xN gCN.hd gCN.kp) a27 (beq_iff_eq.mp i27) ((ok_x19 (k := 0) F27 (Ex.oexS_of F.store_IndexError.passes (by decide) xN gCN.hd hN.sa) hN.nc).raw b27 .nil) aN
    ((kitT mCN (by decide +kernel)).trans (by rfl)) (kNr CL (tys _ (by simp)) (fun e => nd1 (by rw [e]; simp))) (kNr CM0 (tys _ (by simp)) (fun e => nd3 (by rw [e]; simp))) (fun c hc => kNr c (tys c (List.mem_cons_of_mem _ (List.mem_cons_of_mem _ (List.mem_cons_of_mem _ hc)))) (fun e => nd5 (by rw [← e]; exact hc)))
    xL F.excBase_ValueError gCL.kp aL mCL.some ((kitT mCL (by decide +kernel)).trans (by rfl)) xM F.excBase_LookupError gCM0.kp aM mCM0.some ((kitT mCM0 (by decide +kernel)).trans (by rfl))


end Lp
open PySem PySem.W PyProof.Rows
set_option maxRecDepth 100000 in
set_option maxHeartbeats 0 in
theorem PySem.Challenge.cw_lumplooks_k01_errors_by_themselves_holds : PySem.Challenge.rw_lumplooks_k01_errors_by_themselves.Holds := by
  w_on; o_law; k_head; (case hw => w_witness2)
  k_fill
  refine L2.walk_of (l := PySem.Challenge.rw_lumplooks_k01_errors_by_themselves) (n := 63) (k := 6) (x := "_law_script") (CX := fun _ => L2.CX0) (sp := fun w => Lp.spLaw _) rfl (by decide) rfl ⟨rfl, by decide, by decide⟩ (fun w h Y => PySem.W.kIn_of Y) ?F (fun _ _ a ns hl _ hS => ⟨a, ns, rfl, hS, hl, fun _ => rfl⟩) (fun _ _ _ _ _ h => h)
  case F =>
    intro w mg fa h KX G hmg
    refine' Lp.all_mk KX G hmg ?gC1 ?gC2 ?gC3 ?gC4 ?gC5 ?gC6 ?gC7 ?gC8 ?gC9 ?gC10 ?gC11 ?gC12 ?gC13 ?gC14 ?gC15 ?gC16 ?gC17 ?gC18 ?gCL ?gCM0 ?gCN ?mC1 ?mC2 ?mC3 ?mC4 ?mC5 ?mC6 ?mC7 ?mC8 ?mC9 ?mC10 ?mC11 ?mC12 ?mC13 ?mC14 ?mC15 ?mC16 ?mC17 ?mC18 ?mCL ?mCM0 ?mCN ?h1 ?x1 ?h2 ?x2 ?h3 ?x3 ?h4 ?x4 ?h5 ?x5 ?h6 ?x6 ?h7 ?x7 ?h8 ?x8 ?h9 ?x9 ?h10 ?x10 ?h11 ?x11 ?h12 ?x12 ?h13 ?x13 ?h14 ?x14 ?h15 ?x15 ?h16 ?x16 ?h17 ?x17 ?h18 ?x18 ?hN ?xN ?xL ?xM ?sp ?nd ?a1 ?l1 ?c1 ?k1 ?a2 ?l2 ?c2 ?k2 ?a3 ?l3 ?c3 ?k3 ?a4 ?l4 ?c4 ?k4 ?a5 ?l5 ?c5 ?k5 ?a6 ?l6 ?c6 ?k6 ?a7 ?l7 ?c7 ?k7 ?a8 ?l8 ?c8 ?k8 ?a9 ?i9 ?l9 ?c9 ?k9 ?a10 ?i10 ?l10 ?c10 ?k10 ?a11 ?i11 ?l11 ?c11 ?k11 ?a12 ?i12 ?l12 ?c12 ?k12 ?a13 ?i13 ?l13 ?c13 ?k13 ?a14 ?i14 ?l14 ?c14 ?k14 ?a15 ?i15 ?l15 ?c15 ?k15 ?a16 ?i16 ?l16 ?c16 ?k16 ?a17 ?i17 ?l17 ?c17 ?k17 ?a18 ?i18 ?l18 ?c18 ?k18 ?a19 ?i19 ?l19 ?c19 ?k19 ?a20 ?i20 ?l20 ?c20 ?k20 ?a21 ?i21 ?l21 ?c21 ?k21 ?a22 ?i22 ?l22 ?c22 ?k22 ?a23 ?i23 ?l23 ?c23 ?k23 ?a24 ?i24 ?l24 ?c24 ?k24 ?a25 ?i25 ?l25 ?c25 ?k25 ?a26 ?i26 ?l26 ?c26 ?k26 ?a27 ?i27 ?l27 ?c27 ?k27 ?a28 ?l28 ?c28 ?k28 ?z_len ?z_int ?z_isinstance ?z_list ?z_tuple ?z_bool ?z_str ?z_all ?z_zip ?z_ValueError ?z_LookupError ?z_IndexError
    (case gC1 => constructor <;> k_is)
    (case gC2 => constructor <;> k_is)
    (case gC3 => constructor <;> k_is)
    (case gC4 => constructor <;> k_is)
    (case gC5 => constructor <;> k_is)
    (case gC6 => constructor <;> k_is)
    (case gC7 => constructor <;> k_is)
    (case gC8 => constructor <;> k_is)
    (case gC9 => constructor <;> k_is)
    (case gC10 => constructor <;> k_is)
    (case gC11 => constructor <;> k_is)
    (case gC12 => constructor <;> k_is)
    (case gC13 => constructor <;> k_is)
    (case gC14 => constructor <;> k_is)
    (case gC15 => constructor <;> k_is)
    (case gC16 => constructor <;> k_is)
    (case gC17 => constructor <;> k_is)
    (case gC18 => constructor <;> k_is)
    (case gCL => constructor <;> k_is)
    (case gCM0 => constructor <;> k_is)
    (case gCN => constructor <;> k_is)
    (case mC1 => apply Exists.intro; apply And.intro; (k_is); (rfl))
    (case mC2 => apply Exists.intro; apply And.intro; (k_is); (rfl))
    (case mC3 => apply Exists.intro; apply And.intro; (k_is); (rfl))
    (case mC4 => apply Exists.intro; apply And.intro; (k_is); (rfl))
    (case mC5 => apply Exists.intro; apply And.intro; (k_is); (rfl))
    (case mC6 => apply Exists.intro; apply And.intro; (k_is); (rfl))
    (case mC7 => apply Exists.intro; apply And.intro; (k_is); (rfl))
    (case mC8 => apply Exists.intro; apply And.intro; (k_is); (rfl))
    (case mC9 => apply Exists.intro; apply And.intro; (k_is); (rfl))
    (case mC10 => apply Exists.intro; apply And.intro; (k_is); (rfl))
    (case mC11 => apply Exists.intro; apply And.intro; (k_is); (rfl))
    (case mC12 => apply Exists.intro; apply And.intro; (k_is); (rfl))
    (case mC13 => apply Exists.intro; apply And.intro; (k_is); (rfl))
    (case mC14 => apply Exists.intro; apply And.intro; (k_is); (rfl))
    (case mC15 => apply Exists.intro; apply And.intro; (k_is); (rfl))
    (case mC16 => apply Exists.intro; apply And.intro; (k_is); (rfl))
    (case mC17 => apply Exists.intro; apply And.intro; (k_is); (rfl))
    (case mC18 => apply Exists.intro; apply And.intro; (k_is); (rfl))
    (case mCL => apply Exists.intro; apply And.intro; (k_is); (rfl))
    (case mCM0 => apply Exists.intro; apply And.intro; (k_is); (rfl))
    (case mCN => apply Exists.intro; apply And.intro; (k_is); (rfl))
    (case h1 => constructor <;> k_is)
    (case x1 => kx_is)
    (case h2 => constructor <;> k_is)
    (case x2 => kx_is)
    (case h3 => constructor <;> k_is)
    (case x3 => kx_is)
    (case h4 => constructor <;> k_is)
    (case x4 => kx_is)
    (case h5 => constructor <;> k_is)
    (case x5 => kx_is)
    (case h6 => constructor <;> k_is)
    (case x6 => kx_is)
    (case h7 => constructor <;> k_is)
    (case x7 => kx_is)
    (case h8 => constructor <;> k_is)
    (case x8 => kx_is)
    (case h9 => constructor <;> k_is)
    (case x9 => kx_is)
    (case h10 => constructor <;> k_is)
    (case x10 => kx_is)
    (case h11 => constructor <;> k_is)
    (case x11 => kx_is)
    (case h12 => constructor <;> k_is)
    (case x12 => kx_is)
    (case h13 => constructor <;> k_is)
    (case x13 => kx_is)
    (case h14 => constructor <;> k_is)
    (case x14 => kx_is)
    (case h15 => constructor <;> k_is)
    (case x15 => kx_is)
    (case h16 => constructor <;> k_is)
    (case x16 => kx_is)
    (case h17 => constructor <;> k_is)
    (case x17 => kx_is)
    (case h18 => constructor <;> k_is)
    (case x18 => kx_is)
    (case hN => constructor <;> k_is)
    (case xN => kx_is)
    (case xL => k_exc)
    (case xM => k_exc)
    (case sp => constructor <;> k_is)
    (case nd => decide)
    (case a1 => k_is)
    (case l1 => k_is)
    (case c1 => k_is)
    (case k1 => k_is)
    (case a2 => k_is)
    (case l2 => k_is)
    (case c2 => k_is)
    (case k2 => k_is)
    (case a3 => k_is)
    (case l3 => k_is)
    (case c3 => k_is)
    (case k3 => k_is)
    (case a4 => k_is)
    (case l4 => k_is)
    (case c4 => k_is)
    (case k4 => k_is)
    (case a5 => k_is)
    (case l5 => k_is)
    (case c5 => k_is)
    (case k5 => k_is)
    (case a6 => k_is)
    (case l6 => k_is)
    (case c6 => k_is)
    (case k6 => k_is)
    (case a7 => k_is)
    (case l7 => k_is)
    (case c7 => k_is)
    (case k7 => k_is)
    (case a8 => k_is)
    (case l8 => k_is)
    (case c8 => k_is)
    (case k8 => k_is)
    (case a9 => k_is)
    (case i9 => k_is)
    (case l9 => k_is)
    (case c9 => k_is)
    (case k9 => k_is)
    (case a10 => k_is)
    (case i10 => k_is)
    (case l10 => k_is)
    (case c10 => k_is)
    (case k10 => k_is)
    (case a11 => k_is)
    (case i11 => k_is)
    (case l11 => k_is)
    (case c11 => k_is)
    (case k11 => k_is)
    (case a12 => k_is)
    (case i12 => k_is)
    (case l12 => k_is)
    (case c12 => k_is)
    (case k12 => k_is)
    (case a13 => k_is)
    (case i13 => k_is)
    (case l13 => k_is)
    (case c13 => k_is)
    (case k13 => k_is)
    (case a14 => k_is)
    (case i14 => k_is)
    (case l14 => k_is)
    (case c14 => k_is)
    (case k14 => k_is)
    (case a15 => k_is)
    (case i15 => k_is)
    (case l15 => k_is)
    (case c15 => k_is)
    (case k15 => k_is)
    (case a16 => k_is)
    (case i16 => k_is)
    (case l16 => k_is)
    (case c16 => k_is)
    (case k16 => k_is)
    (case a17 => k_is)
    (case i17 => k_is)
    (case l17 => k_is)
    (case c17 => k_is)
    (case k17 => k_is)
    (case a18 => k_is)
    (case i18 => k_is)
    (case l18 => k_is)
    (case c18 => k_is)
    (case k18 => k_is)
    (case a19 => k_is)
    (case i19 => k_is)
    (case l19 => k_is)
    (case c19 => k_is)
    (case k19 => k_is)
    (case a20 => k_is)
    (case i20 => k_is)
    (case l20 => k_is)
    (case c20 => k_is)
    (case k20 => k_is)
    (case a21 => k_is)
    (case i21 => k_is)
    (case l21 => k_is)
    (case c21 => k_is)
    (case k21 => k_is)
    (case a22 => k_is)
    (case i22 => k_is)
    (case l22 => k_is)
    (case c22 => k_is)
    (case k22 => k_is)
    (case a23 => k_is)
    (case i23 => k_is)
    (case l23 => k_is)
    (case c23 => k_is)
    (case k23 => k_is)
    (case a24 => k_is)
    (case i24 => k_is)
    (case l24 => k_is)
    (case c24 => k_is)
    (case k24 => k_is)
    (case a25 => k_is)
    (case i25 => k_is)
    (case l25 => k_is)
    (case c25 => k_is)
    (case k25 => k_is)
    (case a26 => k_is)
    (case i26 => k_is)
    (case l26 => k_is)
    (case c26 => k_is)
    (case k26 => k_is)
    (case a27 => k_is)
    (case i27 => k_is)
    (case l27 => k_is)
    (case c27 => k_is)
    (case k27 => k_is)
    (case a28 => k_is)
    (case l28 => k_is)
    (case c28 => k_is)
    (case k28 => k_is)
    (case z_len => k_is)
    (case z_int => k_is)
    (case z_isinstance => k_is)
    (case z_list => k_is)
    (case z_tuple => k_is)
    (case z_bool => k_is)
    (case z_str => k_is)
    (case z_all => k_is)
    (case z_zip => k_is)
    (case z_ValueError => k_is)
    (case z_LookupError => k_is)
    (case z_IndexError => k_is)

#print axioms PySem.Challenge.cw_lumplooks_k01_errors_by_themselves_holds
