import PyProof.Rows.All
import Wide.All
import OpenK.AllK
import Wide.FinOn
import HandS.ForMost
import HandS.Wide
import HandS.IsInst
import HandS.Codes
import HandS.Zip
import HandS.StrMore
import HandS.Defaults
import HandS.Style
import HandS.Walk

import PySem.Challenge.RW_lumplooks_k02_numbers_and_names
set_option Elab.async false
set_option maxRecDepth 100000
set_option linter.all false
set_option maxHeartbeats 4000000
namespace Lp
open PySem L2
def topS (i : Nat) : Stmt := PySem.Challenge.pw_lumplooks_k02_numbers_and_names.main.body.getD i (.Pass ⟨0, 0, 0, 0⟩)
abbrev sBag : Stmt := topS 8
abbrev sPull : Stmt := topS 9
abbrev sPick : Stmt := topS 10
abbrev sSame : Stmt := topS 11
abbrev sIsNum : Stmt := topS 4
abbrev sIsName : Stmt := topS 5
abbrev sNumIn : Stmt := topS 6
abbrev sNames : Stmt := topS 12
abbrev sOdd : Stmt := topS 13
abbrev sLaw : Stmt := topS 14

/-! ### the bag: what is drawn from, and one draw -/
/-- q: the cells; i: the next one; b: what is left of a great cell; s: the mixed number; c: how many draws -/
def BagAt (H : Hp) (p q : Addr) (cells : List Int) (i : Nat) (b s c : Int) : Prop :=
  H p = some (.lst [.ref q, .int (i : Nat), .int b, .int s, .int c]) ∧ H q = some (.lst (cells.map V.int)) ∧ cells.length ≤ 63 ∧ i ≤ cells.length ∧ 0 ≤ b ∧ 0 ≤ s ∧ s < 2147483579
/-- the bag at p, its cells at q -/
def Bag (H : Hp) (p q : Addr) : Prop := ∃ (cells : List Int) (i : Nat) (b s c : Int), BagAt H p q cells i b s c
/-- from H to H' the bag alone may have turned; other things may be new -/
structure Bs (p q : Addr) (H H' : Hp) : Prop where
  keep : ∀ b o, b ≠ p → H b = some o → H' b = some o
  bag : Bag H' p q
theorem lst_inj {xs ys : List V} (h : some (HO.lst xs) = some (HO.lst ys)) : xs = ys := by
  injection h with h
  injection h
theorem BagAt.ne {H : Hp} {p q : Addr} {cells : List Int} {i : Nat} {b s c : Int} (h : BagAt H p q cells i b s c) : q ≠ p := fun e => by
  obtain ⟨h1, h2, _⟩ := h
  rw [e, h1] at h2
  have e2 := lst_inj h2
  cases cells with
  | nil => cases e2
  | cons x r =>
    rw [List.map_cons] at e2
    injection e2 with e3
    cases e3
theorem Bs.refl {p q : Addr} {H : Hp} (h : Bag H p q) : Bs p q H H := ⟨fun _ _ _ e => e, h⟩
theorem Bs.trans {p q : Addr} {H H1 H2 : Hp} (a : Bs p q H H1) (b : Bs p q H1 H2) : Bs p q H H2 := ⟨fun c o n e => b.keep c o n (a.keep c o n e), b.bag⟩
theorem Bag.some {H : Hp} {p q : Addr} (h : Bag H p q) : ∃ o, H p = some o := by
  obtain ⟨cells, i, b, s, c, h1, _⟩ := h
  exact ⟨_, h1⟩
theorem Bag.nn {H : Hp} {p q r : Addr} (h : Bag H p q) (e : H r = none) : r ≠ p := fun z => by
  obtain ⟨o, h⟩ := h.some
  rw [z, h] at e
  cases e
theorem Bag.nq {H : Hp} {p q r : Addr} (h : Bag H p q) (e : H r = none) : r ≠ q := fun z => by
  obtain ⟨cells, i, b, s, c, _, h2, _⟩ := h
  rw [z, h2] at e
  cases e
/-- what is new ahead was new before -/
theorem Bs.free {p q : Addr} {H H1 : Hp} (a : Bs p q H H1) {r : Addr} (h : H1 r = none) : H r = none := by
  cases e : H r with
  | none => rfl
  | some o =>
    rw [a.keep r o (a.bag.nn h) e] at h
    cases h
theorem Bag.mut {H : Hp} {p q r : Addr} {o : HO} (h : Bag H p q) (n1 : r ≠ p) (n2 : r ≠ q) : Bag (upd H r o) p q := by
  obtain ⟨cells, i, b, s, c, h1, h2, h3⟩ := h
  exact ⟨cells, i, b, s, c, by rw [upd_ne n1.symm]; exact h1, by rw [upd_ne n2.symm]; exact h2, h3⟩
theorem Bag.upd {H : Hp} {p q r : Addr} {o : HO} (h : Bag H p q) (e : H r = none) : Bag (upd H r o) p q := h.mut (h.nn e) (h.nq e)
theorem Bs.new {p q : Addr} {H H1 : Hp} (a : Bs p q H H1) {r : Addr} {o : HO} (h : H1 r = none) : Bs p q H (upd H1 r o) :=
  ⟨fun c u n e => by
    have e1 := a.keep c u n e
    rw [upd_ne (ne_of_none e1 h)]
    exact e1, a.bag.upd h⟩
/-- a thing that is newer than H changes -/
theorem Bs.mut {p q : Addr} {H H1 : Hp} (a : Bs p q H H1) (b : Bag H p q) {r : Addr} {o : HO} (h : H r = none) : Bs p q H (upd H1 r o) :=
  ⟨fun c u n e => by
    rw [upd_ne (ne_of_none e h)]
    exact a.keep c u n e, a.bag.mut (b.nn h) (b.nq h)⟩
theorem Bs.same {p q : Addr} {H H1 H2 : Hp} (a : Bs p q H H1) (s : Same H1 H2) : Bs p q H H2 :=
  ⟨fun c u n e => s _ _ (a.keep c u n e), by
    obtain ⟨cells, i, b, s', c, h1, h2, h3⟩ := a.bag
    exact ⟨cells, i, b, s', c, s _ _ h1, s _ _ h2, h3⟩⟩
theorem Bs.seqL {K : PySem.W.Frag} {p q a : Addr} {H H1 : Hp} {xs : List V} (b : Bs p q H H1) (n : a ≠ p) (h : SqL K H a xs) : SqL K H1 a xs := by
  rcases h with (h | ⟨o, h⟩) | h
  · exact .inl (.inl (b.keep _ _ n h))
  · exact .inl (.inr ⟨o, b.keep _ _ n h⟩)
  · exact .inr h
theorem Bs.seqT {K : PySem.W.Frag} {p q a : Addr} {H H1 : Hp} {xs : List V} (b : Bs p q H H1) (n : a ≠ p) (h : SqT K H a xs) : SqT K H1 a xs := by
  rcases h with (h | ⟨o, h⟩) | h
  · exact .inl (.inl (b.keep _ _ n h))
  · exact .inl (.inr ⟨o, b.keep _ _ n h⟩)
  · exact .inr h
/-- .. all is kept but the bag: a promise of a draw -/
def spPull : Sp := fun vs H Q _ => ∃ (p q : Addr) (many : Int), vs = [.ref p, .int many] ∧ Bag H p q ∧ 0 < many ∧ many ≤ 1000000000000000000 ∧
  ∀ d H', 0 ≤ d → d < many → Bs p q H H' → Q (.int d) H'
structure TxB (mg : Str → Option Value) : Prop where
  len : mg "len" = none
  int : mg "int" = none
section
variable {P : Program} {w : World} {K : PySem.W.Frag} {mg : Str → Option Value} {base : Heap}
theorem scPull : FnScope ["_law_bag_here", "_law_many", "_law_cell", "_law_digit", "_law_state"] ["_law_bag_here", "_law_many"] (defScope sPull) := ⟨rfl, rfl, rfl, by decide +kernel, rfl, by decide +kernel, by decide +kernel⟩
theorem bag_of {H : Hp} {p q : Addr} {cells : List Int} {i : Nat} {b s c : Int} {xs : List V} (nq : q ≠ p) (h1 : xs = [.ref q, .int (i : Nat), .int b, .int s, .int c]) (h2 : H q = some (.lst (cells.map V.int))) (h3 : cells.length ≤ 63) (h4 : i ≤ cells.length) (h5 : 0 ≤ b) (h6 : 0 ≤ s) (h7 : s < 2147483579) : BagAt (upd H p (.lst xs)) p q cells i b s c :=
  ⟨by rw [upd_same, h1], by rw [upd_ne nq]; exact h2, h3, h4, h5, h6, h7⟩

theorem ok_pull {f : Addr} {fd : FuncData} {k : Nat} (F : Fun K "_law_pull" "_law_pull" sPull f fd) (T : TxB mg) : FnOk P w K mg base CX0 (k + 1) f fd ["_law_bag_here", "_law_many"] spPull := by
  refine F.ok scPull (fun vs H Q E h => ?_) (fun cdv A outer s H vs Q E hr h => ?_)
  · obtain ⟨p, q, m, rfl, _⟩ := h
    rfl
  · obtain ⟨p, q, m, rfl, ⟨cells, i, b, s, c, hB⟩, hm0, hm1, k⟩ := h
    refine ⟨_, (pss_cons (ps_asg (pe_op op_add (pe_ix ix_list (pv 0) pe_int (fun _ _ => rfl)) pe_int) (pg_sub (pv 0) pe_int set_list))
 (C8.pss_cut (ps_if (PW.pt (pw_and (pt_cmpR op_eq (pe_ix ix_list (pv 0) pe_int (fun _ _ => rfl)) pe_int (nomark _)) (pw_and1 (pt_cmpR op_lt (pe_ix ix_list (pv 0) pe_int (fun _ _ => rfl)) (pe_callB call_len_seq (by rfl) T.len PySem.boot_len (pa_cons (pe_ix ix_list (pv 0) pe_int (fun _ _ => rfl)) pa_nil)) (nomark _))))) (pss_cons (ps_set (i := 2) scPull.nd rfl (Or.inl rfl) (pe_ix ix_list (pe_ix ix_list (pv 0) pe_int (fun _ _ => rfl)) (pe_ix ix_list (pv 0) pe_int (fun _ _ => rfl)) (fun _ _ => rfl)))
 (pss_cons (ps_asg (pe_op op_add (pe_ix ix_list (pv 0) pe_int (fun _ _ => rfl)) pe_int) (pg_sub (pv 0) pe_int set_list))
 (C8.pss_cut (ps_if (pt_cmpR op_ge (pv 2) (pe_op op_pow pe_int pe_int) (nomark _)) (pss_one (ps_asg (pv 2) (pg_sub (pv 0) pe_int set_list))) pss_nil)
 (pss_one (ps_asg (pe_op op_mod (pe_callTy call_int1 (by rfl) T.int PyProof.Rows.boot_int (pa_cons (pe_op op_add (pe_op op_add (pe_op op_mul (pe_ix ix_list (pv 0) pe_int (fun _ _ => rfl)) pe_int) (pe_op op_mul (pe_op op_mod (pe_callTy call_int1 (by rfl) T.int PyProof.Rows.boot_int (pa_cons (pv 2) pa_nil)) pe_int) pe_int)) pe_int) pa_nil)) pe_int) (pg_sub (pv 0) pe_int set_list)))))) pss_nil)
 (pss_cons (ps_if (pt_cmpR op_gt (pe_ix ix_list (pv 0) pe_int (fun _ _ => rfl)) pe_int (nomark _)) (pss_cons (ps_set (i := 3) scPull.nd rfl (Or.inl rfl) (pe_op op_mod (pe_callTy call_int1 (by rfl) T.int PyProof.Rows.boot_int (pa_cons (pe_ix ix_list (pv 0) pe_int (fun _ _ => rfl)) pa_nil)) (pv 1)))
 (pss_cons (ps_asg (pe_op op_fdivW (pe_callTy call_int1 (by rfl) T.int PyProof.Rows.boot_int (pa_cons (pe_ix ix_list (pv 0) pe_int (fun _ _ => rfl)) pa_nil)) (pv 1)) (pg_sub (pv 0) pe_int set_list))
 (pss_one (ps_ret (pv 3))))) pss_nil)
 (pss_cons (ps_set (i := 4) scPull.nd rfl (Or.inl rfl) (pe_ix ix_list (pv 0) pe_int (fun _ _ => rfl)))
 (pss_cons (ps_asg (pe_op op_mod (pe_callTy call_int1 (by rfl) T.int PyProof.Rows.boot_int (pa_cons (pe_op op_add (pe_op op_add (pe_op op_add (pe_op op_pow (pv 4) pe_int) (pe_op op_mul (pv 4) pe_int)) (pe_op op_mul (pe_ix ix_list (pv 0) pe_int (fun _ _ => rfl)) pe_int)) pe_int) pa_nil)) pe_int) (pg_sub (pv 0) pe_int set_list))
 (pss_one (ps_ret (pe_op op_mod (pe_callTy call_int1 (by rfl) T.int PyProof.Rows.boot_int (pa_cons (pe_op op_add (pe_op op_fdiv (pe_ix ix_list (pv 0) pe_int (fun _ _ => rfl)) pe_int) (pe_op op_mul (pe_op op_mod (pe_callTy call_int1 (by rfl) T.int PyProof.Rows.boot_int (pa_cons (pe_ix ix_list (pv 0) pe_int (fun _ _ => rfl)) pa_nil)) pe_int) pe_int)) pa_nil)) (pv 1))))))))), ?_⟩
    have nq := BagAt.ne hB
    obtain ⟨h1, h2, h3, h4, h5, h6, h7⟩ := hB
    -- bag[4] = bag[4] + 1
    refine ⟨_, rfl, p, _, _, _, rfl, rfl, SqL.of h1, rfl, c, 1, rfl, rfl, _, rfl, p, _, _, _, rfl, rfl, h1, rfl, ?_⟩
    have g1 : BagAt (upd H p (.lst [.ref q, .int (i : Nat), .int b, .int s, .int (c + 1)])) p q cells i b s (c + 1) := bag_of nq rfl h2 h3 h4 h5 h6 h7
    refine ⟨fun σ H' => ∃ (i : Nat) (b s c : Int) (y2 : Option V), σ = [some (.ref p), some (.int m), y2, none, none] ∧ BagAt H' p q cells i b s c ∧ ∀ a, a ≠ p → H' a = H a, ?_, ?_⟩
    · -- the test
      refine ⟨_, rfl, p, _, _, _, rfl, rfl, SqL.of g1.1, rfl, rfl, _, rfl, ?_⟩
      have kp1 : ∀ a, a ≠ p → (upd H p (.lst [.ref q, .int (i : Nat), .int b, .int s, .int (c + 1)])) a = H a := fun a n => upd_ne n
      refine ite2 (fun e0 => ?_) (fun _ => iteF ⟨i, b, s, c + 1, none, rfl, g1, kp1⟩)
      refine ⟨_, rfl, p, _, _, _, rfl, rfl, SqL.of g1.1, rfl, _, rfl, p, _, _, _, rfl, rfl, SqL.of g1.1, rfl, q, _, rfl, .inl (SqL.of g1.2.1), _, _, rfl, rfl, _, rfl, ?_⟩
      refine ite2 (fun e1 => ?_) (fun _ => ⟨i, b, s, c + 1, none, rfl, g1, kp1⟩)
      have hi : i < cells.length := by
        have e2 := of_decide_eq_true e1
        rw [List.length_map] at e2
        omega
      -- cell = bag[0][bag[1]]
      have hc : (cells.map V.int)[i]? = some (.int cells[i]) := by
        rw [List.getElem?_map, List.getElem?_eq_getElem hi]
        rfl
      refine ⟨_, rfl, p, _, _, _, rfl, rfl, SqL.of g1.1, rfl, _, rfl, p, _, _, _, rfl, rfl, SqL.of g1.1, rfl, q, _, _, _, rfl, rfl, SqL.of g1.2.1, atI_nat hc, ?_⟩
      -- bag[1] = bag[1] + 1
      refine ⟨_, rfl, p, _, _, _, rfl, rfl, SqL.of g1.1, rfl, _, _, rfl, rfl, _, rfl, p, _, _, _, rfl, rfl, g1.1, rfl, ?_⟩
      have g2 : BagAt (upd (upd H p (.lst [.ref q, .int (i : Nat), .int b, .int s, .int (c + 1)])) p (.lst [.ref q, .int ((i : Int) + 1), .int b, .int s, .int (c + 1)])) p q cells (i + 1) b s (c + 1) := bag_of nq (by rw [show (((i + 1 : Nat) : Int)) = (i : Int) + 1 by omega]) g1.2.1 h3 (by omega) h5 h6 h7
      -- if cell >= 10 ** 18: bag[2] = cell
      have kp2 : ∀ a, a ≠ p → (upd (upd H p (.lst [.ref q, .int (i : Nat), .int b, .int s, .int (c + 1)])) p (.lst [.ref q, .int ((i : Int) + 1), .int b, .int s, .int (c + 1)])) a = H a := fun a n => by rw [upd_ne n, upd_ne n]
      refine ⟨fun σ H' => ∃ b : Int, σ = [some (.ref p), some (.int m), some (.int cells[i]), none, none] ∧ BagAt H' p q cells (i + 1) b s (c + 1) ∧ ∀ a, a ≠ p → H' a = H a, ?_, ?_⟩
      · refine ⟨_, rfl, 10, 18, rfl, rfl, ⟨by decide, by decide, by decide⟩, _, _, rfl, rfl, _, rfl, ?_⟩
        refine ite2 (fun e2 => ?_) (fun _ => ⟨b, rfl, g2, kp2⟩)
        have e3 := of_decide_eq_true e2
        refine ⟨_, rfl, _, rfl, p, _, _, _, rfl, rfl, g2.1, rfl, ?_⟩
        refine ⟨cells[i], rfl, bag_of nq rfl g2.2.1 h3 (by omega) (Int.le_trans (by decide) e3) h6 h7, fun a n => by rw [upd_ne n]; exact kp2 a n⟩
      · rintro σ H3 ⟨b, rfl, g3, kp3⟩
        have b0 := g3.2.2.2.2.1
        refine ⟨_, rfl, p, _, _, _, rfl, rfl, SqL.of g3.1, rfl, _, _, rfl, rfl, .inl ⟨by omega, by omega⟩, _, rfl, .inl ⟨_, rfl, _, _, rfl, rfl, (by show (0 : Int) < 2147483497; decide), _, _, rfl, rfl, .inr ⟨by decide, by decide⟩, _, _, rfl, rfl, _, _, rfl, rfl, .inl ⟨_, rfl, _, _, rfl, rfl, (by show (0 : Int) < 2147483579; decide), _, rfl, p, _, _, _, rfl, rfl, g3.1, rfl, ?_⟩⟩⟩
        exact ⟨i + 1, b, _, c + 1, _, rfl, bag_of nq rfl g3.2.1 h3 (by omega) b0 (Int.emod_nonneg _ (by decide)) (Int.emod_lt_of_pos _ (by decide)), fun a n => by rw [upd_ne n]; exact kp3 a n⟩
    · rintro σ H1 ⟨i, b, s, c, y2, rfl, g, kp⟩
      obtain ⟨h1, h2, h3, h4, h5, h6, h7⟩ := id g
      have fin : ∀ (H2 : Hp) (d : Int), (∃ i b s c, BagAt H2 p q cells i b s c) → (∀ a, a ≠ p → H2 a = H a) → 0 ≤ d → d < m → Q (.int d) H2 := fun H2 d ⟨i, b, s, c, g⟩ kk d0 d1 =>
        k d H2 d0 d1 ⟨fun a o n e => (kk a n).trans e, ⟨cells, i, b, s, c, g⟩⟩
      have mw : m.natAbs < 2 ^ 60 := by omega
      refine ⟨_, rfl, p, _, _, _, rfl, rfl, SqL.of h1, rfl, _, _, rfl, rfl, _, rfl, ?_⟩
      refine ite2 (fun e0 => ?_) (fun _ => ?_)
      · have b0 : 0 < b := of_decide_eq_true e0
        refine ⟨_, rfl, p, _, _, _, rfl, rfl, SqL.of h1, rfl, .inl ⟨_, rfl, _, rfl, _, _, rfl, rfl, hm0, ?_⟩⟩
        refine ⟨_, rfl, p, _, _, _, rfl, rfl, SqL.of h1, rfl, .inl ⟨_, rfl, _, rfl, _, _, rfl, rfl, wide_div hm0 mw (by decide) (by decide), _, rfl, p, _, _, _, rfl, rfl, h1, rfl, ?_⟩⟩
        refine ⟨_, rfl, fin _ _ ⟨i, b / m, s, c, bag_of nq rfl h2 h3 h4 (Int.ediv_nonneg (by omega) (by omega)) h6 h7⟩ (fun a n => by rw [upd_ne n]; exact kp a n) (Int.emod_nonneg _ (by omega)) (Int.emod_lt_of_pos _ hm0)⟩
      · refine ⟨_, rfl, p, _, _, _, rfl, rfl, SqL.of h1, rfl, ?_⟩
        refine ⟨_, rfl, _, 3, rfl, rfl, ⟨by decide, by decide, by omega⟩, _, rfl, _, _, rfl, rfl, .inr ⟨by decide, by decide⟩, _, _, rfl, rfl, _, rfl, p, _, _, _, rfl, rfl, SqL.of h1, rfl, _, _, rfl, rfl, .inr ⟨by decide, by decide⟩, _, _, rfl, rfl, _, _, rfl, rfl, .inl ⟨_, rfl, _, _, rfl, rfl, (by show (0 : Int) < 2147483579; decide), _, rfl, p, _, _, _, rfl, rfl, h1, rfl, ?_⟩⟩
        have g2 : BagAt _ p q cells i b ((s ^ (3 : Int).toNat + s * 40111 + c * 1299583 + 61027) % 2147483579) c := bag_of (H := H1) (xs := [.ref q, .int (i : Nat), .int b, .int ((s ^ (3 : Int).toNat + s * 40111 + c * 1299583 + 61027) % 2147483579), .int c]) nq rfl h2 h3 h4 h5 (Int.emod_nonneg _ (by decide)) (Int.emod_lt_of_pos _ (by decide))
        refine ⟨_, rfl, p, _, _, _, rfl, rfl, SqL.of g2.1, rfl, _, _, rfl, rfl, ⟨by decide, by decide⟩, _, rfl, p, _, _, _, rfl, rfl, SqL.of g2.1, rfl, .inl ⟨_, rfl, _, _, rfl, rfl, (by show (0 : Int) < 7919; decide), _, _, rfl, rfl, .inr ⟨by decide, by decide⟩, _, _, rfl, rfl, .inl ⟨_, rfl, _, rfl, _, _, rfl, rfl, hm0, ?_⟩⟩⟩
        exact fin _ _ ⟨i, b, _, c, g2⟩ (fun a n => by rw [upd_ne n]; exact kp a n) (Int.emod_nonneg _ (by omega)) (Int.emod_lt_of_pos _ hm0)

theorem cutV_map (ns : List Int) (lo hi : Option Int) : ∃ ms : List Int, cutV (ns.map V.int) lo hi = ms.map V.int ∧ ms.length ≤ ns.length := by
  refine ⟨(ns.drop (HT.sIx ns.length 0 lo)).take (HT.sIx ns.length ns.length hi - HT.sIx ns.length 0 lo), ?_, ?_⟩
  · unfold cutV
    rw [List.length_map, List.map_take, List.map_drop]
  · rw [List.length_take, List.length_drop]
    omega
theorem get_int {ns : List Int} {i : Nat} {x : V} (h : (ns.map V.int)[i]? = some x) : ∃ u, x = .int u ∧ ns[i]? = some u ∧ i < ns.length := by
  rw [List.getElem?_map] at h
  cases e : ns[i]? with
  | none =>
    rw [e] at h
    cases h
  | some u =>
    rw [e] at h
    exact ⟨u, (Option.some.inj h).symm, rfl, (List.getElem?_eq_some_iff.mp e).1⟩
theorem same_upd {H : Hp} {p : Addr} {o : HO} (h : H p = none) : Same H (upd H p o) := fun b x e => by
  rw [upd_ne (ne_of_none e h)]
  exact e
theorem same_mut {H H' : Hp} {p : Addr} {o : HO} (e : Same H H') (h : H p = none) : Same H (upd H' p o) := fun a u ha => by
  rw [upd_ne (ne_of_none ha h)]
  exact e a u ha
theorem sz63 {n : Nat} (h : n ≤ 63) : n < sizeLine := Nat.lt_of_le_of_lt h (by decide)
def spBag (K : PySem.W.Frag) : Sp := fun vs H Q _ => ∃ (a : Addr) (ns : List Int), vs = [.ref a] ∧ SqL K H a (ns.map V.int) ∧ ns.length ≤ 63 ∧ ∀ p q H', H p = none → H q = none → Same H H' → Bag H' p q → Q (.ref p) H'
theorem scBag : FnScope ["_law_script", "_law_state", "_law_cell"] ["_law_script"] (defScope sBag) := ⟨rfl, rfl, rfl, by decide +kernel, rfl, by decide +kernel, by decide +kernel⟩
theorem ok_bag {f : Addr} {fd : FuncData} {k : Nat} (F : Fun K "_law_bag" "_law_bag" sBag f fd) (T : TxB mg) : FnOk P w K mg base CX0 (k + 1) f fd ["_law_script"] (spBag K) := by
  refine F.ok scBag (fun vs H Q E h => ?_) (fun cdv A outer s H vs Q E hr h => ?_)
  · obtain ⟨a, ns, rfl, _⟩ := h
    rfl
  · obtain ⟨a, ns, rfl, hS, hlen, k⟩ := h
    refine ⟨_, (pss_cons (ps_set (i := 1) scBag.nd rfl (Or.inl rfl) pe_int)
 (pss_cons (ps_for PassesOwn.never rfl (pi_list (pe_slice sl_list (pv 0) po_none (po_some pe_int))) (pg_name (i := 2) scBag.nd rfl (Or.inl rfl))
 (pss_one (ps_set (i := 1) scBag.nd rfl (Or.inl rfl) (pe_op op_mod (pe_callTy call_int1 (by rfl) T.int PyProof.Rows.boot_int (pa_cons (pe_op op_add (pe_op op_add (pe_op op_mul (pv 1) pe_int) (pe_op op_mod (pe_callTy call_int1 (by rfl) T.int PyProof.Rows.boot_int (pa_cons (pv 2) pa_nil)) pe_int)) pe_int) pa_nil)) pe_int))))
 (pss_one (ps_ret (pe_lst (pa_cons (pe_lc (own := [("_law_cell", 2)]) (g := gName 2) (tt := tYes) rfl scBag.nd (pi_list (pe_slice sl_list (pv 0) po_none (po_some pe_int))) (blkOk_by (own := [("_law_cell", 2)]) (N := ["_law_script", "_law_state", "_law_cell"]) (sc := defScope sBag) (by decide +kernel)) (fun _ _ _ _ _ => (pg_name (i := 2) scBag.nd rfl (Or.inl rfl))) (fun _ _ _ _ _ => pts_nil) (fun _ _ _ _ _ => (pe_callTy call_int1 (by rfl) T.int PyProof.Rows.boot_int (pa_cons (pv 2) pa_nil)))) (pa_cons pe_int (pa_cons pe_int (pa_cons (pv 1) (pa_cons pe_int pa_nil)))))))))), ?_⟩
    obtain ⟨ms, em, lm⟩ := cutV_map ns none (some 63)
    refine ⟨_, rfl, 63, rfl, a, _, rfl, hS, fun r nr => ?_⟩
    have s1 : Same H (upd H r (.lst (cutV (ns.map V.int) none (some 63)))) := same_upd nr
    refine ⟨r, rfl, ⟨_, SqL.of upd_same⟩, for_list (K := K) (a := r) (xs := ms.map V.int) (fun i σ H' => ∃ (st : Int) (y2 : Option V), σ = [some (.ref a), some (.int st), y2] ∧ 0 ≤ st ∧ st < 2147483579 ∧ H' = upd H r (.lst (cutV (ns.map V.int) none (some 63))))
      ⟨10021, none, rfl, by decide, by decide, rfl⟩ (fun i σ H' _ ⟨_, _, _, _, _, e⟩ => by rw [e, em]; exact SqL.of upd_same) ?_ ?_⟩
    · rintro i x σ H' hi ⟨st, y2, rfl, st0, st1, rfl⟩
      obtain ⟨u, rfl, _, _⟩ := get_int hi
      refine ⟨_, rfl, _, _, rfl, rfl, .inr ⟨by decide, by decide⟩, _, rfl, .inl ⟨_, rfl, _, _, rfl, rfl, (by show (0 : Int) < 2147483563; decide), _, _, rfl, rfl, _, _, rfl, rfl, .inl ⟨_, rfl, _, _, rfl, rfl, (by show (0 : Int) < 2147483579; decide), ?_⟩⟩⟩
      exact ⟨_, _, rfl, Int.emod_nonneg _ (by decide), Int.emod_lt_of_pos _ (by decide), rfl⟩
    · rintro σ H' ⟨st, y2, rfl, st0, st1, rfl⟩
      refine ⟨_, rfl, 63, rfl, a, _, rfl, s1.seq hS, fun r2 nr2 => ?_⟩
      have s2 := same_upd (o := .lst (cutV (ns.map V.int) none (some 63))) nr2
      refine ⟨r2, rfl, ⟨_, SqL.of upd_same⟩, fun D nD => lc_list (K := K) (a := r2) (xs := ms.map V.int) (fun i H' => Same (upd (upd H r (.lst (cutV (ns.map V.int) none (some 63)))) r2 (.lst (cutV (ns.map V.int) none (some 63)))) H' ∧ H' D = some (.lst ((ms.take i).map V.int))) ⟨same_upd nD, upd_same⟩ (fun i H' _ h => h.1.seq (by rw [← em]; exact SqL.of upd_same)) ?_ ?_⟩
      · rintro i x H' hi ⟨hs, hD⟩
        obtain ⟨u, rfl, hu, _⟩ := get_int hi
        refine ⟨rfl, _, rfl, .inl ⟨_, rfl, _, hD, sz63 (by rw [List.length_map, List.length_take]; omega), same_mut hs nD, ?_⟩⟩
        rw [upd_same, List.take_add_one, hu, List.map_append]
        rfl
      · rintro H' ⟨hs, hD⟩
        refine ⟨_, rfl, (by show 5 ≤ sizeLine; decide), fun p np => ?_⟩
        have sa : Same H H' := (s1.trans s2).trans hs
        refine k p D _ (sa.free np) ((s1.trans s2).free nD) (sa.trans (same_upd np)) ⟨ms, 0, 0, st, 0, by rw [upd_same]; rfl, ?_, by omega, by omega, by decide, st0, st1⟩
        rw [upd_ne (ne_of_none hD np), hD, List.length_map, List.take_length]
theorem at_ofN {α : Type} {xs : List α} {z : Int} {j : Nat} {v : α} (e : z = (j : Int)) (h : xs[j]? = some v) : atI xs z = some v := by
  rw [e]
  exact atI_nat h

/-- a draw out of a list (not the bag itself) -/
def spPickL (K : PySem.W.Frag) : Sp := fun vs H Q _ => ∃ (p q r : Addr) (xs : List V), vs = [.ref p, .ref r] ∧ Bag H p q ∧ r ≠ p ∧ SqL K H r xs ∧ 0 < xs.length ∧ xs.length ≤ 1000000000000000000 ∧
  ∀ x H', x ∈ xs → Bs p q H H' → Q x H'
/-- .. out of a text -/
def spPickS : Sp := fun vs H Q _ => ∃ (p q : Addr) (z : Str), vs = [.ref p, .str z] ∧ Bag H p q ∧ 0 < z.length ∧ z.length ≤ 1000 ∧
  ∀ c H', c ∈ z.cps.toList → Bs p q H H' → Q (.str ⟨#[c]⟩) H'
theorem scPick : FnScope ["_law_bag_here", "_law_rows"] ["_law_bag_here", "_law_rows"] (defScope sPick) := ⟨rfl, rfl, rfl, by decide +kernel, rfl, by decide +kernel, by decide +kernel⟩
theorem ok_pickL {f g : Addr} {fd gd : FuncData} {k : Nat} (F : Fun K "_law_pick" "_law_pick" sPick f fd) (T : TxB mg) (FP : Fun K "_law_pull" "_law_pull" sPull g gd) (bP : Binds K gd ["_law_bag_here", "_law_many"] []) (mP : mg "_law_pull" = some (.ref g)) :
    FnOk P w K mg base CX0 (k + 2) f fd ["_law_bag_here", "_law_rows"] (spPickL K) := by
  have GP : FnOk P w K mg base CX0 (k + 1) g gd ["_law_bag_here", "_law_many"] spPull := ok_pull FP T
  refine F.ok scPick (fun vs H Q E h => ?_) (fun cdv A outer s H vs Q E hr h => ?_)
  · obtain ⟨p, q, r, xs, rfl, _⟩ := h
    rfl
  · obtain ⟨p, q, r, xs, rfl, hB, nr, hX, h0, h1, k⟩ := h
    refine ⟨_, (pss_one (ps_ret (pe_ix ix_seq (pv 1) (pe_call GP hr (by rfl) mP FP.kp bP .nil pass0 (pa_cons (pv 0) (pa_cons (pe_callB call_len (by rfl) T.len PySem.boot_len (pa_cons (pv 1) pa_nil)) pa_nil))) (fun _ _ => rfl)))), ?_⟩
    refine ⟨_, rfl, _, rfl, _, rfl, _, _, rfl, .inl ⟨_, hX, rfl⟩, p, q, _, rfl, hB, by omega, by omega, fun d H' d0 d1 b => .inl ⟨r, xs, d, xs[d.toNat]'(by omega), rfl, rfl, b.seqL nr hX, ?_, k _ _ (List.getElem_mem _) b⟩⟩
    exact at_of (j := d.toNat) (by omega) (List.getElem?_eq_getElem _)
theorem ok_pickS {f g : Addr} {fd gd : FuncData} {k : Nat} (F : Fun K "_law_pick" "_law_pick" sPick f fd) (T : TxB mg) (FP : Fun K "_law_pull" "_law_pull" sPull g gd) (bP : Binds K gd ["_law_bag_here", "_law_many"] []) (mP : mg "_law_pull" = some (.ref g)) :
    FnOk P w K mg base CX0 (k + 2) f fd ["_law_bag_here", "_law_rows"] spPickS := by
  have GP : FnOk P w K mg base CX0 (k + 1) g gd ["_law_bag_here", "_law_many"] spPull := ok_pull FP T
  refine F.ok scPick (fun vs H Q E h => ?_) (fun cdv A outer s H vs Q E hr h => ?_)
  · obtain ⟨p, q, r, rfl, _⟩ := h
    rfl
  · obtain ⟨p, q, z, rfl, hB, h0, h1, k⟩ := h
    refine ⟨_, (pss_one (ps_ret (pe_ix ix_seq (pv 1) (pe_call GP hr (by rfl) mP FP.kp bP .nil pass0 (pa_cons (pv 0) (pa_cons (pe_callB call_len (by rfl) T.len PySem.boot_len (pa_cons (pv 1) pa_nil)) pa_nil))) (fun _ _ => rfl)))), ?_⟩
    have e0 : z.cps.toList.length = z.length := Array.length_toList
    refine ⟨_, rfl, _, rfl, _, rfl, _, _, rfl, ⟨Nat.le_trans h1 (by decide), rfl⟩, p, q, _, rfl, hB, by omega, by omega, fun d H' d0 d1 b => .inr (.inr ⟨z, d, z.cps.toList[d.toNat]'(by omega), rfl, rfl, Nat.le_trans h1 (by decide), ?_, k _ _ (List.getElem_mem _) b⟩)⟩
    exact at_ofN (j := d.toNat) (by omega) (List.getElem?_eq_getElem _)

/-! ### data: what the laws compare -/
/-- at depth below n: the value v is the data d; no list and no tuple of it is the thing at p -/
def Da (p : Addr) (H : Hp) : Nat → V → PyData → Prop
  | 0, _, _ => False
  | _ + 1, v, .none => v = .non
  | _ + 1, v, .bool b => v = .bl b
  | _ + 1, v, .int i => v = .int i
  | _ + 1, v, .str x => v = .str x
  | n + 1, v, .list ds => ∃ a xs, v = .ref a ∧ a ≠ p ∧ H a = some (.lst xs) ∧ xs.length ≤ 100000 ∧ Paired (Da p H n) xs ds
  | n + 1, v, .tuple ds => ∃ a xs, v = .ref a ∧ a ≠ p ∧ H a = some (.tup xs) ∧ xs.length ≤ 100000 ∧ Paired (Da p H n) xs ds
  | _, _, .dict _ => False
theorem Da.mono {p : Addr} {H H' : Hp} (k : ∀ b o, b ≠ p → H b = some o → H' b = some o) : ∀ {n : Nat} {v : V} {d : PyData}, Da p H n v d → Da p H' n v d
  | 0, _, _, h => h
  | _ + 1, _, .none, h => h
  | _ + 1, _, .bool _, h => h
  | _ + 1, _, .int _, h => h
  | _ + 1, _, .str _, h => h
  | n + 1, _, .list ds, ⟨a, xs, e, np, h, l, r⟩ => ⟨a, xs, e, np, k _ _ np h, l, Paired.mapP r fun _ _ z => Da.mono k z⟩
  | n + 1, _, .tuple ds, ⟨a, xs, e, np, h, l, r⟩ => ⟨a, xs, e, np, k _ _ np h, l, Paired.mapP r fun _ _ z => Da.mono k z⟩
  | _ + 1, _, .dict _, h => h
theorem Da.same {p : Addr} {H H' : Hp} (k : Same H H') {n : Nat} {v : V} {d : PyData} (h : Da p H n v d) : Da p H' n v d := h.mono fun b o _ e => k b o e
theorem Da.bs {p q : Addr} {H H' : Hp} (k : Bs p q H H') {n : Nat} {v : V} {d : PyData} (h : Da p H n v d) : Da p H' n v d := h.mono k.keep
theorem Da.up {p : Addr} {H : Hp} : ∀ {n : Nat} {v : V} {d : PyData}, Da p H n v d → Da p H (n + 1) v d
  | 0, _, _, h => h.elim
  | _ + 1, _, .none, h => h
  | _ + 1, _, .bool _, h => h
  | _ + 1, _, .int _, h => h
  | _ + 1, _, .str _, h => h
  | n + 1, _, .list ds, ⟨a, xs, e, np, h, l, r⟩ => ⟨a, xs, e, np, h, l, Paired.mapP r fun _ _ z => Da.up z⟩
  | n + 1, _, .tuple ds, ⟨a, xs, e, np, h, l, r⟩ => ⟨a, xs, e, np, h, l, Paired.mapP r fun _ _ z => Da.up z⟩
  | _ + 1, _, .dict _, h => h
theorem paired_get {α β : Type} {R : α → β → Prop} : ∀ {xs : List α} {ys : List β} {i : Nat} {x : α}, Paired R xs ys → xs[i]? = some x → ∃ y, ys[i]? = some y ∧ R x y
  | _, _, _, _, .nil, e => by simp at e
  | _, _, 0, x, .cons r _, e => by
    have e1 := Option.some.inj e
    subst e1
    exact ⟨_, rfl, r⟩
  | _, _, i + 1, x, .cons _ t, e => paired_get (i := i) (x := x) t e
theorem walk_zipT {K : PySem.W.Frag} {a b : Addr} {xs ys : List V} {n : Nat} (hn : n = min xs.length ys.length) : Walk (RZ.ItzT K a b) n (fun H => SqT K H a xs ∧ SqT K H b ys) (YPair (fun i => xs[i]?) (fun i => ys[i]?)) := by
  subst hn
  refine ⟨fun i _ hi q => ?_, fun _ q => ⟨xs, ys, q.1, q.2, by omega⟩, fun i H v H' _ q y => ?_⟩
  · have h1 : i < xs.length := by omega
    have h2 : i < ys.length := by omega
    exact ⟨xs, ys, xs[i], ys[i], q.1, q.2, by simp [h1], by simp [h2]⟩
  · obtain ⟨T, x, z, h1, h2, h3, h4, h5⟩ := y
    exact ⟨T, x, z, h1, h2, h3, h4 xs q.1, h5 ys q.2⟩
theorem same_seqT {K : PySem.W.Frag} {H H' : Hp} {a : Addr} {xs : List V} (e : Same H H') (h : SqT K H a xs) : SqT K H' a xs := by
  rcases h with (h | ⟨o, h⟩) | h
  · exact .inl (.inl (e _ _ h))
  · exact .inl (.inr ⟨o, e _ _ h⟩)
  · exact .inr h
def spSame (n : Nat) : Sp := fun vs H Q _ => ∃ (p : Addr) (x y : V) (d : PyData), vs = [x, y] ∧ Da p H n x d ∧ Da p H n y d ∧ ∀ H', Same H H' → Q (.bl true) H'
structure TxS (mg : Str → Option Value) : Prop where
  len : mg "len" = none
  isinstance : mg "isinstance" = none
  list : mg "list" = none
  tuple : mg "tuple" = none
  bool : mg "bool" = none
  int : mg "int" = none
  str : mg "str" = none
  all : mg "all" = none
  zip : mg "zip" = none
theorem ands_all : ∀ n : Nat, (List.replicate n true).all id = true
  | 0 => rfl
  | n + 1 => by
    rw [List.replicate_succ, List.all_cons, ands_all n]
    rfl
theorem kit_lt_list {K : PySem.W.Frag} : PySem.W.kitAny K (.type "list") [.type "list", .type "tuple"] = some true := kitAny_cons (kit_ty (b := "list") (r := true) (by decide +kernel)) (fun z => nomatch z) (fun _ => rfl)
theorem kit_lt_tuple {K : PySem.W.Frag} : PySem.W.kitAny K (.type "tuple") [.type "list", .type "tuple"] = some true :=
  kitAny_cons (kit_ty (b := "list") (r := false) (by decide +kernel)) (fun _ => kitAny_cons (kit_ty (b := "tuple") (r := true) (by decide +kernel)) (fun z => nomatch z) (fun _ => rfl)) (fun z => nomatch z)
theorem kit_lt_no {K : PySem.W.Frag} {a : String} (h1 : kitB a "list" = some false) (h2 : kitB a "tuple" = some false) : PySem.W.kitAny K (.type a) [.type "list", .type "tuple"] = some false :=
  kitAny_cons (kit_ty (b := "list") h1) (fun _ => kitAny_cons (kit_ty (b := "tuple") h2) (fun _ => kitAny_nil) (fun z => nomatch z)) (fun z => nomatch z)
theorem scSame : FnScope ["_law_found", "_law_due", "_law_one", "_law_two"] ["_law_found", "_law_due"] (defScope sSame) := ⟨rfl, rfl, rfl, by decide +kernel, rfl, by decide +kernel, by decide +kernel⟩
theorem ok_same {f : Addr} {fd : FuncData} (F : Fun K "_law_same" "_law_same" sSame f fd) (T : TxS mg) (bS : Binds K fd ["_law_found", "_law_due"] []) (mS : mg "_law_same" = some (.ref f)) :
    ∀ n : Nat, FnOk P w K mg base CX0 (n + 1) f fd ["_law_found", "_law_due"] (spSame n)
  | 0 => by
    refine F.ok scSame (fun vs H Q E h => ?_) (fun cdv A outer s H vs Q E hr h => ?_)
    · obtain ⟨p, x, y, d, rfl, _⟩ := h
      rfl
    · obtain ⟨p, x, y, d, rfl, z, _⟩ := h
      exact z.elim
  | n + 1 => by
    have GS : FnOk P w K mg base CX0 (n + 1) f fd ["_law_found", "_law_due"] (spSame n) := ok_same F T bS mS n
    refine F.ok scSame (fun vs H Q E h => ?_) (fun cdv A outer s H vs Q E hr h => ?_)
    · obtain ⟨p, x, y, d, rfl, _⟩ := h
      rfl
    · obtain ⟨p, x, y, d, rfl, hx, hy, k⟩ := h
      refine ⟨_, (pss_cons (ps_if (pt_val (pe_callB call_isiT (by rfl) T.isinstance PyProof.Rows.boot_isinstance (pa_cons (pv 1) (pa_cons (pe_tup (pa_cons (pe_bltn (v := .ty "list") (by rfl) T.list PyProof.Rows.boot_list rfl) (pa_cons (pe_bltn (v := .ty "tuple") (by rfl) T.tuple PyProof.Rows.boot_tuple rfl) pa_nil))) pa_nil)))) (pss_cons (ps_if (pt_cmpR op_ne (pe_callB call_isi (by rfl) T.isinstance PyProof.Rows.boot_isinstance (pa_cons (pv 0) (pa_cons (pe_bltn (v := .ty "list") (by rfl) T.list PyProof.Rows.boot_list rfl) pa_nil))) (pe_callB call_isi (by rfl) T.isinstance PyProof.Rows.boot_isinstance (pa_cons (pv 1) (pa_cons (pe_bltn (v := .ty "list") (by rfl) T.list PyProof.Rows.boot_list rfl) pa_nil))) (nomark _)) (pss_one (ps_ret pe_bl)) pss_nil)
 (pss_cons (ps_if (pt_cmpR op_ne (pe_callB call_isi (by rfl) T.isinstance PyProof.Rows.boot_isinstance (pa_cons (pv 0) (pa_cons (pe_bltn (v := .ty "tuple") (by rfl) T.tuple PyProof.Rows.boot_tuple rfl) pa_nil))) (pe_callB call_isi (by rfl) T.isinstance PyProof.Rows.boot_isinstance (pa_cons (pv 1) (pa_cons (pe_bltn (v := .ty "tuple") (by rfl) T.tuple PyProof.Rows.boot_tuple rfl) pa_nil))) (nomark _)) (pss_one (ps_ret pe_bl)) pss_nil)
 (pss_one (ps_ret (pe_and (pe_cmpR op_eq (pe_callB call_len_seq (by rfl) T.len PySem.boot_len (pa_cons (pv 0) pa_nil)) (pe_callB call_len_seq (by rfl) T.len PySem.boot_len (pa_cons (pv 1) pa_nil)) (nomark _)) (pe_one (pe_callB (cr_all rfl) (by rfl) T.all (by decide +kernel) (pa_cons (pe_lc (own := [("_law_one", 2), ("_law_two", 3)]) (g := gTup K 2 (gCons (gName 2) (gCons (gName 3) gNil))) (tt := tYes) rfl scSame.nd (RZ.pi_zipA (by rfl) T.zip (pa_cons (pv 0) (pa_cons (pv 1) pa_nil))) (blkOk_by (own := [("_law_one", 2), ("_law_two", 3)]) (N := ["_law_found", "_law_due", "_law_one", "_law_two"]) (sc := defScope sSame) (by decide +kernel)) (fun _ _ _ _ _ => (pg_tup rfl (pgs_cons (pg_name (i := 2) scSame.nd rfl (Or.inl rfl)) (pgs_cons (pg_name (i := 3) scSame.nd rfl (Or.inl rfl)) pgs_nil)))) (fun _ _ _ _ _ => pts_nil) (fun _ _ _ _ _ => (pe_call GS (hr.mono (by omega)) (by rfl) mS F.kp bS .nil pass0 (pa_cons (pv 2) (pa_cons (pv 3) pa_nil))))) pa_nil)))))))) pss_nil)
 (pss_cons (ps_if (PW.pt (pw_or (pt_cmpR op_isN (pv 1) pe_non (nomark _)) (pw_or1 (pt_cmpR op_isN (pv 0) pe_non (nomark _))))) (pss_one (ps_ret (pe_and (pe_cmpR op_isN (pv 1) pe_non (nomark _)) (pe_one (pe_cmpR op_isN (pv 0) pe_non (nomark _)))))) pss_nil)
 (pss_cons (ps_if (pt_cmpR op_ne (pe_callB call_isi (by rfl) T.isinstance PyProof.Rows.boot_isinstance (pa_cons (pv 1) (pa_cons (pe_bltn (v := .ty "bool") (by rfl) T.bool PyProof.Rows.boot_bool rfl) pa_nil))) (pe_callB call_isi (by rfl) T.isinstance PyProof.Rows.boot_isinstance (pa_cons (pv 0) (pa_cons (pe_bltn (v := .ty "bool") (by rfl) T.bool PyProof.Rows.boot_bool rfl) pa_nil))) (nomark _)) (pss_one (ps_ret pe_bl)) pss_nil)
 (pss_cons (ps_if (pt_cmpR op_ne (pe_callB call_isi (by rfl) T.isinstance PyProof.Rows.boot_isinstance (pa_cons (pv 1) (pa_cons (pe_bltn (v := .ty "int") (by rfl) T.int PyProof.Rows.boot_int rfl) pa_nil))) (pe_callB call_isi (by rfl) T.isinstance PyProof.Rows.boot_isinstance (pa_cons (pv 0) (pa_cons (pe_bltn (v := .ty "int") (by rfl) T.int PyProof.Rows.boot_int rfl) pa_nil))) (nomark _)) (pss_one (ps_ret pe_bl)) pss_nil)
 (pss_one (ps_ret (pe_and (pe_cmpR op_eq (pe_callB call_isi (by rfl) T.isinstance PyProof.Rows.boot_isinstance (pa_cons (pv 1) (pa_cons (pe_bltn (v := .ty "str") (by rfl) T.str PyProof.Rows.boot_str rfl) pa_nil))) (pe_callB call_isi (by rfl) T.isinstance PyProof.Rows.boot_isinstance (pa_cons (pv 0) (pa_cons (pe_bltn (v := .ty "str") (by rfl) T.str PyProof.Rows.boot_str rfl) pa_nil))) (nomark _)) (pe_one (pe_cmpR op_eq (pv 0) (pv 1) (nomark _)))))))))), ?_⟩
      refine ⟨_, rfl, (by show 2 ≤ sizeLine; decide), fun t nt => ?_⟩
      have s1 : Same H (upd H t (.tup [.ty "list", .ty "tuple"])) := same_upd nt
      generalize hH1 : upd H t (.tup [.ty "list", .ty "tuple"]) = H1 at s1
      have ht : H1 t = some (.tup [.ty "list", .ty "tuple"]) := by rw [← hH1, upd_same]
      have hx1 := hx.same s1
      have hy1 := hy.same s1
      have cls : Paired ClsV [V.ty "list", V.ty "tuple"] [Value.type "list", Value.type "tuple"] := .cons (.ty _) (.cons (.ty _) .nil)
      cases d with
      | list ds =>
        obtain ⟨a, xs, rfl, na, ha, la, ra⟩ := hx1
        obtain ⟨b, ys, rfl, nb, hb, lb, rb⟩ := hy1
        have tx : TyX K H1 (.ref a) (.type "list") := .base (.lst ha)
        have ty : TyX K H1 (.ref b) (.type "list") := .base (.lst hb)
        refine ⟨_, t, _, _, _, true, rfl, ht, cls, ty, kit_lt_list, true, rfl, ?_⟩
        refine iteT ?_
        refine ⟨_, rfl, _, _, _, _, true, rfl, .ty _, tx, kit_ty (by decide +kernel), _, rfl, _, _, _, _, true, rfl, .ty _, ty, kit_ty (by decide +kernel), rfl, _, rfl, ?_⟩
        refine iteF ?_
        refine ⟨_, rfl, _, _, _, _, false, rfl, .ty _, tx, kit_ty (by decide +kernel), _, rfl, _, _, _, _, false, rfl, .ty _, ty, kit_ty (by decide +kernel), rfl, _, rfl, ?_⟩
        refine iteF ?_
        have ln : xs.length = ys.length := (Paired.length ra).trans (Paired.length rb).symm
        refine ⟨_, rfl, a, xs, rfl, .inl (SqL.of ha), _, rfl, b, ys, rfl, .inl (SqL.of hb), rfl, _, rfl, ?_⟩
        rw [if_pos (decide_eq_true (by rw [ln]))]
        refine ⟨_, rfl, _, rfl, a, b, xs, ys, rfl, .inl ⟨SqL.of ha, SqL.of hb, fun D nD => lc_it (walk_zip (n := xs.length) (by omega)) (fun i H' => Same H1 H' ∧ H' D = some (.lst ((List.replicate i true).map V.bl))) ⟨same_upd nD, upd_same⟩ (fun i H' _ q => ⟨q.1.seq (SqL.of ha), q.1.seq (SqL.of hb)⟩) ?_ ?_⟩⟩
        · rintro i z H2 H3 hi ⟨sm, hD⟩ ⟨T2, u, v, rfl, nT, rfl, gu, gv⟩
          obtain ⟨du, e1, r1⟩ := paired_get ra gu
          obtain ⟨dv, e2, r2⟩ := paired_get rb gv
          have e3 : du = dv := Option.some.inj (e1.symm.trans e2)
          subst e3
          have sm3 : Same H1 (upd H2 T2 (.tup [u, v])) := sm.trans (same_upd nT)
          refine ⟨T2, _, rfl, SqT.of upd_same, rfl, _, _, rfl, _, _, rfl, rfl, rfl, _, rfl, _, rfl, p, u, v, du, rfl, r1.same sm3, r2.same sm3, fun H4 s4 => ?_⟩
          have hD4 := s4 _ _ ((same_upd nT) _ _ hD)
          have i63 : ((List.replicate i true).map V.bl).length < sizeLine := by
            rw [List.length_map, List.length_replicate]
            exact Nat.lt_of_lt_of_le hi (Nat.le_trans la (by decide))
          refine ⟨_, hD4, i63, same_mut (sm3.trans s4) nD, ?_⟩
          rw [upd_same, List.replicate_succ', List.map_append]
          rfl
        · rintro H2 ⟨sm, hD⟩
          refine ⟨D, _, rfl, SqL.of hD, ?_⟩
          rw [ands_all]
          exact k _ (s1.trans sm)
      | tuple ds =>
        obtain ⟨a, xs, rfl, na, ha, la, ra⟩ := hx1
        obtain ⟨b, ys, rfl, nb, hb, lb, rb⟩ := hy1
        have tx : TyX K H1 (.ref a) (.type "tuple") := .base (.tup ha)
        have ty : TyX K H1 (.ref b) (.type "tuple") := .base (.tup hb)
        refine ⟨_, t, _, _, _, true, rfl, ht, cls, ty, kit_lt_tuple, true, rfl, ?_⟩
        refine iteT ?_
        refine ⟨_, rfl, _, _, _, _, false, rfl, .ty _, tx, kit_ty (by decide +kernel), _, rfl, _, _, _, _, false, rfl, .ty _, ty, kit_ty (by decide +kernel), rfl, _, rfl, ?_⟩
        refine iteF ?_
        refine ⟨_, rfl, _, _, _, _, true, rfl, .ty _, tx, kit_ty (by decide +kernel), _, rfl, _, _, _, _, true, rfl, .ty _, ty, kit_ty (by decide +kernel), rfl, _, rfl, ?_⟩
        refine iteF ?_
        have ln : xs.length = ys.length := (Paired.length ra).trans (Paired.length rb).symm
        refine ⟨_, rfl, a, xs, rfl, .inr (SqT.of ha), _, rfl, b, ys, rfl, .inr (SqT.of hb), rfl, _, rfl, ?_⟩
        rw [if_pos (decide_eq_true (by rw [ln]))]
        refine ⟨_, rfl, _, rfl, a, b, xs, ys, rfl, .inr ⟨SqT.of ha, SqT.of hb, fun D nD => lc_it (walk_zipT (n := xs.length) (by omega)) (fun i H' => Same H1 H' ∧ H' D = some (.lst ((List.replicate i true).map V.bl))) ⟨same_upd nD, upd_same⟩ (fun i H' _ q => ⟨same_seqT q.1 (SqT.of ha), same_seqT q.1 (SqT.of hb)⟩) ?_ ?_⟩⟩
        · rintro i z H2 H3 hi ⟨sm, hD⟩ ⟨T2, u, v, rfl, nT, rfl, gu, gv⟩
          obtain ⟨du, e1, r1⟩ := paired_get ra gu
          obtain ⟨dv, e2, r2⟩ := paired_get rb gv
          have e3 : du = dv := Option.some.inj (e1.symm.trans e2)
          subst e3
          have sm3 : Same H1 (upd H2 T2 (.tup [u, v])) := sm.trans (same_upd nT)
          refine ⟨T2, _, rfl, SqT.of upd_same, rfl, _, _, rfl, _, _, rfl, rfl, rfl, _, rfl, _, rfl, p, u, v, du, rfl, r1.same sm3, r2.same sm3, fun H4 s4 => ?_⟩
          have hD4 := s4 _ _ ((same_upd nT) _ _ hD)
          have i63 : ((List.replicate i true).map V.bl).length < sizeLine := by
            rw [List.length_map, List.length_replicate]
            exact Nat.lt_of_lt_of_le hi (Nat.le_trans la (by decide))
          refine ⟨_, hD4, i63, same_mut (sm3.trans s4) nD, ?_⟩
          rw [upd_same, List.replicate_succ', List.map_append]
          rfl
        · rintro H2 ⟨sm, hD⟩
          refine ⟨D, _, rfl, SqL.of hD, ?_⟩
          rw [ands_all]
          exact k _ (s1.trans sm)
      | none =>
        have ex : x = .non := hx1
        have ey : y = .non := hy1
        subst ex ey
        refine ⟨_, t, _, _, _, false, rfl, ht, cls, .base (.non), kit_lt_no (by decide +kernel) (by decide +kernel), false, rfl, ?_⟩
        refine iteF ?_
        refine ⟨_, rfl, rfl, true, rfl, ?_⟩
        refine iteT ?_
        refine ⟨_, rfl, rfl, true, rfl, ?_⟩
        refine iteT ?_
        exact ⟨_, rfl, rfl, k _ s1⟩
      | bool b =>
        have ex : x = .bl b := hx1
        have ey : y = .bl b := hy1
        subst ex ey
        refine ⟨_, t, _, _, _, false, rfl, ht, cls, .base (.bl _), kit_lt_no (by decide +kernel) (by decide +kernel), false, rfl, ?_⟩
        refine iteF ?_
        refine ⟨_, rfl, rfl, false, rfl, ?_⟩
        refine iteF ?_
        refine ⟨_, rfl, rfl, false, rfl, ?_⟩
        refine iteF ?_
        refine ⟨_, rfl, _, _, _, _, true, rfl, .ty _, .base (.bl _), kit_ty (by decide +kernel), _, rfl, _, _, _, _, true, rfl, .ty _, .base (.bl _), kit_ty (by decide +kernel), rfl, _, rfl, ?_⟩
        refine iteF ?_
        refine ⟨_, rfl, _, _, _, _, true, rfl, .ty _, .base (.bl _), kit_ty (by decide +kernel), _, rfl, _, _, _, _, true, rfl, .ty _, .base (.bl _), kit_ty (by decide +kernel), rfl, _, rfl, ?_⟩
        refine iteF ?_
        refine ⟨_, rfl, _, _, _, _, false, rfl, .ty _, .base (.bl _), kit_ty (by decide +kernel), _, rfl, _, _, _, _, false, rfl, .ty _, .base (.bl _), kit_ty (by decide +kernel), rfl, _, rfl, ?_⟩
        refine iteT ?_
        refine ⟨_, rfl, _, rfl, rfl, ?_⟩
        rw [decide_eq_true rfl]
        exact k _ s1
      | int i =>
        have ex : x = .int i := hx1
        have ey : y = .int i := hy1
        subst ex ey
        refine ⟨_, t, _, _, _, false, rfl, ht, cls, .base (.int _), kit_lt_no (by decide +kernel) (by decide +kernel), false, rfl, ?_⟩
        refine iteF ?_
        refine ⟨_, rfl, rfl, false, rfl, ?_⟩
        refine iteF ?_
        refine ⟨_, rfl, rfl, false, rfl, ?_⟩
        refine iteF ?_
        refine ⟨_, rfl, _, _, _, _, false, rfl, .ty _, .base (.int _), kit_ty (by decide +kernel), _, rfl, _, _, _, _, false, rfl, .ty _, .base (.int _), kit_ty (by decide +kernel), rfl, _, rfl, ?_⟩
        refine iteF ?_
        refine ⟨_, rfl, _, _, _, _, true, rfl, .ty _, .base (.int _), kit_ty (by decide +kernel), _, rfl, _, _, _, _, true, rfl, .ty _, .base (.int _), kit_ty (by decide +kernel), rfl, _, rfl, ?_⟩
        refine iteF ?_
        refine ⟨_, rfl, _, _, _, _, false, rfl, .ty _, .base (.int _), kit_ty (by decide +kernel), _, rfl, _, _, _, _, false, rfl, .ty _, .base (.int _), kit_ty (by decide +kernel), rfl, _, rfl, ?_⟩
        refine iteT ?_
        refine ⟨_, rfl, _, rfl, rfl, ?_⟩
        rw [decide_eq_true rfl]
        exact k _ s1
      | str z =>
        have ex : x = .str z := hx1
        have ey : y = .str z := hy1
        subst ex ey
        refine ⟨_, t, _, _, _, false, rfl, ht, cls, .base (.str _), kit_lt_no (by decide +kernel) (by decide +kernel), false, rfl, ?_⟩
        refine iteF ?_
        refine ⟨_, rfl, rfl, false, rfl, ?_⟩
        refine iteF ?_
        refine ⟨_, rfl, rfl, false, rfl, ?_⟩
        refine iteF ?_
        refine ⟨_, rfl, _, _, _, _, false, rfl, .ty _, .base (.str _), kit_ty (by decide +kernel), _, rfl, _, _, _, _, false, rfl, .ty _, .base (.str _), kit_ty (by decide +kernel), rfl, _, rfl, ?_⟩
        refine iteF ?_
        refine ⟨_, rfl, _, _, _, _, false, rfl, .ty _, .base (.str _), kit_ty (by decide +kernel), _, rfl, _, _, _, _, false, rfl, .ty _, .base (.str _), kit_ty (by decide +kernel), rfl, _, rfl, ?_⟩
        refine iteF ?_
        refine ⟨_, rfl, _, _, _, _, true, rfl, .ty _, .base (.str _), kit_ty (by decide +kernel), _, rfl, _, _, _, _, true, rfl, .ty _, .base (.str _), kit_ty (by decide +kernel), rfl, _, rfl, ?_⟩
        refine iteT ?_
        refine ⟨_, rfl, _, rfl, rfl, ?_⟩
        rw [decide_eq_true rfl]
        exact k _ s1
      | dict z => exact hx1.elim

/-! ### texts as lists of code points -/
theorem isAlpha128 : ∀ c, c < 128 → Unicode.isAlpha c = ((decide (65 ≤ c) && decide (c ≤ 90)) || (decide (97 ≤ c) && decide (c ≤ 122))) := by decide +kernel
theorem isLower128 : ∀ c, c < 128 → Unicode.isLower c = (decide (97 ≤ c) && decide (c ≤ 122)) := by decide +kernel
theorem isUT128 : ∀ c, c < 128 → (Unicode.isUpper c || Unicode.isTitle c) = (decide (65 ≤ c) && decide (c ≤ 90)) := by decide +kernel
theorem isDigit128 : ∀ c, c < 128 → Unicode.isDigit c = (decide (48 ≤ c) && decide (c ≤ 57)) := by decide +kernel
/-- a name: 1 to 8 small letters -/
def IsNm (l : List Nat) : Prop := 1 ≤ l.length ∧ l.length ≤ 8 ∧ ∀ c ∈ l, 97 ≤ c ∧ c ≤ 122
/-- what is_name tells of a text -/
def nmB (z : Str) : Bool := decide (z.length ≤ 8) && (Txt.isascii z && (Txt.isalpha z && Txt.islower z))
theorem S_ascii (l : List Nat) : Txt.isascii (SX.S l) = l.all (fun c => decide (c < 128)) := by
  unfold Txt.isascii
  rw [← Array.all_toList]
theorem S_alpha (l : List Nat) : Txt.isalpha (SX.S l) = (decide (l.length > 0) && l.all Unicode.isAlpha) := by
  unfold Txt.isalpha
  rw [← Array.all_toList, SX.S_len]
theorem S_lower (l : List Nat) : Txt.islower (SX.S l) = (l.any Unicode.isLower && !l.any fun c => Unicode.isUpper c || Unicode.isTitle c) := by
  unfold Txt.islower
  rw [← Array.any_toList, ← Array.any_toList]
theorem S_digit (l : List Nat) : Txt.isdigit (SX.S l) = (decide (l.length > 0) && l.all Unicode.isDigit) := by
  unfold Txt.isdigit
  rw [← Array.all_toList, SX.S_len]
theorem nm_yes {l : List Nat} (h : IsNm l) : nmB (SX.S l) = true := by
  obtain ⟨h1, h2, h3⟩ := h
  unfold nmB
  rw [S_ascii, S_alpha, S_lower, SX.S_len, decide_eq_true h2, decide_eq_true (show l.length > 0 from h1)]
  have a1 : l.all (fun c => decide (c < 128)) = true := List.all_eq_true.mpr fun c hc => decide_eq_true (by have := h3 c hc; omega)
  have a2 : l.all Unicode.isAlpha = true := List.all_eq_true.mpr fun c hc => by
    have := h3 c hc
    rw [isAlpha128 c (by omega), decide_eq_true this.1, decide_eq_true this.2]
    simp
  have a3 : l.any Unicode.isLower = true := by
    cases l with
    | nil => simp at h1
    | cons x r =>
      have := h3 x (List.mem_cons_self ..)
      rw [List.any_cons, isLower128 x (by omega), decide_eq_true this.1, decide_eq_true this.2]
      rfl
  have a4 : (l.any fun c => Unicode.isUpper c || Unicode.isTitle c) = false := List.any_eq_false.mpr fun c hc => by
    have := h3 c hc
    rw [isUT128 c (by omega), decide_eq_false (show ¬ c ≤ 90 by omega), Bool.and_false]
    exact Bool.false_ne_true
  rw [a1, a2, a3, a4]
  rfl
/-- a sign that is no small letter spoils it -/
theorem nm_bad {l : List Nat} {c : Nat} (hc : c ∈ l) (h1 : c < 97) : nmB (SX.S l) = false := by
  unfold nmB
  rw [S_ascii, S_alpha, S_lower, SX.S_len]
  by_cases a : l.all Unicode.isAlpha = true
  · have ca := List.all_eq_true.mp a c hc
    rw [isAlpha128 c (by omega), decide_eq_false (show ¬ 97 ≤ c by omega), Bool.false_and, Bool.or_false] at ca
    have au : (l.any fun c => Unicode.isUpper c || Unicode.isTitle c) = true := List.any_eq_true.mpr ⟨c, hc, by rw [isUT128 c (by omega)]; exact ca⟩
    rw [au, Bool.not_true, Bool.and_false, Bool.and_false, Bool.and_false, Bool.and_false]
  · rw [Bool.eq_false_iff.mpr a, Bool.and_false, Bool.false_and, Bool.and_false, Bool.and_false]
theorem nm_long {l : List Nat} (h : 8 < l.length) : nmB (SX.S l) = false := by
  unfold nmB
  rw [SX.S_len, decide_eq_false (show ¬ l.length ≤ 8 by omega), Bool.false_and]
theorem nm_nil : nmB (SX.S []) = false := by decide +kernel
/-- what number_in gives for a text -/
def niO (l : List Nat) : Option Int :=
  if l.length ≤ 18 ∧ l ≠ [] ∧ (l.all fun c => decide (48 ≤ c) && decide (c ≤ 57)) = true ∧ ¬ (l.head? = some 48 ∧ 1 < l.length) then some ((NumText.digitsVal l : Nat) : Int) else none
def oV : Option Int → V
  | some i => .int i
  | none => .non
theorem niO_mem {l : List Nat} {c : Nat} (hc : c ∈ l) (h : ¬ (48 ≤ c ∧ c ≤ 57)) : niO l = none := if_neg fun ⟨_, _, b, _⟩ => by
  have := List.all_eq_true.mp b c hc
  rw [Bool.and_eq_true] at this
  exact h ⟨of_decide_eq_true this.1, of_decide_eq_true this.2⟩
theorem niO_zero {l : List Nat} (h : l ≠ []) : niO (48 :: l) = none := if_neg fun ⟨_, _, _, z⟩ => z ⟨rfl, by
  rw [List.length_cons]
  have := List.length_pos_iff.mpr h
  omega⟩
theorem niO_some {l : List Nat} (h1 : l.length ≤ 18) (h2 : l ≠ []) (h3 : (l.all fun c => decide (48 ≤ c) && decide (c ≤ 57)) = true) (h4 : ¬ (l.head? = some 48 ∧ 1 < l.length)) : niO l = some ((NumText.digitsVal l : Nat) : Int) := if_pos ⟨h1, h2, h3, h4⟩

/-! ### the program's numbers.py -/
def isS : V → Bool
  | .str _ => true
  | _ => false
def isI : V → Bool
  | .int _ => true
  | .bl _ => true
  | _ => false
def isB : V → Bool
  | .bl _ => true
  | _ => false
/-- what isinstance is asked about -/
structure Kin (K : PySem.W.Frag) (H : Hp) (v : V) (t : Value) : Prop where
  ty : TyX K H v t
  s : PySem.W.kitOne K t (.type "str") = some (isS v)
  i : PySem.W.kitOne K t (.type "int") = some (isI v)
  b : PySem.W.kitOne K t (.type "bool") = some (isB v)
theorem kin_non {K : PySem.W.Frag} {H : Hp} : Kin K H .non (.type "NoneType") := ⟨.base .non, kit_ty (r := false) (by decide +kernel), kit_ty (r := false) (by decide +kernel), kit_ty (r := false) (by decide +kernel)⟩
theorem kin_bl {K : PySem.W.Frag} {H : Hp} {b : Bool} : Kin K H (.bl b) (.type "bool") := ⟨.base (.bl b), kit_ty (r := false) (by decide +kernel), kit_ty (r := true) (by decide +kernel), kit_ty (r := true) (by decide +kernel)⟩
theorem kin_int {K : PySem.W.Frag} {H : Hp} {i : Int} : Kin K H (.int i) (.type "int") := ⟨.base (.int i), kit_ty (r := false) (by decide +kernel), kit_ty (r := true) (by decide +kernel), kit_ty (r := false) (by decide +kernel)⟩
theorem kin_str {K : PySem.W.Frag} {H : Hp} {z : Str} : Kin K H (.str z) (.type "str") := ⟨.base (.str z), kit_ty (r := true) (by decide +kernel), kit_ty (r := false) (by decide +kernel), kit_ty (r := false) (by decide +kernel)⟩
theorem kin_lst {K : PySem.W.Frag} {H : Hp} {a : Addr} {xs : List V} (h : H a = some (.lst xs)) : Kin K H (.ref a) (.type "list") := ⟨.base (.lst h), kit_ty (r := false) (by decide +kernel), kit_ty (r := false) (by decide +kernel), kit_ty (r := false) (by decide +kernel)⟩
theorem kin_tup {K : PySem.W.Frag} {H : Hp} {a : Addr} {xs : List V} (h : H a = some (.tup xs)) : Kin K H (.ref a) (.type "tuple") := ⟨.base (.tup h), kit_ty (r := false) (by decide +kernel), kit_ty (r := false) (by decide +kernel), kit_ty (r := false) (by decide +kernel)⟩
def numB : V → Int → Int → Bool
  | .int i, lo, hi => decide (lo ≤ i) && decide (i ≤ hi)
  | _, _, _ => false
def spIsNum (K : PySem.W.Frag) : Sp := fun vs H Q _ => ∃ (v : V) (t : Value) (lo hi : Int), vs = [v, .int lo, .int hi] ∧ Kin K H v t ∧ Q (.bl (numB v lo hi)) H
structure TxN (mg : Str → Option Value) : Prop where
  len : mg "len" = none
  isinstance : mg "isinstance" = none
  bool : mg "bool" = none
  int : mg "int" = none
  str : mg "str" = none
theorem scIsNum : FnScope ["value", "least", "most"] ["value", "least", "most"] (defScope sIsNum) := ⟨rfl, rfl, rfl, by decide +kernel, rfl, by decide +kernel, by decide +kernel⟩
theorem ok_isnum {f : Addr} {fd : FuncData} {k : Nat} {dvs : List V} {kws : List (Str × V)} (F : FunD K "is_number" "is_number" (defArgs sIsNum) (defBody sIsNum) (defScope sIsNum) dvs kws f fd) (T : TxN mg) : FnOk P w K mg base CX0 (k + 1) f fd ["value", "least", "most"] (spIsNum K) := by
  refine F.ok scIsNum (fun vs H Q E h => ?_) (fun cdv A outer s H vs Q E hr h => ?_)
  · obtain ⟨v, t, lo, hi, rfl, _⟩ := h
    rfl
  · obtain ⟨v, t, lo, hi, rfl, kn, q⟩ := h
    refine ⟨_, PSs.nox (pss_one (ps_ret (pe_and (pe_callB call_isi (by rfl) T.isinstance PyProof.Rows.boot_isinstance (pa_cons (pv 0) (pa_cons (pe_bltn (v := .ty "int") (by rfl) T.int PyProof.Rows.boot_int rfl) pa_nil))) (pe_and (pe_not (pe_callB call_isi (by rfl) T.isinstance PyProof.Rows.boot_isinstance (pa_cons (pv 0) (pa_cons (pe_bltn (v := .ty "bool") (by rfl) T.bool PyProof.Rows.boot_bool rfl) pa_nil)))) (pe_one (pe_chain op_le op_le (pv 1) (pv 0) (pv 2))))))), ?_⟩
    refine ⟨_, rfl, _, _, _, _, _, rfl, .ty _, kn.ty, kn.i, _, rfl, ?_⟩
    cases v with
    | int i =>
      refine iteT ⟨_, rfl, _, _, _, _, _, rfl, .ty _, kn.ty, kn.b, _, rfl, _, rfl, iteT ?_⟩
      refine ⟨_, rfl, _, rfl, _, _, rfl, rfl, _, rfl, ?_⟩
      have e : numB (.int i) lo hi = (decide (lo ≤ i) && decide (i ≤ hi)) := rfl
      rw [e] at q
      by_cases h1 : lo ≤ i
      · rw [decide_eq_true h1] at q ⊢
        refine iteT ⟨_, rfl, _, _, rfl, rfl, ?_⟩
        exact q
      · rw [decide_eq_false h1] at q ⊢
        exact iteF q
    | bl b => exact iteT ⟨_, rfl, _, _, _, _, _, rfl, .ty _, kn.ty, kn.b, _, rfl, _, rfl, iteF q⟩
    | non => exact iteF q
    | str z => exact iteF q
    | byt z => exact iteF q
    | flt z => exact iteF q
    | ref z => exact iteF q
    | ty z => exact iteF q
def nmR : V → Bool
  | .str z => nmB z
  | _ => false
def niR : V → V
  | .str z => oV (niO z.cps.toList)
  | _ => .non
def spIsName (K : PySem.W.Frag) : Sp := fun vs H Q _ => ∃ (v : V) (t : Value), vs = [v] ∧ Kin K H v t ∧ (∀ z, v = .str z → z.length ≤ 1000) ∧ Q (.bl (nmR v)) H
theorem scIsName : FnScope ["value"] ["value"] (defScope sIsName) := ⟨rfl, rfl, rfl, by decide +kernel, rfl, by decide +kernel, by decide +kernel⟩
theorem ok_isname {f : Addr} {fd : FuncData} {k : Nat} {tk : Tok} (F : Fun K "is_name" "is_name" sIsName f fd) (T : TxN mg) (mL : mg "MOST_LETTERS" = some (.int 8 tk)) : FnOk P w K mg base CX0 (k + 1) f fd ["value"] (spIsName K) := by
  refine F.ok scIsName (fun vs H Q E h => ?_) (fun cdv A outer s H vs Q E hr h => ?_)
  · obtain ⟨v, t, rfl, _⟩ := h
    rfl
  · obtain ⟨v, t, rfl, kn, hz, q⟩ := h
    refine ⟨_, (pss_cons (ps_if (PW.pt (pw_or (pt_not (pt_val (pe_callB call_isi (by rfl) T.isinstance PyProof.Rows.boot_isinstance (pa_cons (pv 0) (pa_cons (pe_bltn (v := .ty "str") (by rfl) T.str PyProof.Rows.boot_str rfl) pa_nil))))) (pw_or1 (pt_cmpR op_gt (pe_callB call_len_str (by rfl) T.len PySem.boot_len (pa_cons (pv 0) pa_nil)) (pe_glob (v := .int 8) (by rfl) mL ⟨_, rfl⟩) (nomark _))))) (pss_one (ps_ret pe_bl)) pss_nil)
 (pss_one (ps_ret (pe_and (pe_bm0 PySem.F.plainAttrs_str PySem.F.slot_str_isascii PySem.F.type_str_isascii mt_isascii (pv 0)) (pe_and (pe_bm0 PySem.F.plainAttrs_str PySem.F.slot_str_isalpha PySem.F.type_str_isalpha mt_isalpha (pv 0)) (pe_one (pe_bm0 PySem.F.plainAttrs_str PySem.F.slot_str_islower PySem.F.type_str_islower mt_islower (pv 0)))))))), ?_⟩
    refine ⟨_, rfl, _, _, _, _, _, rfl, .ty _, kn.ty, kn.s, _, rfl, ?_⟩
    cases v with
    | str z =>
      have lz := hz z rfl
      refine iteF ⟨_, rfl, _, rfl, Nat.le_trans lz (by decide), _, _, rfl, rfl, _, rfl, ?_⟩
      have e : nmR (.str z) = (decide (z.length ≤ 8) && (Txt.isascii z && (Txt.isalpha z && Txt.islower z))) := rfl
      rw [e] at q
      by_cases h1 : z.length ≤ 8
      · rw [decide_eq_true h1] at q
        rw [decide_eq_false (show ¬ ((8 : Int) < (z.length : Nat)) by omega)]
        refine iteF ⟨_, rfl, rfl, _, rfl, rfl, trivial, _, rfl, ?_⟩
        cases h2 : Txt.isascii z with
        | false =>
          rw [h2] at q
          exact iteF q
        | true =>
          rw [h2] at q
          refine iteT ⟨_, rfl, rfl, _, rfl, rfl, trivial, _, rfl, ?_⟩
          cases h3 : Txt.isalpha z with
          | false =>
            rw [h3] at q
            exact iteF q
          | true =>
            rw [h3] at q
            exact iteT ⟨_, rfl, rfl, _, rfl, rfl, trivial, q⟩
      · rw [decide_eq_false h1] at q
        rw [decide_eq_true (show ((8 : Int) < (z.length : Nat)) by omega)]
        exact iteT q
    | int i => exact iteT q
    | bl b => exact iteT q
    | non => exact iteT q
    | byt z => exact iteT q
    | flt z => exact iteT q
    | ref z => exact iteT q
    | ty z => exact iteT q
def spNumIn (K : PySem.W.Frag) : Sp := fun vs H Q _ => ∃ (v : V) (t : Value), vs = [v] ∧ Kin K H v t ∧ (∀ z, v = .str z → ∃ l, z = SX.S l ∧ l.length ≤ 1000) ∧ Q (niR v) H
theorem scNumIn : FnScope ["text"] ["text"] (defScope sNumIn) := ⟨rfl, rfl, rfl, by decide +kernel, rfl, by decide +kernel, by decide +kernel⟩
theorem nodig {l : List Nat} (h : (Txt.isascii (SX.S l) && Txt.isdigit (SX.S l)) = true) : l ≠ [] ∧ (l.all fun c => decide (48 ≤ c) && decide (c ≤ 57)) = true := by
  rw [S_ascii, S_digit, Bool.and_eq_true, Bool.and_eq_true] at h
  obtain ⟨h1, h2, h3⟩ := h
  refine ⟨fun e => by subst e; simp at h2, List.all_eq_true.mpr fun c hc => ?_⟩
  have a := of_decide_eq_true (List.all_eq_true.mp h1 c hc)
  rw [← isDigit128 c a]
  exact List.all_eq_true.mp h3 c hc
theorem yesdig {l : List Nat} (h0 : l ≠ []) (h : (l.all fun c => decide (48 ≤ c) && decide (c ≤ 57)) = true) : Txt.isascii (SX.S l) = true ∧ Txt.isdigit (SX.S l) = true := by
  have g : ∀ c ∈ l, 48 ≤ c ∧ c ≤ 57 := fun c hc => by
    have := List.all_eq_true.mp h c hc
    rw [Bool.and_eq_true] at this
    exact ⟨of_decide_eq_true this.1, of_decide_eq_true this.2⟩
  rw [S_ascii, S_digit, Bool.and_eq_true]
  refine ⟨List.all_eq_true.mpr fun c hc => decide_eq_true (by have := g c hc; omega), decide_eq_true (List.length_pos_iff.mpr h0), List.all_eq_true.mpr fun c hc => ?_⟩
  have := g c hc
  rw [isDigit128 c (by omega), decide_eq_true this.1, decide_eq_true this.2]
  rfl
theorem ok_numin {f : Addr} {fd : FuncData} {k : Nat} {tk : Tok} (F : Fun K "number_in" "number_in" sNumIn f fd) (T : TxN mg) (mF : mg "MOST_FIGURES" = some (.int 18 tk)) : FnOk P w K mg base CX0 (k + 1) f fd ["text"] (spNumIn K) := by
  refine F.ok scNumIn (fun vs H Q E h => ?_) (fun cdv A outer s H vs Q E hr h => ?_)
  · obtain ⟨v, t, rfl, _⟩ := h
    rfl
  · obtain ⟨v, t, rfl, kn, hz, q⟩ := h
    refine ⟨_, (pss_cons (ps_if (PW.pt (pw_or (pt_not (pt_val (pe_callB call_isi (by rfl) T.isinstance PyProof.Rows.boot_isinstance (pa_cons (pv 0) (pa_cons (pe_bltn (v := .ty "str") (by rfl) T.str PyProof.Rows.boot_str rfl) pa_nil))))) (pw_or1 (pt_cmpR op_gt (pe_callB call_len_str (by rfl) T.len PySem.boot_len (pa_cons (pv 0) pa_nil)) (pe_glob (v := .int 18) (by rfl) mF ⟨_, rfl⟩) (nomark _))))) (pss_one (ps_ret pe_non)) pss_nil)
 (pss_cons (ps_if (PW.pt (pw_or (pt_not (pt_val (pe_bm0 PySem.F.plainAttrs_str PySem.F.slot_str_isascii PySem.F.type_str_isascii mt_isascii (pv 0)))) (pw_or1 (pt_not (pt_val (pe_bm0 PySem.F.plainAttrs_str PySem.F.slot_str_isdigit PySem.F.type_str_isdigit mt_isdigit (pv 0))))))) (pss_one (ps_ret pe_non)) pss_nil)
 (pss_cons (ps_if (PW.pt (pw_and (pt_cmpR op_eq (pe_ix ix_str (pv 0) pe_int (fun _ _ => rfl)) pe_str (nomark _)) (pw_and1 (pt_cmpR op_gt (pe_callB call_len_str (by rfl) T.len PySem.boot_len (pa_cons (pv 0) pa_nil)) pe_int (nomark _))))) (pss_one (ps_ret pe_non)) pss_nil)
 (pss_one (ps_ret (pe_callTy call_int_str (by rfl) T.int PyProof.Rows.boot_int (pa_cons (pv 0) pa_nil))))))), ?_⟩
    refine ⟨_, rfl, _, _, _, _, _, rfl, .ty _, kn.ty, kn.s, _, rfl, ?_⟩
    cases v with
    | str z =>
      obtain ⟨l, rfl, ll⟩ := hz z rfl
      have el : (SX.S l).length = l.length := SX.S_len l
      have q : Q (oV (niO l)) H := q
      refine iteF ⟨_, rfl, _, rfl, by rw [el]; exact Nat.le_trans ll (by decide), _, _, rfl, rfl, _, rfl, ?_⟩
      rw [el]
      by_cases h1 : l.length ≤ 18
      · rw [decide_eq_false (show ¬ ((18 : Int) < (l.length : Nat)) by omega)]
        refine iteF ⟨_, rfl, rfl, _, rfl, rfl, trivial, _, rfl, ?_⟩
        cases h2 : Txt.isascii (SX.S l) with
        | false =>
          have e : niO l = none := if_neg fun ⟨_, a, b, _⟩ => by rw [(yesdig a b).1] at h2; cases h2
          rw [e] at q
          exact iteT q
        | true =>
          refine iteF ⟨_, rfl, rfl, _, rfl, rfl, trivial, _, rfl, ?_⟩
          cases h3 : Txt.isdigit (SX.S l) with
          | false =>
            have e : niO l = none := if_neg fun ⟨_, a, b, _⟩ => by rw [(yesdig a b).2] at h3; cases h3
            rw [e] at q
            exact iteT q
          | true =>
            obtain ⟨n0, dg⟩ := nodig (l := l) (by rw [h2, h3]; rfl)
            cases l with
            | nil => exact absurd rfl n0
            | cons c r =>
              refine iteF ⟨_, rfl, _, 0, c, rfl, rfl, by rw [el]; exact Nat.le_trans ll (by decide), atI_nat (j := 0) rfl, rfl, _, rfl, ?_⟩
              have ce : (V.str ⟨#[c]⟩ = V.str ("0" : Str)) ↔ c = 48 := by
                have z48 : ("0" : Str) = SX.S [48] := by decide +kernel
                rw [z48]
                exact ⟨fun e => by
                  injection e with e
                  have := SX.S_inj (a := [c]) (b := [48]) e
                  injection this, fun e => by rw [e]⟩
              have it := SX.int_S dg n0 (by omega)
              have last : ¬ ((c :: r).head? = some 48 ∧ 1 < (c :: r).length) → Q (.int ((NumText.digitsVal (c :: r) : Nat) : Int)) H := fun nz => by
                rw [show niO (c :: r) = some ((NumText.digitsVal (c :: r) : Nat) : Int) from if_pos ⟨h1, n0, dg, nz⟩] at q
                exact q
              refine ite2 (fun e0 => ?_) (fun e0 => ?_)
              · have c48 : c = 48 := ce.mp (of_decide_eq_true e0)
                subst c48
                refine ⟨_, rfl, _, rfl, by rw [el]; exact Nat.le_trans ll (by decide), _, _, rfl, rfl, _, rfl, ?_⟩
                rw [el]
                by_cases h4 : 1 < (48 :: r).length
                · rw [decide_eq_true (show ((1 : Int) < ((48 :: r).length : Nat)) by omega)]
                  have e : niO (48 :: r) = none := if_neg fun ⟨_, _, _, z⟩ => z ⟨rfl, h4⟩
                  rw [e] at q
                  exact iteT q
                · rw [decide_eq_false (show ¬ ((1 : Int) < ((48 :: r).length : Nat)) by omega)]
                  exact iteF ⟨_, rfl, _, _, rfl, it, by rw [el]; omega, last fun z => h4 z.2⟩
              · exact ⟨_, rfl, _, _, rfl, it, by rw [el]; omega, last fun z => e0 (decide_eq_true (ce.mpr (Option.some.inj z.1)))⟩
      · rw [decide_eq_true (show ((18 : Int) < (l.length : Nat)) by omega)]
        have e : niO l = none := if_neg fun ⟨a, _⟩ => h1 a
        rw [e] at q
        exact iteT q
    | int i => exact iteT q
    | bl b => exact iteT q
    | non => exact iteT q
    | byt z => exact iteT q
    | flt z => exact iteT q
    | ref z => exact iteT q
    | ty z => exact iteT q

theorem op_mul_str {X : Cx} : OpR X (binaryOp .Mult) (fun x y H Q => ∃ (z : Str) (n : Int), x = .str z ∧ y = .int n ∧ MulOk z n ∧ Q (.str (Txt.mul z n)) H) := by
  intro pins s σ H x y v u Q I rx ry h
  obtain ⟨z, n, rfl, rfl, ok, q⟩ := h
  obtain ⟨t, rfl⟩ := rx
  obtain ⟨t', rfl⟩ := ry
  exact SB.mul ok fun t' k => ⟨.str (Txt.mul z n), H, I.tok _, ⟨_, rfl⟩, q⟩
theorem mulOk_one {c : Nat} {n : Nat} (h : n ≤ 100) : MulOk ⟨#[c]⟩ (n : Int) := by
  refine ⟨?_, fun h1 _ => ?_, fun _ _ => ?_⟩
  · rw [Bool.or_eq_false_iff]
    exact ⟨decide_eq_false (by omega), decide_eq_false (by omega)⟩
  · show ¬ ((1 : Int) > (2 ^ 63 - 1) / (n : Int))
    have : (1 : Int) ≤ (2 ^ 63 - 1) / (n : Int) := (Int.le_ediv_iff_mul_le (by omega)).mpr (by omega)
    omega
  · show Builtin.Str.tooLong (1 * n) = false
    have : ∀ m, m ≤ 100 → Builtin.Str.tooLong (1 * m) = false := by decide +kernel
    exact this n h
theorem mul_one_S (c n : Nat) : Txt.mul (SX.S [c]) (n : Int) = SX.S (List.replicate n c) := by
  have e := PyProof.Rows.mul_one_list c (n : Int)
  rw [Int.toNat_natCast] at e
  exact (SX.S_tl (Txt.mul (SX.S [c]) (n : Int))).symm.trans (congrArg SX.S e)
/-! ### a call by keywords alone -/
theorem pe_callN0 {X : Cx} {CX : CXT} {k : Nat} {f : Addr} {fd : FuncData} {ps ks : List Str} {sp : Sp} {E : XK} {x : Str} {p pos : Pos} {kws : List Keyword} {tk : TA} {g : List Value → List Value → List Value} {gV : List V → List V → List V}
    (F : FnOk X.prog X.w X.K X.mg X.base CX k f fd ps sp) (hr : Room k X.A) (hg : Gl X x) (hm : X.mg x = some (.ref f)) (hk : PySem.W.keepIn X.K (.ref f) = true) (hb : KBn X.K fd ps 0 ks g gV) (hx : Passes CX X E)
    (hkw : PK X kws tk) (hall : (backToKw pos (keywordEach kws X.env)).all (·.1.isSome) = true := by rfl) (hks : (backToKw pos (keywordEach kws X.env)).filterMap (·.1) = ks := by rfl)
    (hdb : (x == ("__debug__" : Str)) = false := by decide)
    (hpl : ((backTo pos (starEach [] X.env)).any (·.1) || (backToKw pos (keywordEach kws X.env)).any (·.1.isNone)) = false := by rfl) :
    PE X (.Call (.Name x p) [] kws pos) (tCallN 0 ks.length sp gV E tNil tk) := by
  refine ⟨fun pins s σ H Q I h => ?_⟩
  refine wpAny_Call_Name_kw (ld_glob I hg hm ?_ hdb)
  refine PySem.W.callWith_KW0 (h₀ := X.base) I.ok.mod.kin hk hall (thn (hkw.run pos pins s σ H _ I h) fun ws s2 ⟨zs, H2, I2, rz, l1, l2, q2⟩ => ⟨I2.kIn, ?_⟩) hpl
  rw [hks]
  exact run_fnN (us := []) (vs := []) F hr hb hx I2 .nil rz l1 l2 q2

/-! ### drawn names -/
def nmV (l : List Nat) : V := .str (SX.S l)
def azL : List Nat := (List.range 26).map (· + 97)
theorem az_eq : ("abcdefghijklmnopqrstuvwxyz" : Str) = SX.S azL := by decide +kernel
theorem az_mem {c : Nat} (h : c ∈ azL) : 97 ≤ c ∧ c ≤ 122 := by
  obtain ⟨k, hk, rfl⟩ := List.mem_map.mp h
  have := List.mem_range.mp hk
  omega
theorem az_get {i : Nat} (h : i < 26) : azL[i]? = some (i + 97) := by
  unfold azL
  rw [List.getElem?_map, List.getElem?_range h]
  rfl
def nmAt (stem : List Nat) (a first k : Nat) : List Nat := stem.take a ++ ((first + 5 * k) % 26 + 97) :: stem.drop a
theorem nmAt_len {stem : List Nat} {a first k : Nat} : (nmAt stem a first k).length = stem.length + 1 := by
  unfold nmAt
  rw [List.length_append, List.length_cons, List.length_take, List.length_drop]
  omega
theorem nmAt_ok {stem : List Nat} {a first k : Nat} (h7 : stem.length ≤ 7) (h : ∀ c ∈ stem, 97 ≤ c ∧ c ≤ 122) : IsNm (nmAt stem a first k) := by
  refine ⟨by rw [nmAt_len]; omega, by rw [nmAt_len]; omega, fun c hc => ?_⟩
  rcases List.mem_append.mp hc with z | z
  · exact h c (List.mem_of_mem_take z)
  · rcases List.mem_cons.mp z with z | z
    · omega
    · exact h c (List.mem_of_mem_drop z)
theorem nmAt_ne {stem : List Nat} {a first i j : Nat} (hij : i < j) (hj : j < 26) : nmAt stem a first i ≠ nmAt stem a first j := fun e => by
  have e1 := List.append_cancel_left e
  injection e1 with e2
  omega
theorem nmAt_nd {stem : List Nat} {a first m : Nat} (hm : m ≤ 26) : ((List.range m).map (nmAt stem a first)).Nodup := by
  refine List.pairwise_map.mpr (List.Pairwise.imp_of_mem (fun {i j} _ hj h => nmAt_ne h ?_) List.pairwise_lt_range)
  have := List.mem_range.mp hj
  omega
theorem cut_to {a : List Nat} {i : Int} (h : 0 ≤ i) : cutS (SX.S a) none (some i) = SX.S (a.take i.toNat) := (C8.cutS_slice _ _ _).trans (SX.slice_to h)
theorem cut_from {a : List Nat} {i : Int} (h : 0 ≤ i) : cutS (SX.S a) (some i) none = SX.S (a.drop i.toNat) := (C8.cutS_slice _ _ _).trans (SX.slice_from h)
theorem joinL_flat : ∀ l : List Nat, TL.joinL [] (l.map fun c => [c]) = l
  | [] => rfl
  | [x] => rfl
  | x :: y :: r => by
    have ih := joinL_flat (y :: r)
    show [x] ++ [] ++ TL.joinL [] ((y :: r).map fun c => [c]) = x :: y :: r
    rw [ih]
    rfl
theorem join_flat (l : List Nat) : Txt.join (SX.S []) (l.map fun c => SX.S [c]) = SX.S l := by
  have e := SX.join_S [] (l.map fun c => [c])
  rw [List.map_map, joinL_flat] at e
  exact e
def spNames : Sp := fun vs H Q _ => ∃ (p q : Addr) (m : Nat), vs = [.ref p, .int (m : Nat)] ∧ Bag H p q ∧ m ≤ 26 ∧
  ∀ (r : Addr) (ls : List (List Nat)) H', ls.length = m → (∀ l ∈ ls, IsNm l) → ls.Nodup → H r = none → Bs p q H H' → H' r = some (.lst (ls.map nmV)) → Q (.ref r) H'
structure TxR (mg : Str → Option Value) : Prop where
  len : mg "len" = none
  int : mg "int" = none
  range : mg "range" = none
theorem scNames : FnScope ["_law_bag_here", "_law_many", "_law_letters", "_law_stem", "_law_at", "_law_first", "_law_k"] ["_law_bag_here", "_law_many"] (defScope sNames) := ⟨rfl, rfl, rfl, by decide +kernel, rfl, by decide +kernel, by decide +kernel⟩
theorem ok_names {f g1 g2 : Addr} {fd gd1 gd2 : FuncData} {k : Nat} (F : Fun K "_law_names" "_law_names" sNames f fd) (T : TxR mg)
    (FP : Fun K "_law_pull" "_law_pull" sPull g1 gd1) (bP : Binds K gd1 ["_law_bag_here", "_law_many"] []) (mP : mg "_law_pull" = some (.ref g1))
    (FK : Fun K "_law_pick" "_law_pick" sPick g2 gd2) (bK : Binds K gd2 ["_law_bag_here", "_law_rows"] []) (mK : mg "_law_pick" = some (.ref g2)) :
    FnOk P w K mg base CX0 (k + 3) f fd ["_law_bag_here", "_law_many"] spNames := by
  have TB : TxB mg := ⟨T.len, T.int⟩
  have GP : FnOk P w K mg base CX0 (k + 1) g1 gd1 ["_law_bag_here", "_law_many"] spPull := ok_pull FP TB
  have GL : FnOk P w K mg base CX0 (k + 2) g2 gd2 ["_law_bag_here", "_law_rows"] (spPickL K) := ok_pickL FK TB FP bP mP
  have GS : FnOk P w K mg base CX0 (k + 2) g2 gd2 ["_law_bag_here", "_law_rows"] spPickS := ok_pickS FK TB FP bP mP
  refine F.ok scNames (fun vs H Q E h => ?_) (fun cdv A outer s H vs Q E hr h => ?_)
  · obtain ⟨p, q, m, rfl, _⟩ := h
    rfl
  · obtain ⟨p, q, m, rfl, hB, hm, k⟩ := h
    have hr1 : Room _ _ := hr.mono (show _ + 1 ≤ _ from Nat.le_succ _)
    refine ⟨_, (pss_cons (ps_set (i := 2) scNames.nd rfl (Or.inr rfl) pe_str)
 (pss_cons (ps_set (i := 3) scNames.nd rfl (Or.inr rfl) (pe_join pe_str (pe_lc (own := [("_law_k", 6)]) (g := gName 6) (tt := tYes) rfl scNames.nd (pi_range1 (by rfl) T.range (pa_cons (pe_call GL hr (by rfl) mK FK.kp bK .nil pass0 (pa_cons (pv 0) (pa_cons (pe_lst (pa_cons pe_int (pa_cons pe_int (pa_cons pe_int (pa_cons pe_int (pa_cons pe_int pa_nil)))))) pa_nil))) pa_nil)) (blkOk_by (own := [("_law_k", 6)]) (N := ["_law_bag_here", "_law_many", "_law_letters", "_law_stem", "_law_at", "_law_first", "_law_k"]) (sc := defScope sNames) (by decide +kernel)) (fun _ _ _ _ _ => (pg_name (i := 6) scNames.nd rfl (Or.inl rfl))) (fun _ _ _ _ _ => pts_nil) (fun _ _ _ _ _ => (pe_call GS hr (by rfl) mK FK.kp bK .nil pass0 (pa_cons (pv 0) (pa_cons (pv 2) pa_nil)))))))
 (pss_cons (ps_asg (pe_tup (pa_cons (pe_call GP hr1 (by rfl) mP FP.kp bP .nil pass0 (pa_cons (pv 0) (pa_cons (pe_op op_add (pe_callB call_len_str (by rfl) T.len PySem.boot_len (pa_cons (pv 3) pa_nil)) pe_int) pa_nil))) (pa_cons (pe_call GP hr1 (by rfl) mP FP.kp bP .nil pass0 (pa_cons (pv 0) (pa_cons pe_int pa_nil))) pa_nil))) (pg_tup rfl (pgs_cons (pg_name (i := 4) scNames.nd rfl (Or.inr rfl)) (pgs_cons (pg_name (i := 5) scNames.nd rfl (Or.inr rfl)) pgs_nil))))
 (pss_one (ps_ret (pe_lc (own := [("_law_k", 6)]) (g := gName 6) (tt := tYes) rfl scNames.nd (pi_range1 (by rfl) T.range (pa_cons (pv 1) pa_nil)) (blkOk_by (own := [("_law_k", 6)]) (N := ["_law_bag_here", "_law_many", "_law_letters", "_law_stem", "_law_at", "_law_first", "_law_k"]) (sc := defScope sNames) (by decide +kernel)) (fun _ _ _ _ _ => (pg_name (i := 6) scNames.nd rfl (Or.inl rfl))) (fun _ _ _ _ _ => pts_nil) (fun _ _ _ _ _ => (pe_op op_add_str (pe_op op_add_str (pe_slice sl_str (pv 3) po_none (po_some (pv 4))) (pe_ix ix_str (pv 2) (pe_op op_mod (pe_callTy call_int1 (by rfl) T.int PyProof.Rows.boot_int (pa_cons (pe_op op_add (pv 5) (pe_op op_mul pe_int (pv 6))) pa_nil)) pe_int) (fun _ _ => rfl))) (pe_slice sl_str (pv 3) (po_some (pv 4)) po_none))))))))), ?_⟩
    refine ⟨⟨_, rfl⟩, _, rfl, (by show 5 ≤ sizeLine; decide), fun t nt => ?_⟩
    have b1 := (Bs.refl hB).new (o := .lst [.int 0, .int 0, .int 1, .int 3, .int 7]) nt
    refine ⟨p, q, t, _, rfl, b1.bag, hB.nn nt, SqL.of upd_same, by decide, by decide, fun x H1 hx b2 => ?_⟩
    have hx : ∃ n : Nat, x = .int (n : Nat) ∧ n ≤ 7 := by
      simp only [List.mem_cons, List.not_mem_nil, or_false] at hx
      rcases hx with rfl | rfl | rfl | rfl | rfl
      · exact ⟨0, rfl, by omega⟩
      · exact ⟨0, rfl, by omega⟩
      · exact ⟨1, rfl, by omega⟩
      · exact ⟨3, rfl, by omega⟩
      · exact ⟨7, rfl, by omega⟩
    obtain ⟨n, rfl, hn⟩ := hx
    have b12 := b1.trans b2
    refine ⟨_, rfl, by omega, by omega, fun D nD => lc_range (lo := 0) (n := ((n : Nat) : Int).toNat) (fun i H' => ∃ l : List Nat, l.length = i ∧ (∀ c ∈ l, 97 ≤ c ∧ c ≤ 122) ∧ Bs p q H1 H' ∧ H' D = some (.lst ((l.map fun c => SX.S [c]).map V.str)))
      ⟨[], rfl, (fun c hc => by simp at hc), (Bs.refl b2.bag).new nD, upd_same⟩ ?_ ?_⟩
    · rintro i H' hi ⟨l, hl, hc, b3, hD⟩
      refine ⟨rfl, _, rfl, _, rfl, p, q, _, rfl, b3.bag, by rw [az_eq, SX.S_len]; decide, by rw [az_eq, SX.S_len]; decide, fun c H2 hcm b4 => ?_⟩
      have c1 : 97 ≤ c ∧ c ≤ 122 := by
        rw [az_eq] at hcm
        exact az_mem hcm
      have dp : D ≠ p := b2.bag.nn nD
      refine ⟨_, b4.keep _ _ dp hD, by rw [List.length_map, List.length_map, hl]; exact Nat.lt_of_lt_of_le hi (by rw [Int.toNat_natCast]; exact Nat.le_trans hn (by decide)), l ++ [c], by rw [List.length_append, hl]; rfl, fun d hd => ?_, (b3.trans b4).mut b2.bag nD, ?_⟩
      · rcases List.mem_append.mp hd with z | z
        · exact hc d z
        · rw [List.mem_singleton.mp z]
          exact c1
      · rw [upd_same, List.map_append, List.map_append]
        rfl
    · rintro H' ⟨stem, hl, hc, b3, hD⟩
      rw [Int.toNat_natCast] at hl
      have h7 : stem.length ≤ 7 := by omega
      have els : (stem.map fun c => SX.S [c]).map (·.length) = stem.map fun _ => 1 := by
        rw [List.map_map]
        rfl
      refine ⟨_, D, stem.map fun c => SX.S [c], rfl, rfl, .inl (SqL.of hD), ?_, ?_⟩
      · rw [els, show (("" : Str).length) = 0 from rfl, Nat.mul_zero, Nat.add_zero]
        have : (stem.map fun _ => 1).sum ≤ 1 * stem.length := by
          clear els hl hc hD h7
          induction stem with
          | nil => decide
          | cons x r ih =>
            rw [List.map_cons, List.sum_cons, List.length_cons]
            omega
        omega
      · rw [show Txt.join ("" : Str) (stem.map fun c => SX.S [c]) = SX.S stem from join_flat stem]
        have b13 := b12.trans b3
        have el : (SX.S stem).length = stem.length := SX.S_len stem
        -- at, first
        refine ⟨_, rfl, _, rfl, _, rfl, by rw [el]; exact Nat.le_trans h7 (by decide), _, _, rfl, rfl, p, q, _, rfl, b3.bag, by rw [el]; omega, by rw [el]; omega, fun a H2 a0 a1 b4 => ?_⟩
        rw [el] at a1
        refine ⟨_, rfl, p, q, _, rfl, b4.bag, by decide, by decide, fun fi H3 f0 f1 b5 => ?_⟩
        refine ⟨(by show 2 ≤ sizeLine; decide), fun t2 nt2 => ?_⟩
        have b14 := ((b13.trans b4).trans b5).new (o := .tup [.int a, .int fi]) nt2
        refine ⟨t2, _, rfl, SqT.of upd_same, rfl, _, _, rfl, _, _, rfl, rfl, ?_⟩
        refine ⟨_, rfl, m, rfl, by omega, by omega, fun R nR => lc_range (lo := 0) (n := ((m : Nat) : Int).toNat) (fun i H' => H' R = some (.lst (((List.range i).map (nmAt stem a.toNat fi.toNat)).map nmV)) ∧ Bs p q H H')
          ⟨upd_same, b14.new nR⟩ ?_ ?_⟩
        · rintro i H4 hi ⟨hR, b6⟩
          rw [Int.toNat_natCast] at hi
          have e26 : ((fi + 5 * (0 + (i : Int))) % 26).toNat = (fi.toNat + 5 * i) % 26 := by omega
          have lz : (SX.S stem).length ≤ sizeLine := by rw [el]; exact Nat.le_trans h7 (by decide)
          refine ⟨rfl, _, rfl, _, rfl, a, rfl, _, rfl, lz, _, rfl, _, rfl, _, rfl, _, _, rfl, rfl, .inl ⟨by decide, by decide⟩, _, _, rfl, rfl, .inl ⟨_, rfl, _, _, rfl, rfl, (by show (0 : Int) < 26; decide), ?_⟩⟩
          have l1 : (stem.take a.toNat).length ≤ 7 := by rw [List.length_take]; omega
          have l2 : (stem.drop a.toNat).length ≤ 7 := by rw [List.length_drop]; omega
          rw [cut_to a0]
          refine ⟨_, _, _, rfl, rfl, by rw [az_eq, SX.S_len]; decide, at_ofN (j := (fi.toNat + 5 * i) % 26) (by omega) (by rw [az_eq]; exact az_get (Nat.mod_lt _ (by decide))), ?_⟩
          refine ⟨_, _, rfl, rfl, by rw [SX.S_len, show (({ cps := #[(fi.toNat + 5 * i) % 26 + 97] } : Str).length) = 1 from rfl]; exact Nat.le_trans (show _ ≤ 8 by omega) (by decide), ?_⟩
          refine ⟨_, rfl, _, rfl, a, rfl, _, rfl, lz, ?_⟩
          rw [cut_from a0, show SX.S (stem.take a.toNat) ++ ({ cps := #[(fi.toNat + 5 * i) % 26 + 97] } : Str) = SX.S (stem.take a.toNat ++ [(fi.toNat + 5 * i) % 26 + 97]) from SX.S_cat _ _]
          refine ⟨_, _, rfl, rfl, by rw [SX.S_len, SX.S_len, List.length_append, List.length_singleton]; exact Nat.le_trans (show _ ≤ 15 by omega) (by decide), ?_⟩
          rw [SX.S_cat]
          refine ⟨_, hR, by rw [List.length_map, List.length_map, List.length_range]; exact Nat.lt_of_lt_of_le hi (Nat.le_trans hm (by decide)), ?_, b6.mut hB (b14.free nR)⟩
          rw [upd_same, List.range_succ, List.map_append, List.map_append]
          refine congrArg some (congrArg HO.lst (congrArg _ ?_))
          show [V.str (SX.S (stem.take a.toNat ++ [(fi.toNat + 5 * i) % 26 + 97] ++ stem.drop a.toNat))] = [V.str (SX.S (nmAt stem a.toNat fi.toNat i))]
          unfold nmAt
          rw [List.append_assoc]
          rfl
        · rintro H4 ⟨hR, b6⟩
          rw [Int.toNat_natCast] at hR
          exact k R _ H4 (by rw [List.length_map, List.length_range]) (fun l hl => by
            obtain ⟨j, _, rfl⟩ := List.mem_map.mp hl
            exact nmAt_ok h7 hc) (nmAt_nd hm) (b14.free nR) b6 hR

/-! ### odd values -/
def OddV (p : Addr) (H : Hp) (v : V) : Prop := v = .non ∨ v = .bl true ∨ v = .int (-1) ∨ v = .int 1000000000000000000 ∨ v = .str "" ∨ v = .str "A" ∨ v = .str "abcdefghi" ∨ v = .str "1 " ∨
  (∃ a, v = .ref a ∧ a ≠ p ∧ H a = some (.lst [.int 1])) ∨ (∃ a, v = .ref a ∧ a ≠ p ∧ H a = some (.tup [.int 1, .str "a"]))
theorem OddV.mono {p : Addr} {H H' : Hp} {v : V} (k : ∀ b o, b ≠ p → H b = some o → H' b = some o) (h : OddV p H v) : OddV p H' v := by
  rcases h with h | h | h | h | h | h | h | h | ⟨a, e, n, h⟩ | ⟨a, e, n, h⟩
  · exact .inl h
  · exact .inr (.inl h)
  · exact .inr (.inr (.inl h))
  · exact .inr (.inr (.inr (.inl h)))
  · exact .inr (.inr (.inr (.inr (.inl h))))
  · exact .inr (.inr (.inr (.inr (.inr (.inl h)))))
  · exact .inr (.inr (.inr (.inr (.inr (.inr (.inl h))))))
  · exact .inr (.inr (.inr (.inr (.inr (.inr (.inr (.inl h)))))))
  · exact .inr (.inr (.inr (.inr (.inr (.inr (.inr (.inr (.inl ⟨a, e, n, k _ _ n h⟩))))))))
  · exact .inr (.inr (.inr (.inr (.inr (.inr (.inr (.inr (.inr ⟨a, e, n, k _ _ n h⟩))))))))
/-- what the program tells of them -/
structure OddF (K : PySem.W.Frag) (p : Addr) (H : Hp) (v : V) : Prop where
  kin : ∃ t, Kin K H v t
  da : ∃ d, Da p H 2 v d
  txt : ∀ z, v = .str z → ∃ l, z = SX.S l ∧ l.length ≤ 1000
  num : ∀ hi, hi ≤ 999999999999999999 → numB v 0 hi = false
  nm : nmR v = false
  ni : niR v = .non
theorem z_e : ("" : Str) = SX.S [] := by decide +kernel
theorem z_A : ("A" : Str) = SX.S [65] := by decide +kernel
theorem z_ai : ("abcdefghi" : Str) = SX.S [97, 98, 99, 100, 101, 102, 103, 104, 105] := by decide +kernel
theorem z_1s : ("1 " : Str) = SX.S [49, 32] := by decide +kernel
theorem z_a : ("a" : Str) = SX.S [97] := by decide +kernel
theorem OddV.all {K : PySem.W.Frag} {p : Addr} {H : Hp} {v : V} (h : OddV p H v) : OddF K p H v := by
  have txt : ∀ (z : Str) (l : List Nat), z = SX.S l → l.length ≤ 1000 → nmB (SX.S l) = false → niO l = none → OddF K p H (.str z) := fun z l e hl h1 h2 => by
    subst e
    exact ⟨⟨_, kin_str⟩, ⟨.str _, rfl⟩, fun z e => ⟨l, by injection e with e; exact e.symm, hl⟩, fun _ _ => rfl, h1, by show oV (niO l) = .non; rw [h2]; rfl⟩
  rcases h with rfl | rfl | rfl | rfl | rfl | rfl | rfl | rfl | ⟨a, rfl, n, h⟩ | ⟨a, rfl, n, h⟩
  · exact ⟨⟨_, kin_non⟩, ⟨.none, rfl⟩, fun z e => (nomatch e), fun _ _ => rfl, rfl, rfl⟩
  · exact ⟨⟨_, kin_bl⟩, ⟨.bool true, rfl⟩, fun z e => (nomatch e), fun _ _ => rfl, rfl, rfl⟩
  · exact ⟨⟨_, kin_int⟩, ⟨.int (-1), rfl⟩, fun z e => (nomatch e), fun _ _ => rfl, rfl, rfl⟩
  · refine ⟨⟨_, kin_int⟩, ⟨.int 1000000000000000000, rfl⟩, fun z e => (nomatch e), fun hi hh => ?_, rfl, rfl⟩
    show (decide ((0 : Int) ≤ 1000000000000000000) && decide ((1000000000000000000 : Int) ≤ hi)) = false
    rw [decide_eq_false (show ¬ (1000000000000000000 : Int) ≤ hi by omega), Bool.and_false]
  · exact txt _ [] z_e (by decide) nm_nil (by decide)
  · exact txt _ [65] z_A (by decide) (nm_bad (c := 65) (by decide) (by decide)) (by decide)
  · exact txt _ _ z_ai (by decide) (nm_long (by decide)) (by decide)
  · exact txt _ [49, 32] z_1s (by decide) (nm_bad (c := 32) (by decide) (by decide)) (by decide)
  · exact ⟨⟨_, kin_lst h⟩, ⟨.list [.int 1], a, _, rfl, n, h, by decide, .cons rfl .nil⟩, fun z e => (nomatch e), fun _ _ => rfl, rfl, rfl⟩
  · exact ⟨⟨_, kin_tup h⟩, ⟨.tuple [.int 1, .str "a"], a, _, rfl, n, h, by decide, .cons rfl (.cons rfl .nil)⟩, fun z e => (nomatch e), fun _ _ => rfl, rfl, rfl⟩
def spOdd : Sp := fun vs H Q _ => ∃ (p q : Addr), vs = [.ref p] ∧ Bag H p q ∧ ∀ v H', OddV p H' v → Bs p q H H' → Q v H'
theorem scOdd : FnScope ["_law_bag_here"] ["_law_bag_here"] (defScope sOdd) := ⟨rfl, rfl, rfl, by decide +kernel, rfl, by decide +kernel, by decide +kernel⟩
theorem ok_odd {f g1 g2 : Addr} {fd gd1 gd2 : FuncData} {k : Nat} (F : Fun K "_law_odd" "_law_odd" sOdd f fd) (TB : TxB mg)
    (FP : Fun K "_law_pull" "_law_pull" sPull g1 gd1) (bP : Binds K gd1 ["_law_bag_here", "_law_many"] []) (mP : mg "_law_pull" = some (.ref g1))
    (FK : Fun K "_law_pick" "_law_pick" sPick g2 gd2) (bK : Binds K gd2 ["_law_bag_here", "_law_rows"] []) (mK : mg "_law_pick" = some (.ref g2)) :
    FnOk P w K mg base CX0 (k + 3) f fd ["_law_bag_here"] spOdd := by
  have GL : FnOk P w K mg base CX0 (k + 2) g2 gd2 ["_law_bag_here", "_law_rows"] (spPickL K) := ok_pickL FK TB FP bP mP
  refine F.ok scOdd (fun vs H Q E h => ?_) (fun cdv A outer s H vs Q E hr h => ?_)
  · obtain ⟨p, q, rfl, _⟩ := h
    rfl
  · obtain ⟨p, q, rfl, hB, k⟩ := h
    refine ⟨_, (pss_one (ps_ret (pe_call GL hr (by rfl) mK FK.kp bK .nil pass0 (pa_cons (pv 0) (pa_cons (pe_lst (pa_cons pe_non (pa_cons pe_bl (pa_cons (pe_op op_sub pe_int pe_int) (pa_cons (pe_op op_pow pe_int pe_int) (pa_cons pe_str (pa_cons pe_str (pa_cons pe_str (pa_cons (pe_lst (pa_cons pe_int pa_nil)) (pa_cons (pe_tup (pa_cons pe_int (pa_cons pe_str pa_nil))) (pa_cons pe_str pa_nil))))))))))) pa_nil))))), ?_⟩
    refine ⟨_, rfl, _, _, rfl, rfl, 10, 18, rfl, rfl, ⟨by decide, by decide, by decide⟩, (by show 1 ≤ sizeLine; decide), fun a na => ⟨(by show 2 ≤ sizeLine; decide), fun b nb => ⟨(by show 10 ≤ sizeLine; decide), fun r nr => ?_⟩⟩⟩
    have b1 := (Bs.refl hB).new (o := .lst [.int 1]) na
    have b2 := b1.new (o := .tup [.int 1, .str "a"]) nb
    have b3 := b2.new (o := .lst [.non, .bl true, .int (0 - 1), .int (10 ^ (18 : Int).toNat), .str "", .str "A", .str "abcdefghi", .ref a, .ref b, .str "1 "]) nr
    refine ⟨p, q, r, _, rfl, b3.bag, b2.bag.nn nr, SqL.of upd_same, (by show 0 < 10; decide), (by show 10 ≤ 1000000000000000000; decide), fun v H' hv b4 => k v H' ?_ (b3.trans b4)⟩
    have ap : a ≠ p := hB.nn na
    have bp : b ≠ p := b1.bag.nn nb
    have hb3 : (upd (upd (upd H a (.lst [.int 1])) b (.tup [.int 1, .str "a"])) r (.lst [.non, .bl true, .int (0 - 1), .int (10 ^ (18 : Int).toNat), .str "", .str "A", .str "abcdefghi", .ref a, .ref b, .str "1 "])) b = some (.tup [.int 1, .str "a"]) := by
      rw [upd_ne (ne_of_none (upd_same (H := upd H a (.lst [.int 1]))) nr), upd_same]
    have ha2 : (upd (upd H a (.lst [.int 1])) b (.tup [.int 1, .str "a"])) a = some (.lst [.int 1]) := by
      rw [upd_ne (ne_of_none (upd_same (H := H)) nb), upd_same]
    have ha3 : (upd (upd (upd H a (.lst [.int 1])) b (.tup [.int 1, .str "a"])) r (.lst [.non, .bl true, .int (0 - 1), .int (10 ^ (18 : Int).toNat), .str "", .str "A", .str "abcdefghi", .ref a, .ref b, .str "1 "])) a = some (.lst [.int 1]) := by
      rw [upd_ne (ne_of_none ha2 nr)]
      exact ha2
    simp only [List.mem_cons, List.not_mem_nil, or_false] at hv
    rcases hv with e | e | e | e | e | e | e | e | e | e
    · exact .inl e
    · exact .inr (.inl e)
    · exact .inr (.inr (.inl e))
    · exact .inr (.inr (.inr (.inl e)))
    · exact .inr (.inr (.inr (.inr (.inl e))))
    · exact .inr (.inr (.inr (.inr (.inr (.inl e)))))
    · exact .inr (.inr (.inr (.inr (.inr (.inr (.inl e))))))
    · exact .inr (.inr (.inr (.inr (.inr (.inr (.inr (.inr (.inl ⟨a, e, ap, b4.keep _ _ ap ha3⟩))))))))
    · exact .inr (.inr (.inr (.inr (.inr (.inr (.inr (.inr (.inr ⟨b, e, bp, b4.keep _ _ bp hb3⟩))))))))
    · exact .inr (.inr (.inr (.inr (.inr (.inr (.inr (.inl e)))))))

/-! ### the law -/
def spLaw (K : PySem.W.Frag) : Sp := fun vs H Q _ => ∃ (a : Addr) (ns : List Int), vs = [.ref a] ∧ SqL K H a (ns.map V.int) ∧ ns.length ≤ 63 ∧ ∀ H', Q (.bl true) H'
/-- all that the text has written: the defs, what the names hold -/
structure Tx (K : PySem.W.Frag) (mg : Str → Option Value) (fB fP fK fC fN fO fI fM fU : Addr) (dB dP dK dC dN dO dI dM dU : FuncData) : Prop where
  FB : Fun K "_law_bag" "_law_bag" sBag fB dB
  bB : Binds K dB ["_law_script"] []
  mB : mg "_law_bag" = some (.ref fB)
  FP : Fun K "_law_pull" "_law_pull" sPull fP dP
  bP : Binds K dP ["_law_bag_here", "_law_many"] []
  mP : mg "_law_pull" = some (.ref fP)
  FK : Fun K "_law_pick" "_law_pick" sPick fK dK
  bK : Binds K dK ["_law_bag_here", "_law_rows"] []
  mK : mg "_law_pick" = some (.ref fK)
  FC : Fun K "_law_same" "_law_same" sSame fC dC
  bC : Binds K dC ["_law_found", "_law_due"] []
  mC : mg "_law_same" = some (.ref fC)
  FN : Fun K "_law_names" "_law_names" sNames fN dN
  bN : Binds K dN ["_law_bag_here", "_law_many"] []
  mN : mg "_law_names" = some (.ref fN)
  FO : Fun K "_law_odd" "_law_odd" sOdd fO dO
  bO : Binds K dO ["_law_bag_here"] []
  mO : mg "_law_odd" = some (.ref fO)
  FI : FunD K "is_number" "is_number" (defArgs sIsNum) (defBody sIsNum) (defScope sIsNum) [.int 0, .int 999999999999999999] [] fI dI
  bI3 : Binds K dI ["value", "least", "most"] []
  bI1 : ∃ ds, Vals [.int 0, .int 999999999999999999] ds ∧ Binds K dI ["value", "least", "most"] ds
  bI2 : ∃ ds, Vals [.int 999999999999999999] ds ∧ Binds K dI ["value", "least", "most"] ds
  bIk : ∃ g, KBn K dI ["value", "least", "most"] 0 ["most", "value", "least"] g (fun _ zs => match zs with | [m, v, l] => [v, l, m] | _ => [])
  mI : mg "is_number" = some (.ref fI)
  FM : Fun K "is_name" "is_name" sIsName fM dM
  bM : Binds K dM ["value"] []
  mM : mg "is_name" = some (.ref fM)
  FU : Fun K "number_in" "number_in" sNumIn fU dU
  bU : Binds K dU ["text"] []
  mU : mg "number_in" = some (.ref fU)
  mG : ∃ t, mg "GREATEST" = some (.int 999999999999999999 t)
  mF : ∃ t, mg "MOST_FIGURES" = some (.int 18 t)
  mL : ∃ t, mg "MOST_LETTERS" = some (.int 8 t)
  len : mg "len" = none
  int : mg "int" = none
  range : mg "range" = none
  isinstance : mg "isinstance" = none
  list : mg "list" = none
  tuple : mg "tuple" = none
  bool : mg "bool" = none
  str : mg "str" = none
  all : mg "all" = none
  zip : mg "zip" = none
theorem up {H : Hp} {a b : Addr} {o u : HO} (h : H a = some o) (n : H b = none) : upd H b u a = some o := by
  rw [upd_ne (ne_of_none h n)]
  exact h
theorem da_list {p r : Addr} {H : Hp} {n : Nat} {xs : List V} {ds : List PyData} (h : H r = some (.lst xs)) (np : r ≠ p) (hl : xs.length ≤ 100000) (hp : Paired (Da p H n) xs ds) : Da p H (n + 1) (.ref r) (.list ds) := ⟨r, xs, rfl, np, h, hl, hp⟩
theorem az_txt {c : Nat} {z : Str} (h : c ∈ z.cps.toList) {l : List Nat} (e : z = SX.S l) : c ∈ l := by
  subst e
  exact h
theorem z_dig : ("0123456789" : Str) = SX.S [48, 49, 50, 51, 52, 53, 54, 55, 56, 57] := by decide +kernel
theorem scLaw : FnScope ["_law_script", "_law_bag_here", "_law_turn", "_law_low", "_law_long", "_law_value_z", "_law_due", "_law_found", "_law_odd_here", "_law_name", "_law_bad", "_law_figures", "_law_right", "_law_wrong", "_law_k"] ["_law_script"] (defScope sLaw) := ⟨rfl, rfl, rfl, by decide +kernel, rfl, by decide +kernel, by decide +kernel⟩
theorem ok_law {f fB fP fK fC fN fO fI fM fU : Addr} {fd dB dP dK dC dN dO dI dM dU : FuncData} (F : Fun K "law" "law" sLaw f fd) (T : Tx K mg fB fP fK fC fN fO fI fM fU dB dP dK dC dN dO dI dM dU) :
    FnOk P w K mg base CX0 4 f fd ["_law_script"] (spLaw K) := by
  have TB : TxB mg := ⟨T.len, T.int⟩
  have TS : TxS mg := ⟨T.len, T.isinstance, T.list, T.tuple, T.bool, T.int, T.str, T.all, T.zip⟩
  have TN : TxN mg := ⟨T.len, T.isinstance, T.bool, T.int, T.str⟩
  have TR : TxR mg := ⟨T.len, T.int, T.range⟩
  obtain ⟨FB, bB, mB, FP, bP, mP, FK, bK, mK, FC, bC, mC, FN, bN, mN, FO, bO, mO, FI, bI3, ⟨eI1, vI1, bI1⟩, ⟨eI2, vI2, bI2⟩, ⟨gI, bIk⟩, mI, FM, bM, mM, FU, bU, mU, ⟨tG, mG⟩, ⟨tF, mF⟩, ⟨tL, mL⟩, _⟩ := id T
  have GB : FnOk P w K mg base CX0 1 fB dB ["_law_script"] (spBag K) := ok_bag FB TB
  have GP : FnOk P w K mg base CX0 1 fP dP ["_law_bag_here", "_law_many"] spPull := ok_pull FP TB
  have GL : FnOk P w K mg base CX0 2 fK dK ["_law_bag_here", "_law_rows"] (spPickL K) := ok_pickL FK TB FP bP mP
  have GS : FnOk P w K mg base CX0 2 fK dK ["_law_bag_here", "_law_rows"] spPickS := ok_pickS FK TB FP bP mP
  have GN : FnOk P w K mg base CX0 3 fN dN ["_law_bag_here", "_law_many"] spNames := ok_names FN TR FP bP mP FK bK mK
  have GO : FnOk P w K mg base CX0 3 fO dO ["_law_bag_here"] spOdd := ok_odd FO TB FP bP mP FK bK mK
  have GC : FnOk P w K mg base CX0 3 fC dC ["_law_found", "_law_due"] (spSame 2) := ok_same FC TS bC mC 2
  have GI : FnOk P w K mg base CX0 1 fI dI ["value", "least", "most"] (spIsNum K) := ok_isnum FI TN
  have GM : FnOk P w K mg base CX0 1 fM dM ["value"] (spIsName K) := ok_isname FM TN mL
  have GU : FnOk P w K mg base CX0 1 fU dU ["text"] (spNumIn K) := ok_numin FU TN mF
  refine F.ok scLaw (fun vs H Q E h => ?_) (fun cdv A outer s H vs Q E hr h => ?_)
  · obtain ⟨a, ns, rfl, _⟩ := h
    rfl
  · obtain ⟨a, ns, rfl, hS, hlen, k⟩ := h
    have hr1 : Room 1 _ := hr.mono (by decide)
    have hr2 : Room 2 _ := hr.mono (by decide)
    have hr3 : Room 3 _ := hr
    have hr4 : Room 3 _ := hr
    refine ⟨_, (pss_cons (ps_set (i := 1) scLaw.nd rfl (Or.inr rfl) (pe_call GB hr1 (by rfl) mB FB.kp bB .nil pass0 (pa_cons (pv 0) pa_nil)))
 (pss_cons (ps_for PassesOwn.never rfl (pi_range1 (by rfl) T.range (pa_cons pe_int pa_nil)) (pg_name (i := 2) scLaw.nd rfl (Or.inl rfl))
 (pss_cons (ps_par (i := 3) (j := 4) (by rfl) scLaw.nd rfl rfl (by decide) rfl rfl (pa_cons (pe_call GP hr1 (by rfl) mP FP.kp bP .nil pass0 (pa_cons (pv 1) (pa_cons (pe_op op_pow pe_int pe_int) pa_nil))) (pa_cons (pe_call GP hr1 (by rfl) mP FP.kp bP .nil pass0 (pa_cons (pv 1) (pa_cons pe_int pa_nil))) pa_nil)) (by rfl))
 (pss_cons (ps_set (i := 5) scLaw.nd rfl (Or.inl rfl) (pe_op op_add (pe_op op_sub (pv 3) pe_int) (pe_call GP hr1 (by rfl) mP FP.kp bP .nil pass0 (pa_cons (pv 1) (pa_cons (pe_op op_add (pv 4) pe_int) pa_nil)))))
 (C8.pss_cut (ps_set (i := 6) scLaw.nd rfl (Or.inl rfl) (pe_chain op_le op_le (pv 3) (pv 5) (pe_op op_add (pv 3) (pv 4))))
 (pss_cons (ps_set (i := 7) scLaw.nd rfl (Or.inl rfl) (pe_lst (pa_cons (pe_call GI hr1 (by rfl) mI FI.kp bI3 .nil pass0 (pa_cons (pv 5) (pa_cons (pv 3) (pa_cons (pe_op op_add (pv 3) (pv 4)) pa_nil)))) (pa_cons (pe_callN0 GI hr1 (by rfl) mI FI.kp bIk pass0 (pk_cons (pe_op op_add (pv 3) (pv 4)) (pk_cons (pv 5) (pk_cons (pv 3) pk_nil)))) pa_nil))))
 (pss_cons (ps_if (pt_not (pt_val (pe_call GC hr4 (by rfl) mC FC.kp bC .nil pass0 (pa_cons (pe_op op_cat (pv 7) (pe_lst (pa_cons (pe_call GI hr1 (by rfl) mI FI.kp bI1 vI1 pass0 (pa_cons (pv 5) pa_nil)) (pa_cons (pe_call GI hr1 (by rfl) mI FI.kp bI2 vI2 pass0 (pa_cons (pv 5) (pa_cons (pv 3) pa_nil))) pa_nil)))) (pa_cons (pe_lst (pa_cons (pv 6) (pa_cons (pv 6) (pa_cons (pe_cmpR op_ge (pv 5) pe_int (nomark _)) (pa_cons (pe_cmpR op_ge (pv 5) (pv 3) (nomark _)) pa_nil))))) pa_nil))))) (pss_one (ps_ret pe_bl)) pss_nil)
 (pss_cons (ps_set (i := 8) scLaw.nd rfl (Or.inl rfl) (pe_call GO hr3 (by rfl) mO FO.kp bO .nil pass0 (pa_cons (pv 1) pa_nil)))
 (pss_cons (ps_if (pt_not (pt_val (pe_call GC hr4 (by rfl) mC FC.kp bC .nil pass0 (pa_cons (pe_lst (pa_cons (pe_call GI hr1 (by rfl) mI FI.kp bI1 vI1 pass0 (pa_cons (pv 8) pa_nil)) (pa_cons (pe_call GM hr1 (by rfl) mM FM.kp bM .nil pass0 (pa_cons (pv 8) pa_nil)) (pa_cons (pe_call GU hr1 (by rfl) mU FU.kp bU .nil pass0 (pa_cons (pv 8) pa_nil)) pa_nil)))) (pa_cons (pe_lst (pa_cons pe_bl (pa_cons pe_bl (pa_cons pe_non pa_nil)))) pa_nil))))) (pss_one (ps_ret pe_bl)) pss_nil)
 (pss_cons (ps_set (i := 9) scLaw.nd rfl (Or.inl rfl) (pe_call GL hr2 (by rfl) mK FK.kp bK .nil pass0 (pa_cons (pv 1) (pa_cons (pe_call GN hr3 (by rfl) mN FN.kp bN .nil pass0 (pa_cons (pv 1) (pa_cons pe_int pa_nil))) pa_nil))))
 (pss_cons (ps_set (i := 10) scLaw.nd rfl (Or.inl rfl) (pe_call GL hr2 (by rfl) mK FK.kp bK .nil pass0 (pa_cons (pv 1) (pa_cons (pe_lst (pa_cons (pe_op op_add_str (pv 9) (pe_op op_mul_str (pe_slice sl_str (pv 9) po_none (po_some pe_int)) pe_int)) (pa_cons (pe_op op_add_str (pe_slice sl_str (pv 9) po_none (po_some pe_int)) pe_str) (pa_cons (pe_op op_add_str (pe_slice sl_str (pv 9) po_none (po_some pe_int)) pe_str) (pa_cons (pe_op op_add_str pe_str (pe_slice sl_str (pv 9) po_none (po_some pe_int))) (pa_cons (pe_op op_add_str (pe_slice sl_str (pv 9) po_none (po_some pe_int)) pe_str) pa_nil)))))) pa_nil))))
 (pss_cons (ps_if (pt_not (pt_val (pe_call GC hr4 (by rfl) mC FC.kp bC .nil pass0 (pa_cons (pe_lst (pa_cons (pe_call GM hr1 (by rfl) mM FM.kp bM .nil pass0 (pa_cons (pv 9) pa_nil)) (pa_cons (pe_call GM hr1 (by rfl) mM FM.kp bM .nil pass0 (pa_cons (pv 10) pa_nil)) (pa_cons (pe_call GI hr1 (by rfl) mI FI.kp bI1 vI1 pass0 (pa_cons (pv 9) pa_nil)) pa_nil)))) (pa_cons (pe_lst (pa_cons pe_bl (pa_cons pe_bl (pa_cons pe_bl pa_nil)))) pa_nil))))) (pss_one (ps_ret pe_bl)) pss_nil)
 (pss_cons (ps_set (i := 11) scLaw.nd rfl (Or.inl rfl) (pe_join pe_str (pe_lc (own := [("_law_k", 14)]) (g := gName 14) (tt := tYes) rfl scLaw.nd (pi_range1 (by rfl) T.range (pa_cons (pe_op op_add pe_int (pe_call GP hr1 (by rfl) mP FP.kp bP .nil pass0 (pa_cons (pv 1) (pa_cons pe_int pa_nil)))) pa_nil)) (blkOk_by (own := [("_law_k", 14)]) (N := ["_law_script", "_law_bag_here", "_law_turn", "_law_low", "_law_long", "_law_value_z", "_law_due", "_law_found", "_law_odd_here", "_law_name", "_law_bad", "_law_figures", "_law_right", "_law_wrong", "_law_k"]) (sc := defScope sLaw) (by decide +kernel)) (fun _ _ _ _ _ => (pg_name (i := 14) scLaw.nd rfl (Or.inl rfl))) (fun _ _ _ _ _ => pts_nil) (fun _ _ _ _ _ => (pe_call GS hr2 (by rfl) mK FK.kp bK .nil pass0 (pa_cons (pv 1) (pa_cons pe_str pa_nil)))))))
 (C8.pss_cut (ps_set (i := 12) scLaw.nd rfl (Or.inl rfl) (pe_and (pe_cmpR op_le (pe_callB call_len_str (by rfl) T.len PySem.boot_len (pa_cons (pv 11) pa_nil)) pe_int (nomark _)) (pe_one (pe_or (pe_cmpR op_ne (pe_ix ix_str (pv 11) pe_int (fun _ _ => rfl)) pe_str (nomark _)) (pe_one (pe_cmpR op_eq (pv 11) pe_str (nomark _)))))))
 (pss_cons (ps_set (i := 13) scLaw.nd rfl (Or.inl rfl) (pe_call GL hr2 (by rfl) mK FK.kp bK .nil pass0 (pa_cons (pv 1) (pa_cons (pe_lst (pa_cons (pe_op op_add_str pe_str (pv 11)) (pa_cons (pe_op op_add_str (pv 11) pe_str) (pa_cons (pe_op op_add_str pe_str (pv 11)) (pa_cons (pe_op op_add_str (pe_op op_add_str (pe_slice sl_str (pv 11) po_none (po_some pe_int)) pe_str) (pe_slice sl_str (pv 11) (po_some pe_int) po_none)) (pa_cons (pe_op op_add_str pe_str (pv 11)) pa_nil)))))) pa_nil))))
 (pss_one (ps_if (pt_not (pt_val (pe_call GC hr4 (by rfl) mC FC.kp bC .nil pass0 (pa_cons (pe_lst (pa_cons (pe_call GU hr1 (by rfl) mU FU.kp bU .nil pass0 (pa_cons (pv 11) pa_nil)) (pa_cons (pe_call GU hr1 (by rfl) mU FU.kp bU .nil pass0 (pa_cons (pv 13) pa_nil)) pa_nil))) (pa_cons (pe_lst (pa_cons (pe_ifExp (pt_val (pv 12)) (pe_callTy call_int_str (by rfl) T.int PyProof.Rows.boot_int (pa_cons (pv 11) pa_nil)) pe_non) (pa_cons pe_non pa_nil))) pa_nil))))) (pss_one (ps_ret pe_bl)) pss_nil))))))))))))))))
 (pss_one (ps_ret (pe_call GC hr4 (by rfl) mC FC.kp bC .nil pass0 (pa_cons (pe_lst (pa_cons (pe_glob (v := .int 999999999999999999) (by rfl) mG ⟨_, rfl⟩) (pa_cons (pe_call GI hr1 (by rfl) mI FI.kp bI1 vI1 pass0 (pa_cons (pe_glob (v := .int 999999999999999999) (by rfl) mG ⟨_, rfl⟩) pa_nil)) (pa_cons (pe_call GI hr1 (by rfl) mI FI.kp bI1 vI1 pass0 (pa_cons (pe_op op_add (pe_glob (v := .int 999999999999999999) (by rfl) mG ⟨_, rfl⟩) pe_int) pa_nil)) (pa_cons (pe_call GU hr1 (by rfl) mU FU.kp bU .nil pass0 (pa_cons (pe_op op_mul_str pe_str pe_int) pa_nil)) (pa_cons (pe_call GU hr1 (by rfl) mU FU.kp bU .nil pass0 (pa_cons (pe_op op_mul_str pe_str pe_int) pa_nil)) pa_nil)))))) (pa_cons (pe_lst (pa_cons (pe_op op_sub (pe_op op_pow pe_int pe_int) pe_int) (pa_cons pe_bl (pa_cons pe_bl (pa_cons (pe_op op_sub (pe_op op_pow pe_int pe_int) pe_int) (pa_cons pe_non pa_nil)))))) pa_nil))))))), ?_⟩
    refine ⟨_, rfl, a, ns, rfl, hS, hlen, fun p q H0 np nq s0 hB0 => ?_⟩
    refine ⟨8, rfl, by decide, by decide, for_range (lo := 0) (n := 8) (fun i σ H' => (∃ y2 y3 y4 y5 y6 y7 y8 y9 y10 y11 y12 y13 y14, σ = [some (.ref a), some (.ref p), y2, y3, y4, y5, y6, y7, y8, y9, y10, y11, y12, y13, y14]) ∧ Bag H' p q)
      ⟨⟨_, _, _, _, _, _, _, _, _, _, _, _, _, rfl⟩, hB0⟩ ?_ ?_⟩
    · rintro i σ H1 hi ⟨⟨y2, y3, y4, y5, y6, y7, y8, y9, y10, y11, y12, y13, y14, rfl⟩, hB⟩
      -- low, long
      refine ⟨_, rfl, 10, 6, rfl, rfl, ⟨by decide, by decide, by decide⟩, p, q, _, rfl, hB, by decide, by decide, fun low H2 l0 l1 b2 => ?_⟩
      refine ⟨_, rfl, p, q, _, rfl, b2.bag, by decide, by decide, fun long H3 g0 g1 b3 => ⟨_, _, rfl, ?_⟩⟩
      have l1 : low < 1000000 := l1
      -- value
      refine ⟨_, rfl, _, _, rfl, rfl, _, rfl, _, rfl, _, _, rfl, rfl, p, q, _, rfl, b3.bag, by omega, by omega, fun d H4 d0 d1 b4 => ⟨_, _, rfl, rfl, ?_⟩⟩
      have hBa := b4.bag
      clear b2 b3 b4
      -- due
      refine ⟨fun σ H' => (∃ vz : Int, σ = [some (.ref a), some (.ref p), some (.int (0 + (i : Int))), some (.int low), some (.int long), some (.int vz), some (.bl (decide (low ≤ vz) && decide (vz ≤ low + long))), y7, y8, y9, y10, y11, y12, y13, y14] ∧ vz ≤ 100000000) ∧ H' = H4, ?_, ?_⟩
      · refine ⟨_, rfl, _, rfl, _, _, rfl, rfl, _, rfl, ?_⟩
        refine ite2 (fun e => ?_) (fun e => ?_)
        · have h1 : low ≤ low - 2 + d := of_decide_eq_true e
          exact ⟨_, rfl, _, rfl, _, _, rfl, rfl, _, _, rfl, rfl, ⟨low - 2 + d, by rw [decide_eq_true h1]; rfl, by omega⟩, rfl⟩
        · have h1 : ¬ low ≤ low - 2 + d := fun z => e (decide_eq_true z)
          exact ⟨⟨low - 2 + d, by rw [decide_eq_false h1]; rfl, by omega⟩, rfl⟩
      · rintro σ H' ⟨⟨vz, rfl, hvz⟩, rfl⟩
        -- found = [..]
        refine ⟨_, rfl, _, rfl, _, rfl, _, rfl, _, _, rfl, rfl, _, _, _, _, rfl, kin_int, ?_⟩
        refine ⟨_, rfl, _, rfl, _, _, rfl, rfl, _, rfl, _, rfl, rfl, rfl, _, _, _, _, rfl, kin_int, ?_⟩
        refine ⟨(by show 2 ≤ sizeLine; decide), fun r1 n1 => ?_⟩
        have c1 := (Bs.refl hBa).new (o := .lst [.bl (numB (.int vz) low (low + long)), .bl (numB (.int vz) low (low + long))]) n1
        have k1 : (upd H' r1 (.lst [.bl (numB (.int vz) low (low + long)), .bl (numB (.int vz) low (low + long))])) r1 = some (.lst [.bl (numB (.int vz) low (low + long)), .bl (numB (.int vz) low (low + long))]) := upd_same
        -- found + [..]
        have e1 : numB (.int vz) 0 999999999999999999 = decide (0 ≤ vz) := by
          show (decide (0 ≤ vz) && decide (vz ≤ 999999999999999999)) = decide (0 ≤ vz)
          rw [decide_eq_true (show vz ≤ 999999999999999999 by omega), Bool.and_true]
        have e2 : numB (.int vz) low 999999999999999999 = decide (low ≤ vz) := by
          show (decide (low ≤ vz) && decide (vz ≤ 999999999999999999)) = decide (low ≤ vz)
          rw [decide_eq_true (show vz ≤ 999999999999999999 by omega), Bool.and_true]
        refine ⟨_, rfl, _, rfl, _, _, _, _, rfl, kin_int, _, rfl, _, rfl, _, _, _, _, rfl, kin_int, (by show 2 ≤ sizeLine; decide), fun r2 n2 => ⟨_, _, _, _, rfl, rfl, up k1 n2, upd_same, (by show 4 ≤ sizeLine; decide), fun r3 n3 => ?_⟩⟩
        have c2 := c1.new (o := .lst [.bl (numB (.int vz) 0 999999999999999999), .bl (numB (.int vz) low 999999999999999999)]) n2
        have c3 := c2.new (o := .lst ([.bl (numB (.int vz) low (low + long)), .bl (numB (.int vz) low (low + long))] ++ [.bl (numB (.int vz) 0 999999999999999999), .bl (numB (.int vz) low 999999999999999999)])) n3
        refine ⟨_, rfl, _, rfl, _, rfl, _, _, rfl, rfl, _, rfl, _, rfl, _, _, rfl, rfl, (by show 4 ≤ sizeLine; decide), fun r4 n4 => ?_⟩
        have c4 := c3.new (o := .lst [.bl (decide (low ≤ vz) && decide (vz ≤ low + long)), .bl (decide (low ≤ vz) && decide (vz ≤ low + long)), .bl (decide (0 ≤ vz)), .bl (decide (low ≤ vz))]) n4
        refine ⟨p, _, _, .list [.bool (decide (low ≤ vz) && decide (vz ≤ low + long)), .bool (decide (low ≤ vz) && decide (vz ≤ low + long)), .bool (decide (0 ≤ vz)), .bool (decide (low ≤ vz))], rfl,
          da_list (up upd_same n4) (c2.bag.nn n3) (by show 4 ≤ 100000; decide) (.cons rfl (.cons rfl (.cons (by rw [e1]; rfl) (.cons (by rw [e2]; rfl) .nil)))),
          da_list upd_same (c3.bag.nn n4) (by show 4 ≤ 100000; decide) (.cons rfl (.cons rfl (.cons rfl (.cons rfl .nil)))), fun H5 s5 => ⟨true, rfl, iteF ?_⟩⟩
        have c5 := c4.same s5
        -- an odd value
        refine ⟨_, rfl, p, q, rfl, c5.bag, fun v H6 hv c6 => ?_⟩
        have hB6 := c6.bag
        obtain ⟨⟨t6, kn⟩, ⟨d6, da6⟩, tx6, nu6, nm6, ni6⟩ := hv.all (K := K)
        refine ⟨_, rfl, _, _, _, _, rfl, kn, _, rfl, v, t6, rfl, kn, (fun z e => by
          obtain ⟨l, e1, e2⟩ := tx6 z e
          rw [e1, SX.S_len]
          exact e2), ?_⟩
        rw [nu6 _ (Int.le_refl _), nm6]
        refine ⟨_, rfl, v, t6, rfl, kn, tx6, ?_⟩
        rw [ni6]
        refine ⟨(by show 3 ≤ sizeLine; decide), fun r7 n7 => ⟨(by show 3 ≤ sizeLine; decide), fun r8 n8 => ?_⟩⟩
        have c7 := (Bs.refl hB6).new (o := .lst [.bl false, .bl false, .non]) n7
        refine ⟨p, _, _, .list [.bool false, .bool false, .none], rfl, da_list (up upd_same n8) (hB6.nn n7) (by show 3 ≤ 100000; decide) (.cons rfl (.cons rfl (.cons rfl .nil))),
          da_list upd_same (c7.bag.nn n8) (by show 3 ≤ 100000; decide) (.cons rfl (.cons rfl (.cons rfl .nil))), fun H9 s9 => ⟨true, rfl, iteF ?_⟩⟩
        have c9 := (c7.new (o := .lst [.bl false, .bl false, .non]) n8).same s9
        -- a name
        refine ⟨_, rfl, _, rfl, p, q, 3, rfl, c9.bag, by decide, fun rn ls H10 hll hnm _ nrn c10 hrn => ?_⟩
        refine ⟨p, q, rn, _, rfl, c10.bag, c9.bag.nn nrn, SqL.of hrn, by rw [List.length_map, hll]; decide, by rw [List.length_map, hll]; decide, fun x H11 hx c11 => ?_⟩
        obtain ⟨l, hl, rfl⟩ := List.mem_map.mp hx
        have hN := hnm l hl
        have hB11 := c11.bag
        obtain ⟨ln1, ln8, lnA⟩ := id hN
        have elen : (SX.S l).length = l.length := SX.S_len l
        have lzn : (SX.S l).length ≤ sizeLine := by rw [elen]; exact Nat.le_trans ln8 (by decide)
        obtain ⟨c0, r0, rfl⟩ : ∃ c r, l = c :: r := by
          cases l with
          | nil => simp at ln1
          | cons c r => exact ⟨c, r, rfl⟩
        have ec1 : cutS (SX.S (c0 :: r0)) none (some 1) = SX.S [c0] := cut_to (by decide)
        have ec7 : cutS (SX.S (c0 :: r0)) none (some 7) = SX.S ((c0 :: r0).take 7) := cut_to (by decide)
        have lt7 : ((c0 :: r0).take 7).length ≤ 7 := by rw [List.length_take]; omega
        have em8 : Txt.mul (SX.S [c0]) 8 = SX.S (List.replicate 8 c0) := mul_one_S c0 8
        have z32 : (" " : Str) = SX.S [32] := by decide +kernel
        have z45 : ("-" : Str) = SX.S [45] := by decide +kernel
        have z49 : ("1" : Str) = SX.S [49] := by decide +kernel
        refine ⟨_, rfl, _, rfl, _, rfl, 1, rfl, _, rfl, lzn, _, _, rfl, rfl, (by rw [ec1]; exact mulOk_one (n := 8) (by decide)), _, _, rfl, rfl, (by rw [ec1, em8, SX.S_len, SX.S_len, List.length_replicate]; exact Nat.le_trans (show _ ≤ 16 by omega) (by decide)), ?_⟩
        have l71 : ∀ z : Str, z.length = 1 → (SX.S ((c0 :: r0).take 7)).length + z.length ≤ sizeLine := fun z hz => by rw [SX.S_len, hz]; exact Nat.le_trans (show _ ≤ 8 by omega) (by decide)
        refine ⟨_, rfl, 7, rfl, _, rfl, lzn, _, _, rfl, rfl, (by rw [ec7]; exact l71 _ (by decide +kernel)), ?_⟩
        refine ⟨_, rfl, 7, rfl, _, rfl, lzn, _, _, rfl, rfl, (by rw [ec7]; exact l71 _ (by decide +kernel)), ?_⟩
        refine ⟨_, rfl, 7, rfl, _, rfl, lzn, _, _, rfl, rfl, (by rw [ec7, Nat.add_comm]; exact l71 _ (by decide +kernel)), ?_⟩
        refine ⟨_, rfl, 7, rfl, _, rfl, lzn, _, _, rfl, rfl, (by rw [ec7]; exact l71 _ (by decide +kernel)), ?_⟩
        refine ⟨(by show 5 ≤ sizeLine; decide), fun rb nrb => ?_⟩
        have c12 := (Bs.refl hB11).new (o := .lst [.str (SX.S (c0 :: r0) ++ Txt.mul (cutS (SX.S (c0 :: r0)) none (some 1)) 8), .str (cutS (SX.S (c0 :: r0)) none (some 7) ++ "A"), .str (cutS (SX.S (c0 :: r0)) none (some 7) ++ " "), .str ("-" ++ cutS (SX.S (c0 :: r0)) none (some 7)), .str (cutS (SX.S (c0 :: r0)) none (some 7) ++ "1")]) nrb
        refine ⟨p, q, rb, _, rfl, c12.bag, hB11.nn nrb, SqL.of upd_same, (by show 0 < 5; decide), (by show 5 ≤ 1000000000000000000; decide), fun x H13 hx c13 => ?_⟩
        have hxb : ∃ lb : List Nat, x = .str (SX.S lb) ∧ lb.length ≤ 1000 ∧ nmB (SX.S lb) = false := by
          simp only [List.mem_cons, List.not_mem_nil, or_false] at hx
          rcases hx with e | e | e | e | e
          · refine ⟨(c0 :: r0) ++ List.replicate 8 c0, by rw [e, ec1, em8, SX.S_cat], by rw [List.length_append, List.length_replicate]; omega, nm_long (by rw [List.length_append, List.length_replicate]; omega)⟩
          · refine ⟨(c0 :: r0).take 7 ++ [65], by rw [e, ec7, z_A, SX.S_cat], by rw [List.length_append, List.length_singleton]; omega, nm_bad (c := 65) (List.mem_append_right _ (List.mem_singleton_self _)) (by decide)⟩
          · refine ⟨(c0 :: r0).take 7 ++ [32], by rw [e, ec7, z32, SX.S_cat], by rw [List.length_append, List.length_singleton]; omega, nm_bad (c := 32) (List.mem_append_right _ (List.mem_singleton_self _)) (by decide)⟩
          · refine ⟨[45] ++ (c0 :: r0).take 7, by rw [e, ec7, z45, SX.S_cat], by rw [List.length_append, List.length_singleton]; omega, nm_bad (c := 45) (List.mem_append_left _ (List.mem_singleton_self _)) (by decide)⟩
          · refine ⟨(c0 :: r0).take 7 ++ [49], by rw [e, ec7, z49, SX.S_cat], by rw [List.length_append, List.length_singleton]; omega, nm_bad (c := 49) (List.mem_append_right _ (List.mem_singleton_self _)) (by decide)⟩
        obtain ⟨lb, rfl, hlb, hnb⟩ := hxb
        have hB13 := c13.bag
        -- same([is_name(name), is_name(bad), is_number(name)], ..)
        have lS : ∀ (l z : List Nat), l.length ≤ 1000 → ∀ y, V.str (SX.S l) = .str y → y.length ≤ 1000 := fun l _ h y e => by
          injection e with e
          rw [← e, SX.S_len]
          exact h
        refine ⟨_, rfl, _, _, rfl, kin_str, lS _ [] (by omega), ?_⟩
        rw [show nmR (nmV (c0 :: r0)) = true from nm_yes hN]
        refine ⟨_, rfl, _, _, rfl, kin_str, lS _ [] hlb, ?_⟩
        rw [show nmR (.str (SX.S lb)) = false from hnb]
        refine ⟨_, rfl, _, _, _, _, rfl, kin_str, (by show 3 ≤ sizeLine; decide), fun r14 n14 => ⟨(by show 3 ≤ sizeLine; decide), fun r15 n15 => ?_⟩⟩
        have c14 := (Bs.refl hB13).new (o := .lst [.bl true, .bl false, .bl false]) n14
        refine ⟨p, _, _, .list [.bool true, .bool false, .bool false], rfl, da_list (up upd_same n15) (hB13.nn n14) (by show 3 ≤ 100000; decide) (.cons rfl (.cons rfl (.cons rfl .nil))),
          da_list upd_same (c14.bag.nn n15) (by show 3 ≤ 100000; decide) (.cons rfl (.cons rfl (.cons rfl .nil))), fun H16 s16 => ⟨true, rfl, iteF ?_⟩⟩
        have c16 := (c14.new (o := .lst [.bl true, .bl false, .bl false]) n15).same s16
        have hB16 := c16.bag
        -- figures
        refine ⟨⟨_, rfl⟩, _, rfl, p, q, _, rfl, hB16, by decide, by decide, fun nf H17 f0 f1 c17 => ⟨_, _, rfl, rfl, _, rfl, by omega, by omega, fun D nD => ?_⟩⟩
        have hB17 := c17.bag
        refine lc_range (lo := 0) (n := (1 + nf).toNat) (fun i H' => ∃ l : List Nat, l.length = i ∧ (∀ c ∈ l, 48 ≤ c ∧ c ≤ 57) ∧ Bs p q H17 H' ∧ H' D = some (.lst ((l.map fun c => SX.S [c]).map V.str)))
          ⟨[], rfl, (fun c hc => by simp at hc), (Bs.refl hB17).new nD, upd_same⟩ ?_ ?_
        · rintro i H' hi ⟨l, hl, hc, b3, hD⟩
          refine ⟨rfl, _, rfl, p, q, _, rfl, b3.bag, by rw [z_dig, SX.S_len]; decide, by rw [z_dig, SX.S_len]; decide, fun c H2 hcm b4 => ?_⟩
          have c1 : 48 ≤ c ∧ c ≤ 57 := by
            have := az_txt hcm z_dig
            simp only [List.mem_cons, List.not_mem_nil, or_false] at this
            omega
          have dp : D ≠ p := hB17.nn nD
          refine ⟨_, b4.keep _ _ dp hD, by rw [List.length_map, List.length_map, hl]; exact Nat.lt_of_lt_of_le hi (Nat.le_trans (show _ ≤ 20 by omega) (by decide)), l ++ [c], by rw [List.length_append, hl]; rfl, fun d hd => ?_, (b3.trans b4).mut hB17 nD, ?_⟩
          · rcases List.mem_append.mp hd with z | z
            · exact hc d z
            · rw [List.mem_singleton.mp z]
              exact c1
          · rw [upd_same, List.map_append, List.map_append]
            rfl
        rintro H18 ⟨fl, hfl, hfc, b18, hD⟩
        have hf1 : 1 ≤ fl.length := by omega
        have hf20 : fl.length ≤ 20 := by omega
        have els : (fl.map fun c => SX.S [c]).map (·.length) = fl.map fun _ => 1 := by
          rw [List.map_map]
          rfl
        have esum : ∀ l : List Nat, (l.map fun _ => 1).sum = l.length := fun l => by
          induction l with
          | nil => rfl
          | cons x r ih => rw [List.map_cons, List.sum_cons, List.length_cons, ih, Nat.add_comm]
        refine ⟨_, D, fl.map fun c => SX.S [c], rfl, rfl, .inl (SqL.of hD), by rw [els, esum, show (("" : Str).length) = 0 from rfl, Nat.mul_zero]; omega, ?_⟩
        rw [show Txt.join ("" : Str) (fl.map fun c => SX.S [c]) = SX.S fl from join_flat fl]
        have hB18 := b18.bag
        clear c1 k1 c2 c3 c4 c5 c6 c7 c9 c10 c11 c12 c13 c14 c16 c17 b18 hB17 hB16 hB13 hB11 hB6 hBa kn da6 tx6 nu6 nm6 ni6
        have n0 : fl ≠ [] := fun e => by rw [e] at hf1; simp at hf1
        have dig : (fl.all fun c => decide (48 ≤ c) && decide (c ≤ 57)) = true := List.all_eq_true.mpr fun c hc => by rw [decide_eq_true (hfc c hc).1, decide_eq_true (hfc c hc).2]; rfl
        obtain ⟨f0', fr, rfl⟩ : ∃ c r, fl = c :: r := by
          cases fl with
          | nil => exact absurd rfl n0
          | cons c r => exact ⟨c, r, rfl⟩
        have efl : (SX.S (f0' :: fr)).length = (f0' :: fr).length := SX.S_len _
        have lzf : (SX.S (f0' :: fr)).length ≤ sizeLine := by rw [efl]; exact Nat.le_trans hf20 (by decide)
        have z48 : ("0" : Str) = SX.S [48] := by decide +kernel
        have ce : (V.str ⟨#[f0']⟩ = V.str ("0" : Str)) ↔ f0' = 48 := by
          rw [z48]
          exact ⟨fun e => by
            injection e with e
            have := SX.S_inj (a := [f0']) (b := [48]) e
            injection this, fun e => by rw [e]⟩
        have cf : (V.str (SX.S (f0' :: fr)) = V.str ("0" : Str)) ↔ (f0' = 48 ∧ fr = []) := by
          rw [z48]
          exact ⟨fun e => by
            injection e with e
            have := SX.S_inj (b := [48]) e
            injection this with a b
            exact ⟨a, b⟩, fun ⟨a, b⟩ => by rw [a, b]⟩
        -- right
        refine ⟨fun σ H' => (∃ y2 y3 y4 y5 y6 y7 y8 y9 y10 y13 y14 b, σ = [some (.ref a), some (.ref p), y2, y3, y4, y5, y6, y7, y8, y9, y10, some (.str (SX.S (f0' :: fr))), some (.bl b), y13, y14] ∧ b = (niO (f0' :: fr)).isSome) ∧ H' = H18, ?_, ?_⟩
        · refine ⟨_, rfl, _, rfl, lzf, _, _, rfl, rfl, _, rfl, ?_⟩
          rw [efl]
          have no : ∀ b : Bool, niO (f0' :: fr) = none → b = false → b = (niO (f0' :: fr)).isSome := fun b e1 e2 => by rw [e1, e2]; rfl
          refine ite2 (fun e => ?_) (fun e => ?_)
          · have h18 : (f0' :: fr).length ≤ 18 := by have := of_decide_eq_true e; omega
            refine ⟨_, rfl, _, 0, f0', rfl, rfl, lzf, atI_nat (j := 0) rfl, rfl, _, rfl, ?_⟩
            refine ite2 (fun e2 => ?_) (fun e2 => ?_)
            · have c48 : ¬ f0' = 48 := fun z => by rw [decide_eq_true (ce.mpr z)] at e2; cases e2
              exact ⟨⟨_, _, _, _, _, _, _, _, _, _, _, _, rfl, by rw [niO_some h18 n0 dig fun z => c48 (Option.some.inj z.1)]; rfl⟩, rfl⟩
            · have c48 : f0' = 48 := by
                by_cases z : f0' = 48
                · exact z
                · exact absurd (by rw [decide_eq_false fun w => z (ce.mp w)]; rfl) e2
              have last : decide (V.str (SX.S (f0' :: fr)) = V.str ("0" : Str)) = (niO (f0' :: fr)).isSome := by
                by_cases e3 : fr = []
                · rw [decide_eq_true (cf.mpr ⟨c48, e3⟩), niO_some h18 n0 dig fun z => by rw [e3] at z; exact absurd z.2 (by simp)]
                  rfl
                · rw [decide_eq_false fun w => e3 (cf.mp w).2, c48, niO_zero e3]
                  rfl
              exact ⟨_, rfl, rfl, ⟨_, _, _, _, _, _, _, _, _, _, _, _, rfl, last⟩, rfl⟩
          · have h18 : ¬ (f0' :: fr).length ≤ 18 := fun z => e (decide_eq_true (by omega))
            exact ⟨⟨_, _, _, _, _, _, _, _, _, _, _, _, rfl, by rw [show niO (f0' :: fr) = none from if_neg fun z => h18 z.1]; rfl⟩, rfl⟩
        · rintro σ H' ⟨⟨z2, z3, z4, z5, z6, z7, z8, z9, z10, z13, z14, b, rfl, eb⟩, rfl⟩
          have z43 : ("+" : Str) = SX.S [43] := by decide +kernel
          have z32 : (" " : Str) = SX.S [32] := by decide +kernel
          have z95 : ("_" : Str) = SX.S [95] := by decide +kernel
          have ec1 : cutS (SX.S (f0' :: fr)) none (some 1) = SX.S [f0'] := cut_to (by decide)
          have er1 : cutS (SX.S (f0' :: fr)) (some 1) none = SX.S fr := cut_from (by decide)
          have lf20 : ∀ z : Str, z.length = 1 → z.length + (SX.S (f0' :: fr)).length ≤ sizeLine := fun z hz => by rw [efl, hz]; exact Nat.le_trans (show _ ≤ 21 by omega) (by decide)
          refine ⟨_, rfl, _, rfl, _, _, rfl, rfl, lf20 _ (by decide +kernel), ?_⟩
          refine ⟨_, rfl, _, _, rfl, rfl, by rw [Nat.add_comm]; exact lf20 _ (by decide +kernel), ?_⟩
          refine ⟨_, rfl, _, _, rfl, rfl, lf20 _ (by decide +kernel), ?_⟩
          refine ⟨_, rfl, 1, rfl, _, rfl, lzf, _, _, rfl, rfl, by rw [ec1]; exact Nat.le_trans (Nat.add_le_add (Nat.le_refl 1) (show ("_" : Str).length ≤ 1 by decide +kernel)) (by decide), _, rfl, 1, rfl, _, rfl, lzf, _, _, rfl, rfl, by rw [ec1, z95, SX.S_cat, er1, SX.S_len, SX.S_len]; exact Nat.le_trans (show _ ≤ 22 by rw [List.length_cons] at hf20; simp; omega) (by decide), ?_⟩
          refine ⟨_, rfl, _, _, rfl, rfl, lf20 _ (by decide +kernel), (by show 5 ≤ sizeLine; decide), fun rw' nrw => ?_⟩
          have c19 := (Bs.refl hB18).new (o := .lst [.str ("+" ++ SX.S (f0' :: fr)), .str (SX.S (f0' :: fr) ++ " "), .str ("-" ++ SX.S (f0' :: fr)), .str (cutS (SX.S (f0' :: fr)) none (some 1) ++ "_" ++ cutS (SX.S (f0' :: fr)) (some 1) none), .str ("0" ++ SX.S (f0' :: fr))]) nrw
          refine ⟨p, q, rw', _, rfl, c19.bag, hB18.nn nrw, SqL.of upd_same, (by show 0 < 5; decide), (by show 5 ≤ 1000000000000000000; decide), fun x H20 hx c20 => ?_⟩
          have hxw : ∃ lw : List Nat, x = .str (SX.S lw) ∧ lw.length ≤ 1000 ∧ niO lw = none := by
            simp only [List.mem_cons, List.not_mem_nil, or_false] at hx
            rcases hx with e | e | e | e | e
            · exact ⟨[43] ++ (f0' :: fr), by rw [e, z43, SX.S_cat], by rw [List.length_append, List.length_singleton]; omega, niO_mem (c := 43) (List.mem_append_left _ (List.mem_singleton_self _)) (by decide)⟩
            · exact ⟨(f0' :: fr) ++ [32], by rw [e, z32, SX.S_cat], by rw [List.length_append, List.length_singleton]; omega, niO_mem (c := 32) (List.mem_append_right _ (List.mem_singleton_self _)) (by decide)⟩
            · exact ⟨[45] ++ (f0' :: fr), by rw [e, z45, SX.S_cat], by rw [List.length_append, List.length_singleton]; omega, niO_mem (c := 45) (List.mem_append_left _ (List.mem_singleton_self _)) (by decide)⟩
            · exact ⟨[f0'] ++ [95] ++ fr, by rw [e, ec1, er1, z95, SX.S_cat, SX.S_cat], by rw [List.length_append, List.length_append, List.length_singleton, List.length_singleton]; rw [List.length_cons] at hf20; omega, niO_mem (c := 95) (List.mem_append_left _ (List.mem_append_right _ (List.mem_singleton_self _))) (by decide)⟩
            · exact ⟨48 :: (f0' :: fr), by rw [e, z48]; exact congrArg V.str (SX.S_cat [48] (f0' :: fr)), by rw [List.length_cons]; omega, niO_zero n0⟩
          obtain ⟨lw, rfl, hlw, hnw⟩ := hxw
          have hB20 := c20.bag
          have tS : ∀ (l : List Nat), l.length ≤ 1000 → ∀ y, V.str (SX.S l) = .str y → ∃ l', y = SX.S l' ∧ l'.length ≤ 1000 := fun l h y e => by
            injection e with e
            exact ⟨l, e.symm, h⟩
          refine ⟨_, rfl, _, _, rfl, kin_str, tS _ (by omega), _, rfl, _, _, rfl, kin_str, tS _ hlw, ?_⟩
          rw [show niR (.str (SX.S lw)) = .non from (congrArg oV hnw)]
          refine ⟨(by show 2 ≤ sizeLine; decide), fun r21 n21 => ?_⟩
          have c21 := (Bs.refl hB20).new (o := .lst [oV (niO (f0' :: fr)), .non]) n21
          have same2 : ∀ (v : V) (d : PyData) (H : Hp) (r22 : Addr), (∀ H, Da p H 1 (oV (niO (f0' :: fr))) d) → (∀ H, Da p H 1 v d) → upd H20 r21 (.lst [oV (niO (f0' :: fr)), .non]) r22 = none → H = upd (upd H20 r21 (.lst [oV (niO (f0' :: fr)), .non])) r22 (.lst [v, .non]) →
              Da p H 2 (.ref r21) (.list [d, .none]) ∧ Da p H 2 (.ref r22) (.list [d, .none]) ∧ Bs p q H20 H := fun v d H r22 a1 a2 n22 e => by
            subst e
            exact ⟨da_list (up upd_same n22) (hB20.nn n21) (by show 2 ≤ 100000; decide) (.cons (a1 _) (.cons rfl .nil)), da_list upd_same (c21.bag.nn n22) (by show 2 ≤ 100000; decide) (.cons (a2 _) (.cons rfl .nil)), c21.new n22⟩
          refine ⟨_, rfl, b, rfl, ?_⟩
          refine ite2 (fun e => ?_) (fun e => ?_)
          · have ho : niO (f0' :: fr) = some ((NumText.digitsVal (f0' :: fr) : Nat) : Int) := by
              unfold niO at eb ⊢
              split at eb
              · rename_i hc
                rw [if_pos hc]
              · rw [e] at eb
                cases eb
            refine ⟨_, rfl, _, _, rfl, SX.int_S dig n0 (by omega), by rw [efl]; omega, (by show 2 ≤ sizeLine; decide), fun r22 n22 => ?_⟩
            obtain ⟨a1, a2, c22⟩ := same2 _ (.int ((NumText.digitsVal (f0' :: fr) : Nat) : Int)) _ r22 (fun H => by rw [ho]; rfl) (fun H => rfl) n22 rfl
            refine ⟨p, _, _, _, rfl, a1, a2, fun H23 s23 => ⟨true, rfl, iteF ⟨⟨_, _, _, _, _, _, _, _, _, _, _, _, _, rfl⟩, (c22.same s23).bag⟩⟩⟩
          · have ho : niO (f0' :: fr) = none := by
              cases hh : niO (f0' :: fr) with
              | none => rfl
              | some z =>
                rw [hh] at eb
                exact absurd eb e
            refine ⟨(by show 2 ≤ sizeLine; decide), fun r22 n22 => ?_⟩
            obtain ⟨a1, a2, c22⟩ := same2 .non .none _ r22 (fun H => by rw [ho]; rfl) (fun H => rfl) n22 rfl
            refine ⟨p, _, _, _, rfl, a1, a2, fun H23 s23 => ⟨true, rfl, iteF ⟨⟨_, _, _, _, _, _, _, _, _, _, _, _, _, rfl⟩, (c22.same s23).bag⟩⟩⟩
    · rintro σ H1 ⟨⟨y2, y3, y4, y5, y6, y7, y8, y9, y10, y11, y12, y13, y14, rfl⟩, hB⟩
      have z57 : ("9" : Str) = ⟨#[57]⟩ := by decide +kernel
      have e18 : Txt.mul ("9" : Str) 18 = SX.S (List.replicate 18 57) := by rw [z57]; exact mul_one_S 57 18
      have e19 : Txt.mul ("9" : Str) 19 = SX.S (List.replicate 19 57) := by rw [z57]; exact mul_one_S 57 19
      have tS : ∀ (z : Str) (n : Nat), z = SX.S (List.replicate n 57) → n ≤ 1000 → ∀ y, V.str z = .str y → ∃ l', y = SX.S l' ∧ l'.length ≤ 1000 := fun z n h hn y e => by
        injection e with e
        exact ⟨_, e.symm.trans h, by rw [List.length_replicate]; exact hn⟩
      refine ⟨_, _, _, _, rfl, kin_int, _, _, rfl, rfl, _, _, _, _, rfl, kin_int, _, _, rfl, rfl, (by rw [z57]; exact mulOk_one (n := 18) (by decide)), _, _, rfl, kin_str, tS _ 18 e18 (by decide), ?_⟩
      rw [show niR (.str (Txt.mul ("9" : Str) 18)) = .int 999999999999999999 by rw [e18]; decide +kernel]
      refine ⟨_, _, rfl, rfl, (by rw [z57]; exact mulOk_one (n := 19) (by decide)), _, _, rfl, kin_str, tS _ 19 e19 (by decide), ?_⟩
      rw [show niR (.str (Txt.mul ("9" : Str) 19)) = .non by rw [e19]; decide +kernel]
      refine ⟨(by show 5 ≤ sizeLine; decide), fun r1 n1 => ?_⟩
      have c1 := (Bs.refl hB).new (o := .lst [.int 999999999999999999, .bl true, .bl false, .int 999999999999999999, .non]) n1
      refine ⟨10, 18, rfl, rfl, ⟨by decide, by decide, by decide⟩, _, _, rfl, rfl, 10, 18, rfl, rfl, ⟨by decide, by decide, by decide⟩, _, _, rfl, rfl, (by show 5 ≤ sizeLine; decide), fun r2 n2 => ?_⟩
      exact ⟨p, _, _, .list [.int 999999999999999999, .bool true, .bool false, .int 999999999999999999, .none], rfl, da_list (up upd_same n2) (hB.nn n1) (by show 5 ≤ 100000; decide) (.cons rfl (.cons rfl (.cons rfl (.cons rfl (.cons rfl .nil))))),
        da_list upd_same (c1.bag.nn n2) (by show 5 ≤ 100000; decide) (.cons rfl (.cons rfl (.cons rfl (.cons rfl (.cons rfl .nil))))), fun H5 s5 => k _⟩

/-- is_number(most=.., value=.., least=..) -/
theorem kbn_num {f : Addr} {fd : FuncData} (F : FunD K "is_number" "is_number" (defArgs sIsNum) (defBody sIsNum) (defScope sIsNum) [.int 0, .int 999999999999999999] [] f fd) :
    ∃ g, KBn K fd ["value", "least", "most"] 0 ["most", "value", "least"] g (fun _ zs => match zs with | [m, v, l] => [v, l, m] | _ => []) := by
  obtain ⟨oc, od, dV, kV, doc, pm, an, cdv, ct, osl, rfl, lk, hcd, hD, hK⟩ := F.ex
  rcases hD with ⟨e, _⟩ | ⟨_, T, o, its, m, rfl, lT, oT, rT⟩
  · cases e
  · refine ⟨fun _ ws => match ws with | [m, v, l] => [v, l, m] | _ => [], ⟨fun s us ws X l1 l2 => ?_, fun {vs us zs ws} r1 r2 => ?_⟩⟩
    · match us, ws, l1, l2 with
      | [], [a, b, c], _, _ =>
        refine BindsTo.of_looks fun M => ?_
        cases rT with
        | cons ra rt =>
          cases rt with
          | cons rb rt =>
            cases rt
            exact looks_items (k := _) X lT oT (.of_pure rfl)
    · cases r2 with
      | nil => exact .nil
      | cons a r2 =>
        cases r2 with
        | nil => exact .nil
        | cons b r2 =>
          cases r2 with
          | nil => exact .nil
          | cons c r2 =>
            cases r2 with
            | nil => exact .cons b (.cons c (.cons a .nil))
            | cons d r2 => exact .nil
end
theorem all_mk {l : PySem.W.OpenLaw} {w : World} {K : PySem.W.Frag} {h : Heap} {mg : Str → Option Value} {fa : Addr} (X : K.In h) (G : h.Ns mainGlobals mg) (hfa : mg "law" = some (.ref fa))
    {f1 : Addr} {od1 an1 : Option Addr} {sl1 : Array (Option Value)} {oc1 kV1 dc1 pm1 cd1 ct1 : Value}
    {f2 : Addr} {od2 an2 : Option Addr} {sl2 : Array (Option Value)} {oc2 kV2 dc2 pm2 cd2 ct2 : Value}
    {f3 : Addr} {od3 an3 : Option Addr} {sl3 : Array (Option Value)} {oc3 kV3 dc3 pm3 cd3 ct3 : Value}
    {f4 : Addr} {od4 an4 : Option Addr} {sl4 : Array (Option Value)} {oc4 kV4 dc4 pm4 cd4 ct4 : Value}
    {f5 : Addr} {od5 an5 : Option Addr} {sl5 : Array (Option Value)} {oc5 kV5 dc5 pm5 cd5 ct5 : Value}
    {f6 : Addr} {od6 an6 : Option Addr} {sl6 : Array (Option Value)} {oc6 kV6 dc6 pm6 cd6 ct6 : Value}
    {f7 : Addr} {od7 an7 : Option Addr} {sl7 : Array (Option Value)} {oc7 kV7 dc7 pm7 cd7 ct7 : Value}
    {T7 : Addr} {dd7 : Option Addr} {nn7 : Nat} {ss7 : Array (Option Value)} {u0 : Tok} {u1 : Tok}
    {f8 : Addr} {od8 an8 : Option Addr} {sl8 : Array (Option Value)} {oc8 kV8 dc8 pm8 cd8 ct8 : Value}
    {f9 : Addr} {od9 an9 : Option Addr} {sl9 : Array (Option Value)} {oc9 kV9 dc9 pm9 cd9 ct9 : Value}
    {f10 : Addr} {od10 an10 : Option Addr} {sl10 : Array (Option Value)} {oc10 kV10 dc10 pm10 cd10 ct10 : Value}
    {t_GREATEST : Tok}
    {t_MOST_FIGURES : Tok}
    {t_MOST_LETTERS : Tok}
    (a1 : PySem.W.nsIn K mainGlobals "_law_bag" = some (some (.ref f1)))
    (l1 : K.lookup f1 = some ⟨oc1, od1, .func (PySem.W.fnOf "_law_bag" "_law_bag" (defArgs sBag) (defBody sBag) (defScope sBag) .none kV1 dc1 pm1 an1 cd1 ct1), sl1⟩)
    (c1 : PySem.W.codeIn K cd1 "_law_bag" = true) (k1 : PySem.W.keepIn K (.ref f1) = true)
    (a2 : PySem.W.nsIn K mainGlobals "_law_pull" = some (some (.ref f2)))
    (l2 : K.lookup f2 = some ⟨oc2, od2, .func (PySem.W.fnOf "_law_pull" "_law_pull" (defArgs sPull) (defBody sPull) (defScope sPull) .none kV2 dc2 pm2 an2 cd2 ct2), sl2⟩)
    (c2 : PySem.W.codeIn K cd2 "_law_pull" = true) (k2 : PySem.W.keepIn K (.ref f2) = true)
    (a3 : PySem.W.nsIn K mainGlobals "_law_pick" = some (some (.ref f3)))
    (l3 : K.lookup f3 = some ⟨oc3, od3, .func (PySem.W.fnOf "_law_pick" "_law_pick" (defArgs sPick) (defBody sPick) (defScope sPick) .none kV3 dc3 pm3 an3 cd3 ct3), sl3⟩)
    (c3 : PySem.W.codeIn K cd3 "_law_pick" = true) (k3 : PySem.W.keepIn K (.ref f3) = true)
    (a4 : PySem.W.nsIn K mainGlobals "_law_same" = some (some (.ref f4)))
    (l4 : K.lookup f4 = some ⟨oc4, od4, .func (PySem.W.fnOf "_law_same" "_law_same" (defArgs sSame) (defBody sSame) (defScope sSame) .none kV4 dc4 pm4 an4 cd4 ct4), sl4⟩)
    (c4 : PySem.W.codeIn K cd4 "_law_same" = true) (k4 : PySem.W.keepIn K (.ref f4) = true)
    (a5 : PySem.W.nsIn K mainGlobals "_law_names" = some (some (.ref f5)))
    (l5 : K.lookup f5 = some ⟨oc5, od5, .func (PySem.W.fnOf "_law_names" "_law_names" (defArgs sNames) (defBody sNames) (defScope sNames) .none kV5 dc5 pm5 an5 cd5 ct5), sl5⟩)
    (c5 : PySem.W.codeIn K cd5 "_law_names" = true) (k5 : PySem.W.keepIn K (.ref f5) = true)
    (a6 : PySem.W.nsIn K mainGlobals "_law_odd" = some (some (.ref f6)))
    (l6 : K.lookup f6 = some ⟨oc6, od6, .func (PySem.W.fnOf "_law_odd" "_law_odd" (defArgs sOdd) (defBody sOdd) (defScope sOdd) .none kV6 dc6 pm6 an6 cd6 ct6), sl6⟩)
    (c6 : PySem.W.codeIn K cd6 "_law_odd" = true) (k6 : PySem.W.keepIn K (.ref f6) = true)
    (a7 : PySem.W.nsIn K mainGlobals "is_number" = some (some (.ref f7)))
    (l7 : K.lookup f7 = some ⟨oc7, od7, .func (PySem.W.fnOf "is_number" "is_number" (defArgs sIsNum) (defBody sIsNum) (defScope sIsNum) (.ref T7) kV7 dc7 pm7 an7 cd7 ct7), sl7⟩)
    (c7 : PySem.W.codeIn K cd7 "is_number" = true) (k7 : PySem.W.keepIn K (.ref f7) = true)
    (d7 : K.lookup T7 = some ⟨.type "tuple", dd7, .seq #[.int 0 u0, .int 999999999999999999 u1] nn7, ss7⟩)
    (a8 : PySem.W.nsIn K mainGlobals "is_name" = some (some (.ref f8)))
    (l8 : K.lookup f8 = some ⟨oc8, od8, .func (PySem.W.fnOf "is_name" "is_name" (defArgs sIsName) (defBody sIsName) (defScope sIsName) .none kV8 dc8 pm8 an8 cd8 ct8), sl8⟩)
    (c8 : PySem.W.codeIn K cd8 "is_name" = true) (k8 : PySem.W.keepIn K (.ref f8) = true)
    (a9 : PySem.W.nsIn K mainGlobals "number_in" = some (some (.ref f9)))
    (l9 : K.lookup f9 = some ⟨oc9, od9, .func (PySem.W.fnOf "number_in" "number_in" (defArgs sNumIn) (defBody sNumIn) (defScope sNumIn) .none kV9 dc9 pm9 an9 cd9 ct9), sl9⟩)
    (c9 : PySem.W.codeIn K cd9 "number_in" = true) (k9 : PySem.W.keepIn K (.ref f9) = true)
    (a10 : PySem.W.nsIn K mainGlobals "law" = some (some (.ref f10)))
    (l10 : K.lookup f10 = some ⟨oc10, od10, .func (PySem.W.fnOf "law" "law" (defArgs sLaw) (defBody sLaw) (defScope sLaw) .none kV10 dc10 pm10 an10 cd10 ct10), sl10⟩)
    (c10 : PySem.W.codeIn K cd10 "law" = true) (k10 : PySem.W.keepIn K (.ref f10) = true)
    (g_GREATEST : PySem.W.nsIn K mainGlobals "GREATEST" = some (some (.int 999999999999999999 t_GREATEST)))
    (g_MOST_FIGURES : PySem.W.nsIn K mainGlobals "MOST_FIGURES" = some (some (.int 18 t_MOST_FIGURES)))
    (g_MOST_LETTERS : PySem.W.nsIn K mainGlobals "MOST_LETTERS" = some (some (.int 8 t_MOST_LETTERS)))
    (z_len : PySem.W.nsIn K mainGlobals "len" = some none)
    (z_int : PySem.W.nsIn K mainGlobals "int" = some none)
    (z_range : PySem.W.nsIn K mainGlobals "range" = some none)
    (z_isinstance : PySem.W.nsIn K mainGlobals "isinstance" = some none)
    (z_list : PySem.W.nsIn K mainGlobals "list" = some none)
    (z_tuple : PySem.W.nsIn K mainGlobals "tuple" = some none)
    (z_bool : PySem.W.nsIn K mainGlobals "bool" = some none)
    (z_str : PySem.W.nsIn K mainGlobals "str" = some none)
    (z_all : PySem.W.nsIn K mainGlobals "all" = some none)
    (z_zip : PySem.W.nsIn K mainGlobals "zip" = some none) :
    ∃ fd : FuncData, (∀ (s : Shared) (v : Value), BindsTo s fd ⟨[v], []⟩ [("_law_script", v)]) ∧ ∀ base : Heap, K.In base → base.Ns mainGlobals mg → FnOk l.prog w K mg base CX0 4 fa fd ["_law_script"] (spLaw K) := by
  have e := hfa.symm.trans (PySem.W.mg_of X G a10)
  cases e
  have F1 := fun_mk (st := sBag) l1 c1 k1
  have b1 := F1.binds (ps := ["_law_script"]) fun _ _ _ _ _ _ us hl => match us, hl with | [_], _ => rfl
  have F2 := fun_mk (st := sPull) l2 c2 k2
  have b2 := F2.binds (ps := ["_law_bag_here", "_law_many"]) fun _ _ _ _ _ _ us hl => match us, hl with | [_, _], _ => rfl
  have F3 := fun_mk (st := sPick) l3 c3 k3
  have b3 := F3.binds (ps := ["_law_bag_here", "_law_rows"]) fun _ _ _ _ _ _ us hl => match us, hl with | [_, _], _ => rfl
  have F4 := fun_mk (st := sSame) l4 c4 k4
  have b4 := F4.binds (ps := ["_law_found", "_law_due"]) fun _ _ _ _ _ _ us hl => match us, hl with | [_, _], _ => rfl
  have F5 := fun_mk (st := sNames) l5 c5 k5
  have b5 := F5.binds (ps := ["_law_bag_here", "_law_many"]) fun _ _ _ _ _ _ us hl => match us, hl with | [_, _], _ => rfl
  have F6 := fun_mk (st := sOdd) l6 c6 k6
  have b6 := F6.binds (ps := ["_law_bag_here"]) fun _ _ _ _ _ _ us hl => match us, hl with | [_], _ => rfl
  have F8 := fun_mk (st := sIsName) l8 c8 k8
  have b8 := F8.binds (ps := ["value"]) fun _ _ _ _ _ _ us hl => match us, hl with | [_], _ => rfl
  have F9 := fun_mk (st := sNumIn) l9 c9 k9
  have b9 := F9.binds (ps := ["text"]) fun _ _ _ _ _ _ us hl => match us, hl with | [_], _ => rfl
  have F10 := fun_mk (st := sLaw) l10 c10 k10
  have FI : FunD K "is_number" "is_number" (defArgs sIsNum) (defBody sIsNum) (defScope sIsNum) [.int 0, .int 999999999999999999] [] f7 (PySem.W.fnOf "is_number" "is_number" (defArgs sIsNum) (defBody sIsNum) (defScope sIsNum) (.ref T7) kV7 dc7 pm7 an7 cd7 ct7) :=
    ⟨⟨oc7, od7, .ref T7, kV7, dc7, pm7, an7, cd7, ct7, sl7, rfl, l7, c7, .inr ⟨by simp, T7, _, [.int 0 u0, .int 999999999999999999 u1], nn7, rfl, d7, rfl, .cons ⟨_, rfl⟩ (.cons ⟨_, rfl⟩ .nil)⟩, .inl rfl⟩, k7⟩
  have b73 := FI.binds1 (ps := ["value", "least", "most"]) 3 2 (by simp) rfl fun _ _ _ _ _ _ _ us its h1 h2 => match us, its, h1, h2 with | [_, _, _], [_, _], _, _ => ⟨_, rfl, rfl⟩
  have b71 := FI.binds1 (ps := ["value", "least", "most"]) 1 0 (by simp) rfl fun _ _ _ _ _ _ _ us its h1 h2 => match us, its, h1, h2 with | [_], [_, _], _, _ => ⟨_, rfl, rfl⟩
  have b72 := FI.binds1 (ps := ["value", "least", "most"]) 2 1 (by simp) rfl fun _ _ _ _ _ _ _ us its h1 h2 => match us, its, h1, h2 with | [_, _], [_, _], _, _ => ⟨_, rfl, rfl⟩
  have b70 : Binds K (PySem.W.fnOf "is_number" "is_number" (defArgs sIsNum) (defBody sIsNum) (defScope sIsNum) (.ref T7) kV7 dc7 pm7 an7 cd7 ct7) ["value", "least", "most"] [] := by
    obtain ⟨ds, v, b⟩ := b73
    cases v
    exact b
  have b7k := kbn_num FI
  exact ⟨PySem.W.fnOf "law" "law" (defArgs sLaw) (defBody sLaw) (defScope sLaw) .none kV10 dc10 pm10 an10 cd10 ct10, fun s v => .of_eq rfl, fun base _ _ => ok_law F10 ⟨F1, b1, PySem.W.mg_of X G a1, F2, b2, PySem.W.mg_of X G a2, F3, b3, PySem.W.mg_of X G a3, F4, b4, PySem.W.mg_of X G a4, F5, b5, PySem.W.mg_of X G a5, F6, b6, PySem.W.mg_of X G a6,
    FI, b70, b71, b72, b7k, PySem.W.mg_of X G a7, F8, b8, PySem.W.mg_of X G a8, F9, b9, PySem.W.mg_of X G a9, ⟨_, PySem.W.mg_of X G g_GREATEST⟩, ⟨_, PySem.W.mg_of X G g_MOST_FIGURES⟩, ⟨_, PySem.W.mg_of X G g_MOST_LETTERS⟩,
    PySem.W.mg_none_of X G z_len, PySem.W.mg_none_of X G z_int, PySem.W.mg_none_of X G z_range, PySem.W.mg_none_of X G z_isinstance, PySem.W.mg_none_of X G z_list, PySem.W.mg_none_of X G z_tuple, PySem.W.mg_none_of X G z_bool, PySem.W.mg_none_of X G z_str, PySem.W.mg_none_of X G z_all, PySem.W.mg_none_of X G z_zip⟩⟩

end Lp
open PySem PySem.W PyProof.Rows
set_option maxRecDepth 100000 in
set_option maxHeartbeats 0 in
theorem PySem.Challenge.cw_lumplooks_k02_numbers_and_names_holds : PySem.Challenge.rw_lumplooks_k02_numbers_and_names.Holds := by
  w_on; o_law; k_head; (case hw => w_witness2)
  k_fill
  refine L2.walk_of (l := PySem.Challenge.rw_lumplooks_k02_numbers_and_names) (n := 63) (k := 4) (x := "_law_script") (CX := fun _ => L2.CX0) (sp := fun w => Lp.spLaw _) rfl (by decide) rfl ⟨rfl, by decide, by decide⟩ (fun w h Y => PySem.W.kIn_of Y) ?F (fun _ _ a ns hl _ hS => ⟨a, ns, rfl, hS, hl, fun _ => rfl⟩) (fun _ _ _ _ _ h => h)
  case F =>
    intro w mg fa h KX G hmg
    refine' Lp.all_mk KX G hmg ?a1 ?l1 ?c1 ?k1 ?a2 ?l2 ?c2 ?k2 ?a3 ?l3 ?c3 ?k3 ?a4 ?l4 ?c4 ?k4 ?a5 ?l5 ?c5 ?k5 ?a6 ?l6 ?c6 ?k6 ?a7 ?l7 ?c7 ?k7 ?d7 ?a8 ?l8 ?c8 ?k8 ?a9 ?l9 ?c9 ?k9 ?a10 ?l10 ?c10 ?k10 ?g_GREATEST ?g_MOST_FIGURES ?g_MOST_LETTERS ?z_len ?z_int ?z_range ?z_isinstance ?z_list ?z_tuple ?z_bool ?z_str ?z_all ?z_zip
    (case a1 => k_is)
    (case l1 => k_is)
    (case c1 => k_is)
    (case k1 => k_is)
    (case a2 => k_is)
    (case l2 => k_is)
    (case c2 => k_is)
    (case k2 => k_is)
    (case a3 => k_is)
    (case l3 => k_is)
    (case c3 => k_is)
    (case k3 => k_is)
    (case a4 => k_is)
    (case l4 => k_is)
    (case c4 => k_is)
    (case k4 => k_is)
    (case a5 => k_is)
    (case l5 => k_is)
    (case c5 => k_is)
    (case k5 => k_is)
    (case a6 => k_is)
    (case l6 => k_is)
    (case c6 => k_is)
    (case k6 => k_is)
    (case a7 => k_is)
    (case l7 => k_is)
    (case c7 => k_is)
    (case k7 => k_is)
    (case d7 => k_is)
    (case a8 => k_is)
    (case l8 => k_is)
    (case c8 => k_is)
    (case k8 => k_is)
    (case a9 => k_is)
    (case l9 => k_is)
    (case c9 => k_is)
    (case k9 => k_is)
    (case a10 => k_is)
    (case l10 => k_is)
    (case c10 => k_is)
    (case k10 => k_is)
    (case g_GREATEST => k_is)
    (case g_MOST_FIGURES => k_is)
    (case g_MOST_LETTERS => k_is)
    (case z_len => k_is)
    (case z_int => k_is)
    (case z_range => k_is)
    (case z_isinstance => k_is)
    (case z_list => k_is)
    (case z_tuple => k_is)
    (case z_bool => k_is)
    (case z_str => k_is)
    (case z_all => k_is)
    (case z_zip => k_is)

