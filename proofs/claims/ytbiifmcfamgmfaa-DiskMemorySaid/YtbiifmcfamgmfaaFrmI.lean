/- The document's Same and Bulk of layer 6: whether two rows of rows of bytes have the same bytes; a bound of how many bytes they have. Condition: rows in memory. -/
import Derived.Test.YtbiifmcfamgmfaaFrmE
import Derived.Test.YtbiifmcfamgmfaaConv
namespace Go.Proofs.Ytbiifmcfamgmfaa
open Go.RowKit
open Go.Lib (strCells)

/-- how many bytes rows have, with one for each -/
def bulk : List (List UInt8) → Nat
  | [] => 0
  | l :: r => l.length + 1 + bulk r
theorem bulk_app (a b : List (List UInt8)) : bulk (a ++ b) = bulk a + bulk b := by
  induction a with
  | nil => simp [bulk]
  | cons x a ih => simp only [List.cons_append, bulk, ih]; omega
theorem bulk_len (a : List (List UInt8)) : a.length ≤ bulk a := by
  induction a with
  | nil => simp [bulk]
  | cons x a ih => simp only [List.length_cons, bulk]; omega
theorem bulk_mem {a : List (List UInt8)} {l : List UInt8} (h : l ∈ a) : l.length < bulk a := by
  induction a with
  | nil => simp at h
  | cons x a ih =>
    simp only [bulk]
    rcases List.mem_cons.1 h with e | e
    · subst e; omega
    · have := ih e; omega
theorem frames_len (a : List (List UInt8)) : (frames a).length + a.length ≤ 8 * a.length + bulk a := by
  induction a with
  | nil => simp [frames, bulk]
  | cons x a ih => simp only [frames, bulk, List.length_append, frameOf_len, List.length_cons]; omega
theorem brLists_len (rs : Brs) : (brLists rs).length = rs.length := by simp [brLists]
theorem brLists_at {w : World} {B n : Nat} {A : Option Addr} {rs : Brs} (h : HasRs w B A n rs) : (brLists rs).length = n := by rw [brLists_len, h.len]

set_option maxHeartbeats 800000 in
theorem bulk_any (most : Nat) (A : Option Addr) (n c C : Nat) (rs : Brs) (w : World) (h : HasRs w C A n rs) (hm : most ≤ 1000000) (hn : n ≤ maxLen) :
    Calls Try.prog 8 #[.slice A n c, .int .i64 (most : Int)] w fun e w' => (∃ m : Nat, e = .returned (.int .i64 (m : Int)) ∧ (m ≤ most → bulk (brLists rs) ≤ most)) ∧ w = w' := by
  unfold maxLen at hn
  have H := Lib.hid h
  have Hl := Lib.hid (brLists_at h)
  clear h
  go_enter Try.func8, Try.ntmps8
  go_wp2
  go_loop [5, 6] (fun x i => ∃ (k m : Nat), k ≤ n ∧ x = .int .i64 (m : Int) ∧ i = .int .i64 (k : Int) ∧ m ≤ 2 * most + 1 ∧ Hid (m ≤ most → m = bulk ((brLists rs).take k))) (fun _ i => n - (intOf i).toNat)
  case atStart => exact ⟨0, 0, by omega, rfl, rfl, by omega, Lib.hid fun _ => rfl⟩
  case round =>
    obtain ⟨k, m, hk, rfl, rfl, hm2, Hj⟩ := hrel
    by_cases hlt : k < n
    · by_cases hmm : m ≤ most
      · obtain ⟨a, A', z, c', l, rfl, _, hlk, hzc, hcm, hb, hc⟩ := H.out.at_ hlt
        unfold maxLen at hcm
        have hz : l.length = z := hb.len
        have Hlk := Lib.hid hlk
        have Hz := Lib.hid hz
        have k0 : (0 : Int) ≤ (k : Int) := by omega
        have k1 : (k : Int) < (n : Int) := by omega
        have Ht : Hid ((brLists rs).take (k + 1) = (brLists rs).take k ++ [l]) := Lib.hid (by
          rw [List.take_add_one, Hlk.out]
          rfl)
        clear hlk hz hb
        by_cases hzm : z ≤ most
        · have hmin : min (z : Int) (most : Int) = (z : Int) := by omega
          go_wp2
          go_round
          case rel =>
            refine ⟨k + 1, m + 1 + z, by omega, by go_num, by go_num, by omega, Lib.hid fun _ => ?_⟩
            rw [Ht.out, bulk_app, ← Hj.out hmm, bulk, bulk, Hz.out]
            omega
          case measure => simp [intOf]; omega
        · have hmin : min (z : Int) (most : Int) = (most : Int) := by omega
          go_wp2
          go_round
          case rel => exact ⟨k + 1, m + 1 + most, by omega, by go_num, by go_num, by omega, Lib.hid fun h => by omega⟩
          case measure => simp [intOf]; omega
      · go_wp2
        go_ret
        exact ⟨⟨m, rfl, fun h => absurd h hmm⟩, rfl⟩
    · obtain rfl : k = n := by omega
      go_wp2
      go_ret
      refine ⟨⟨m, rfl, fun h => ?_⟩, rfl⟩
      have e := Hj.out h
      rw [List.take_of_length_le (by rw [Hl.out]; exact Nat.le_refl _)] at e
      omega

theorem ret_bool {a b : Bool} (h : a = b) : Ending.returned (.bool a) = .returned (.bool b) := by rw [h]
set_option maxHeartbeats 1600000 in
theorem rsame_q (A A' : Option Addr) (n n' c c' C C' : Nat) (rs rs' : Brs) (w : World) (h : HasRs w C A n rs) (h' : HasRs w C' A' n' rs') (hC : C ≤ w.heap.size) (hC' : C' ≤ w.heap.size) (hn : n ≤ maxLen) :
    Calls Try.prog 14 #[.slice A n c, .slice A' n' c'] w fun e w' => e = .returned (.bool (decide (brLists rs = brLists rs'))) ∧ ∃ m, w' = w.drewN m := by
  unfold maxLen at hn
  have H := Lib.hid h
  have H' := Lib.hid h'
  have Hl := Lib.hid (brLists_at h)
  have Hm := Lib.hid (brLists_at h')
  have HC := Lib.hid hC
  have HC' := Lib.hid hC'
  clear h h' hC hC'
  by_cases hnn : n = n'
  · subst hnn
    have hnb : ((n : Int) != (n : Int)) = false := by simp
    go_enter Try.func14, Try.ntmps14
    go_wp2
    go_loopw [4, 5] (fun _ i wr => ∃ k : Nat, k ≤ n ∧ i = .int .i64 (k : Int) ∧ Hid ((brLists rs).take k = (brLists rs').take k) ∧ ∃ m, wr = w.drewN m) (fun _ i _ => n - (intOf i).toNat)
    case atStart => exact ⟨0, by omega, rfl, Lib.hid rfl, 0, rfl⟩
    case round =>
      obtain ⟨k, hk, rfl, Ht, md, hmd⟩ := hrel
      have Hb : Hid (Below w.heap.size w wr) := Lib.hid (hmd ▸ below_drews (Below.refl _ _) md)
      have Hd : Hid (∀ j, ∃ m, wr.drewN j = w.drewN m) := Lib.hid fun j => ⟨_, by rw [hmd]; exact World.drewN_drewN _ _ _⟩
      clear hmd
      by_cases hlt : k < n
      · obtain ⟨a, A1, z1, c1, l1, rfl, _, hg1, _, _, hb1, q1⟩ := (H.out.belowOf Hb.out HC.out).at_ hlt
        obtain ⟨b, A2, z2, c2, l2, rfl, _, hg2, _, _, hb2, q2⟩ := (H'.out.belowOf Hb.out HC'.out).at_ hlt
        have hcv1 := fun j => string_run (w := wr.drewN j) hb1 c1
        have hcv2 := fun j => string_run (w := wr.drewN j) hb2 c2
        have Hg1 := Lib.hid hg1
        have Hg2 := Lib.hid hg2
        have hk0 : (0 : Int) ≤ (k : Int) := by omega
        have hk1 : (k : Int) < (n : Int) := by omega
        clear hg1 hg2 hb1 hb2
        by_cases e : l1 = l2
        · subst e
          have Ht2 : Hid ((brLists rs).take (k + 1) = (brLists rs').take (k + 1)) := Lib.hid (by
            rw [List.take_add_one, List.take_add_one, Ht.out, Hg1.out, Hg2.out])
          go_wp2
          go_quiet (fail)
          go_wp2
          go_roundw
          case rel => exact ⟨k + 1, by omega, by go_num, Ht2, Hd.out _⟩
          case measure => simp [intOf]; omega
        · have hfb : (l1 == l2) = false := by simpa using e
          have E : Hid (decide (brLists rs = brLists rs') = false) := Lib.hid (decide_eq_false fun e' => by
            have h1 := Hg1.out
            rw [e', Hg2.out] at h1
            injection h1 with h1
            exact e h1.symm)
          clear e
          go_wp2
          go_quiet (fail)
          go_wp2
          go_ret
          exact ⟨ret_bool (by rw [E.out]), Hd.out _⟩
      · have E : Hid (decide (brLists rs = brLists rs') = true) := Lib.hid (decide_eq_true (by
          have h1 := Ht.out
          rwa [List.take_of_length_le (by have := Hl.out; omega), List.take_of_length_le (by have := Hm.out; omega)] at h1))
        go_wp2
        go_ret
        exact ⟨ret_bool (by rw [E.out]), Hd.out 0⟩
  · have E : Hid (decide (brLists rs = brLists rs') = false) := Lib.hid (decide_eq_false fun e => hnn (by
      rw [← Hl.out, ← Hm.out, e]))
    have hb : ((n : Int) != (n' : Int)) = true := by simp; omega
    clear hnn
    go_enter Try.func14, Try.ntmps14
    go_wp2
    go_ret
    exact ⟨ret_bool (by rw [E.out]), 0, rfl⟩

theorem rsame_any (A A' : Option Addr) (n n' c c' C C' : Nat) (rs rs' : Brs) (w : World) (h : HasRs w C A n rs) (h' : HasRs w C' A' n' rs') (hC : C ≤ w.heap.size) (hC' : C' ≤ w.heap.size) (hn : n ≤ maxLen) :
    Calls Try.prog 14 #[.slice A n c, .slice A' n' c'] w fun e w' => e = .returned (.bool (decide (brLists rs = brLists rs'))) ∧ Below w.heap.size w w' :=
  (rsame_q A A' n n' c c' C C' rs rs' w h h' hC hC' hn).mono fun _ _ ⟨e, _, hm⟩ => ⟨e, hm ▸ below_drews (Below.refl _ _) _⟩

end Go.Proofs.Ytbiifmcfamgmfaa
