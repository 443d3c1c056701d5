/- The parts that bytes are: getParts. Condition: the bytes are in memory. -/
import Derived.Test.YtefagaiaflddaaaAtQ
import Derived.Test.YtefagaiaflddaaaSpecAtu
import Derived.Test.YtefagaiaflddaaaPakE
namespace Go.Proofs.Ytefagaiaflddaaa
open Go.RowKit
open Go.Lib (strCells compareBytes)

/-- parts that stand, and what is read behind them -/
def joinP (L : List Pt) (r : List Pt × Nat × Nat) : List Pt × Nat × Nat := if r.2.2 = 0 then (L ++ r.1, r.2.1, 0) else ([], 0, r.2.2)
/-- what getParts answers -/
def getPartsT (l : List UInt8) (p : Int) : List Pt × Nat × Nat :=
  let n := getNum l p
  if n.2.2 ≠ 0 then ([], 0, n.2.2) else if 8 < n.1 then ([], 0, 4) else partsFrom l n.1 n.2.1
theorem parts_err (l : List UInt8) : ∀ (k p : Nat), (partsFrom l k p).2.2 ≠ 0 → partsFrom l k p = ([], 0, (partsFrom l k p).2.2)
  | 0, _, h => absurd rfl h
  | k + 1, p, h => by
    rw [partsFrom] at h ⊢
    simp only at h ⊢
    by_cases h1 : (getText l p 100).2.2 ≠ 0
    · rw [if_pos h1]
    · rw [if_neg h1] at h ⊢
      by_cases h2 : (getNum l (getText l p 100).2.1).2.2 ≠ 0
      · rw [if_pos h2]
      · rw [if_neg h2] at h ⊢
        by_cases h3 : (partsFrom l k (getNum l (getText l p 100).2.1).2.1).2.2 ≠ 0
        · rw [if_pos h3]
        · rw [if_neg h3] at h
          exact absurd rfl h
theorem joinP_bad (L : List Pt) {e : Nat} (he : e ≠ 0) : joinP L ([], 0, e) = ([], 0, e) := if_neg he
theorem parts_text {l : List UInt8} {k p : Nat} {L : List Pt} {t : List UInt8} {q e : Nat} (h : getText l p 100 = (t, q, e)) (he : e ≠ 0) : joinP L (partsFrom l (k + 1) p) = ([], 0, e) := by
  have h1 : partsFrom l (k + 1) p = ([], 0, e) := by
    rw [partsFrom]
    simp only [h]
    exact if_pos he
  rw [h1, joinP_bad L he]
theorem parts_num {l : List UInt8} {k p : Nat} {L : List Pt} {t : List UInt8} {q x y e : Nat} (h : getText l p 100 = (t, q, 0)) (h2 : getNum l q = (x, y, e)) (he : e ≠ 0) : joinP L (partsFrom l (k + 1) p) = ([], 0, e) := by
  have h1 : partsFrom l (k + 1) p = ([], 0, e) := by
    rw [partsFrom]
    simp only [h, h2]
    rw [if_neg (by simp)]
    exact if_pos he
  rw [h1, joinP_bad L he]
theorem parts_next {l : List UInt8} {k p : Nat} {L : List Pt} {t : List UInt8} {q x y : Nat} (h : getText l p 100 = (t, q, 0)) (h2 : getNum l q = (x, y, 0)) : joinP L (partsFrom l (k + 1) p) = joinP (L ++ [⟨⟨t.toArray⟩, (x : Int)⟩]) (partsFrom l k y) := by
  have h1 : partsFrom l (k + 1) p = if (partsFrom l k y).2.2 ≠ 0 then ([], 0, (partsFrom l k y).2.2) else (⟨⟨t.toArray⟩, (x : Int)⟩ :: (partsFrom l k y).1, (partsFrom l k y).2.1, 0) := by
    rw [partsFrom]
    simp only [h, h2]
    rw [if_neg (by simp), if_neg (by simp)]
  rw [h1]
  obtain ⟨r, hr⟩ : ∃ r, partsFrom l k y = r := ⟨_, rfl⟩
  rw [hr]
  by_cases hz : r.2.2 = 0
  · rw [if_neg (by simpa using hz)]
    unfold joinP
    rw [if_pos rfl, if_pos hz]
    simp
  · rw [if_pos hz, joinP_bad L hz]
    unfold joinP
    rw [if_neg hz]
set_option maxRecDepth 100000 in
set_option maxHeartbeats 6400000 in
theorem getParts_any (A : Option Addr) (n c B : Nat) (p0 : Int) (l : List UInt8) (w : World) (h : HasBytes w B A n l) (hB : B ≤ w.heap.size) (hn : n ≤ 1000000) (hnc : n ≤ c) :
    Calls Try.prog 48 #[.slice A n c, .int .i64 p0] w fun e w' =>
      ∃ v, e = .returned (.tuple #[v, .int .i64 ((getPartsT l p0).2.1 : Int), .int .i64 ((getPartsT l p0).2.2 : Int)]) ∧ OwnPts w' w.heap.size v (getPartsT l p0).1 ∧ Below w.heap.size w w' := by
  have HT := Lib.hid (fun wx (p : Nat) (hx : Below w.heap.size w wx) => getText_any A n c B (p : Int) 100 l wx (h.belowOf hx hB) (by omega) hnc)
  have HG := Lib.hid (fun wx (p : Nat) (hx : Below w.heap.size w wx) => getNum_any A n c B (p : Int) l wx (h.belowOf hx hB) (by unfold maxLen; omega) hnc)
  have H0 := Lib.hid (getNum_any A n c B p0 l w h (by unfold maxLen; omega) hnc)
  obtain ⟨R, hR⟩ : ∃ R, getPartsT l p0 = R := ⟨_, rfl⟩
  obtain ⟨⟨cn, p1, z⟩, hg⟩ : ∃ g, getNum l p0 = g := ⟨_, rfl⟩
  rw [hR]
  rw [hg] at H0
  unfold getPartsT at hR
  simp only [hg] at hR
  have HR := Lib.hid hR
  clear h hR hg
  go_enter Try.func48, Try.ntmps48
  go_wp2_with fail
  refine H0.out.mono ?_
  rintro e w1 ⟨rfl, rfl⟩
  by_cases hz : z = 0
  · subst hz
    by_cases h8 : 8 < cn
    · have h8' : (8 : Int) < (cn : Int) := by omega
      obtain rfl : R = ([], 0, 4) := by rw [← HR.out, if_neg (by simp), if_pos h8]
      go_wp2
      go_ret3
      exact ⟨_, rfl, OwnPts.nil _ _, Below.refl _ _⟩
    have h8' : ¬ (8 : Int) < (cn : Int) := by omega
    have HR2 : Hid (joinP [] (partsFrom l cn p1) = R) := Lib.hid (by
      have h9 := HR.out
      rw [if_neg (by simp), if_neg h8] at h9
      rw [h9]
      by_cases hz : R.2.2 = 0
      · obtain ⟨a, b, d⟩ := R; simp only at hz; subst hz; rfl
      · have h8 := parts_err l cn p1 (by rw [h9]; exact hz)
        rw [h9] at h8
        rw [h8, joinP_bad [] hz])
    go_wp2
    go_loopw [4, 5, 6, 22] (fun v pv ev iv wr => ∃ (k p : Nat) (L : List Pt), k ≤ cn ∧ iv = .int .i64 (k : Int) ∧ pv = .int .i64 (p : Int) ∧ ev = .int .i64 0 ∧ L.length = k ∧ OwnPts wr w.heap.size v L ∧ Below w.heap.size w wr ∧ Hid (joinP L (partsFrom l (cn - k) p) = R)) (fun _ _ _ iv _ => cn - (intOf iv).toNat)
    case atStart => exact ⟨0, p1, [], by omega, rfl, rfl, rfl, rfl, OwnPts.nil _ _, Below.refl _ _, HR2⟩
    case round =>
      obtain ⟨k, p, L, hk, rfl, rfl, rfl, hL, ho, hb, HJ⟩ := hrel
      have Ho := Lib.hid ho
      have Hb := Lib.hid hb
      by_cases hlt : k < cn
      · obtain ⟨K, hK⟩ : ∃ K, cn - k = K + 1 := ⟨cn - k - 1, by omega⟩
        have hK2 : cn - (k + 1) = K := by omega
        rw [hK] at HJ
        have hk1 : (k : Int) < (cn : Int) := by omega
        have G1 := Lib.hid (HT.out (wr.alloc (.cells #[.string ⟨#[]⟩, .int .i64 0] 46)) p (hb.alloc hb.size _))
        obtain ⟨⟨t, q, e⟩, ht⟩ : ∃ r, getText l p 100 = r := ⟨_, rfl⟩
        rw [ht] at G1
        obtain ⟨tx, htx⟩ : ∃ tx : ByteArray, ⟨t.toArray⟩ = tx := ⟨_, rfl⟩
        simp only [htx] at G1
        have HTX := Lib.hid (And.intro ht htx)
        clear ht htx hb ho
        go_wp2_with fail
        refine G1.out.mono ?_
        rintro e' w2 ⟨rfl, rfl⟩
        by_cases he : e = 0
        · subst he
          have G2 := Lib.hid (HG.out (wr.alloc (.cells #[.string tx, .int .i64 0] 46)) q (Hb.out.alloc Hb.out.size _))
          obtain ⟨⟨x, y, e2⟩, hx⟩ : ∃ r, getNum l q = r := ⟨_, rfl⟩
          rw [hx] at G2
          have HX := Lib.hid hx
          clear hx G1
          go_wp2_with fail
          refine G2.out.mono ?_
          rintro e' w2 ⟨rfl, rfl⟩
          by_cases he2 : e2 = 0
          · subst he2
            have HJ' : Hid (joinP (L ++ [⟨tx, (x : Int)⟩]) (partsFrom l K y) = R) := Lib.hid (by rw [← HJ.out, parts_next HTX.out.1 HX.out, HTX.out.2])
            obtain ⟨Ao, co, rfl, -, -, -⟩ := Ho.out.slice
            have hO : wr.ownsRow w.heap.size 46 2 (.slice Ao L.length co) L.length (ptCells L) := Ho.out
            rw [hL] at hO ⊢
            have hbb : Below wr.heap.size wr ((wr.alloc (.cells #[.string tx, .int .i64 (x : Int)] 46)).alloc (.cells #[.string tx, .int .i64 (x : Int)] 46)) := (below_box (w := wr) _).alloc (below_box (w := wr) _).size _
            have HO5 := Lib.hid (And.intro (own_belowN hO hbb) (Hb.out.trans (hbb.mono Hb.out.size)))
            have HLt := Has.lit (wr.alloc (.cells #[.string tx, .int .i64 (x : Int)] 46)) #[.string tx, .int .i64 (x : Int)] 46
            simp only [World.size_alloc] at HLt
            have HLit := Lib.hid HLt
            clear hO hbb HLt G2
            go_wp2_with (at_builtin; refine wpList_append_hasN rfl (.tmp 46) (.tmp 48) _ rfl 46 pt_elem (by omega) Try.underlying22 rfl HO5.out.1 rfl HLit.out (ptCells_one [⟨tx, (x : Int)⟩]) (by simp only [maxLen]; omega) (by omega) HO5.out.2.size ?_; intro v7 w7 o7 g7 z7; have H7 : Hid (OwnPts w7 w.heap.size v7 (L ++ [⟨tx, (x : Int)⟩]) ∧ Below w.heap.size w w7) := Lib.hid ⟨by unfold OwnPts; rw [List.length_append, hL, ptCells_app]; exact o7, HO5.out.2.grown g7 HO5.out.2.size fun j ej => (HO5.out.1.lt j ej).1⟩; clear o7 g7 z7)
            go_roundw
            case rel => exact ⟨k + 1, y, L ++ [⟨tx, (x : Int)⟩], by omega, by go_num, rfl, rfl, by rw [List.length_append, hL]; rfl, H7.out.1, H7.out.2, by rw [hK2]; exact HJ'⟩
            case measure => simp [intOf]; omega
          · have hz' : ((e2 : Int) == 0) = false := by simpa using he2
            have hz'' : ((e2 : Int) != 0) = true := by simpa using he2
            obtain rfl : R = ([], 0, e2) := by rw [← HJ.out, parts_num HTX.out.1 HX.out he2]
            have HE : Hid (Below w.heap.size w (wr.alloc (.cells #[.string tx, .int .i64 (x : Int)] 46))) := Lib.hid (Hb.out.alloc Hb.out.size _)
            go_wp2
            go_ret3
            exact ⟨_, rfl, OwnPts.nil _ _, HE.out⟩
        · have hz' : ((e : Int) == 0) = false := by simpa using he
          have hz'' : ((e : Int) != 0) = true := by simpa using he
          obtain rfl : R = ([], 0, e) := by rw [← HJ.out, parts_text HTX.out.1 he]
          have HE : Hid (Below w.heap.size w (wr.alloc (.cells #[.string tx, .int .i64 0] 46))) := Lib.hid (Hb.out.alloc Hb.out.size _)
          go_wp2
          go_ret3
          exact ⟨_, rfl, OwnPts.nil _ _, HE.out⟩
      · obtain rfl : cn = k := by omega
        obtain rfl : R = (L, p, 0) := by rw [← HJ.out, Nat.sub_self]; unfold joinP partsFrom; simp
        go_wp2
        go_ret3
        exact ⟨_, rfl, Ho.out, Hb.out⟩
  · have hz' : ((z : Int) == 0) = false := by simpa using hz
    have hz'' : ((z : Int) != 0) = true := by simpa using hz
    obtain rfl : R = ([], 0, z) := by rw [← HR.out, if_pos hz]
    go_wp2
    go_ret3
    exact ⟨_, rfl, OwnPts.nil _ _, Below.refl _ _⟩
end Go.Proofs.Ytefagaiaflddaaa
