/- The map that a text is: Unpack. Condition: the text is at most a million bytes. -/
import Derived.Test.YtefagaiaflddaaaAtN
import Derived.Test.YtefagaiaflddaaaConv
namespace Go.Proofs.Ytefagaiaflddaaa
open Go.RowKit
open Go.Lib (strCells compareBytes)

/-- the result is stored, where the result's cell is the call's first -/
theorem un_res {w wx : World} {x y : Value} (x' y' : Value) (h : Box wx w.heap.size 24 #[x, y]) (hb : Below w.heap.size w wx) :
    ((wx.setCell ⟨w.heap.size, 0, none⟩ x').setCell ⟨w.heap.size, 1, none⟩ y').cell? ⟨w.heap.size, 0, none⟩ = some x' ∧ ((wx.setCell ⟨w.heap.size, 0, none⟩ x').setCell ⟨w.heap.size, 1, none⟩ y').cell? ⟨w.heap.size, 1, none⟩ = some y' ∧
      Below w.heap.size w ((wx.setCell ⟨w.heap.size, 0, none⟩ x').setCell ⟨w.heap.size, 1, none⟩ y') := by
  have h1 := set2q x' y' h
  exact ⟨h1.cell 0, h1.cell 1, (hb.setCell (Nat.le_refl _) _).setCell (Nat.le_refl _) _⟩
theorem body_small : ∀ (L : List Pt) (q : Pt), q ∈ L → q.lo.size ≤ (bodyP L).length
  | [], _, h => by simp at h
  | p :: L, q, h => by
    unfold bodyP
    simp only [List.length_append, textForm]
    rcases List.mem_cons.1 h with rfl | h
    · have e : q.lb.length = q.lo.size := (Lib.size_eq q.lo).symm
      omega
    · have := body_small L q h
      omega
theorem unpack_parts (l : List UInt8) : unpackT l = if (getNum l 0).2.2 ≠ 0 then (0, [], ((getNum l 0).2.2 : Int)) else if (getPartsT l (getNum l 0).2.1).2.2 ≠ 0 then (0, [], ((getPartsT l (getNum l 0).2.1).2.2 : Int)) else if (getPartsT l (getNum l 0).2.1).2.1 < l.length then (0, [], 3)
      else if checkT (getNum l 0).1 (getPartsT l (getNum l 0).2.1).1 ≠ 0 then (0, [], checkT (getNum l 0).1 (getPartsT l (getNum l 0).2.1).1) else (((getNum l 0).1 : Int), (getPartsT l (getNum l 0).2.1).1, 0) := by
  unfold unpackT getPartsT
  simp only
  by_cases h1 : (getNum l 0).2.2 ≠ 0
  · rw [if_pos h1, if_pos h1]
  · rw [if_neg h1, if_neg h1]
    by_cases h2 : (getNum l (getNum l 0).2.1).2.2 ≠ 0
    · simp only [if_pos h2]
    · simp only [if_neg h2]
      by_cases h3 : 8 < (getNum l (getNum l 0).2.1).1
      · simp only [if_pos h3]
        rw [if_pos (by simp)]
        rfl
      · simp only [if_neg h3]
theorem parts_lens {l : List UInt8} {p : Int} (h : (getPartsT l p).2.2 = 0) : (getPartsT l p).1.length ≤ 8 ∧ (getPartsT l p).2.1 ≤ l.length ∧ ∀ q ∈ (getPartsT l p).1, q.lo.size ≤ l.length := by
  unfold getPartsT at h ⊢
  simp only at h ⊢
  by_cases h2 : (getNum l p).2.2 ≠ 0
  · rw [if_pos h2] at h
    exact absurd h h2
  · rw [if_neg h2] at h ⊢
    by_cases h3 : 8 < (getNum l p).1
    · rw [if_pos h3] at h
      simp at h
    · rw [if_neg h3] at h ⊢
      obtain ⟨-, -, b1, b2⟩ := getNum_bound (Decidable.not_not.1 h2)
      obtain ⟨r1, r2, r3, r4⟩ := parts_one l _ _ b2 h
      refine ⟨by omega, r3, fun q hq => Nat.le_trans (body_small _ q hq) ?_⟩
      rw [r4, List.length_take, List.length_drop]
      omega
set_option maxRecDepth 100000 in
set_option maxHeartbeats 6400000 in
theorem unpack_any (s : ByteArray) (w : World) (hsz : s.size ≤ 1000000) : Calls Try.prog 27 #[.string s] w (MapPost (unpackT s.data.toList) w) := by
  obtain ⟨w1, c, hcv, hc, hs1, hb1, hB1⟩ := conv_bytes Try.prog (w.alloc (.cells #[.int .i64 0, .slice none 0 0] 24)) 9 62 5 s Try.underlying9 Try.underlying62 Try.underlying5
  obtain ⟨l, hl⟩ : ∃ l, s.data.toList = l := ⟨_, rfl⟩
  have hbb : HasBytes w1 w1.heap.size (some ⟨w.heap.size + 1, 0, none⟩) s.size l := by
    have h9 := hB1.has
    rw [hl] at h9
    rw [hs1]
    have e : l.length = s.size := by rw [← hl]; simp
    rw [e] at h9
    simp only [World.size_alloc] at h9 ⊢
    exact h9
  simp only [World.size_alloc] at hcv hs1
  have HBX : Hid (∀ wx, Below w1.heap.size w1 wx → Box wx w.heap.size 24 #[.int .i64 0, .slice none 0 0] ∧ Below w.heap.size w wx) := Lib.hid fun wx hx => by
    have h9 := hb1.trans (hx.mono hb1.size)
    exact ⟨(Box.made w _ _).below h9 (by simp), (below_box _).trans (h9.mono (by simp))⟩
  have HG := Lib.hid (getNum_any (some ⟨w.heap.size + 1, 0, none⟩) s.size c w1.heap.size 0 l w1 hbb (by unfold maxLen; omega) hc)
  have HP := Lib.hid (fun p => getParts_any (some ⟨w.heap.size + 1, 0, none⟩) s.size c w1.heap.size p l w1 hbb (Nat.le_refl _) hsz hc)
  have Hlen : Hid (l.length = s.size) := Lib.hid (by rw [← hl]; simp)
  obtain ⟨R, hR⟩ : ∃ R, unpackT l = R := ⟨_, rfl⟩
  rw [hl, hR]
  rw [unpack_parts] at hR
  obtain ⟨⟨x, p1, z⟩, hg⟩ : ∃ g, getNum l 0 = g := ⟨_, rfl⟩
  rw [hg] at HG
  simp only [hg] at hR
  have HR := Lib.hid hR
  clear hR hg hbb hl hB1 hb1
  go_enter Try.func27, Try.ntmps27
  go_wp2_with fail
  refine HG.out.mono ?_
  rintro e w2 ⟨rfl, rfl⟩
  have hbx := (HBX.out w1 (Below.refl _ _)).1
  have r0 : w1.cell? ⟨w.heap.size, 0, none⟩ = some (.int .i64 0) := hbx.cell 0
  have r1 : w1.cell? ⟨w.heap.size, 1, none⟩ = some (.slice none 0 0) := hbx.cell 1
  have f0 : w1.frozen? ⟨w.heap.size, 0, none⟩ = false := hbx.frozen 0
  have f1 : w1.frozen? ⟨w.heap.size, 1, none⟩ = false := hbx.frozen 1
  clear hbx
  by_cases hz : z = 0
  · subst hz
    obtain ⟨⟨ml, p2, z2⟩, hp⟩ : ∃ g, getPartsT l (p1 : Int) = g := ⟨_, rfl⟩
    have HG2 := Lib.hid (HP.out (p1 : Int))
    rw [hp] at HG2
    have HPT := Lib.hid hp
    clear hp HG HP
    go_wp2_with fail
    refine HG2.out.mono ?_
    rintro e w3 ⟨v3, rfl, o3, b3⟩
    obtain ⟨A3, c3, rfl, -, -, x3⟩ := o3.slice
    have Hb3 := Lib.hid b3
    have HX3 := Lib.hid x3
    have HO3 := Lib.hid o3
    have hbx := (HBX.out w3 b3).1
    have r0 : w3.cell? ⟨w.heap.size, 0, none⟩ = some (.int .i64 0) := hbx.cell 0
    have r1 : w3.cell? ⟨w.heap.size, 1, none⟩ = some (.slice none 0 0) := hbx.cell 1
    have f0 : w3.frozen? ⟨w.heap.size, 0, none⟩ = false := hbx.frozen 0
    have f1 : w3.frozen? ⟨w.heap.size, 1, none⟩ = false := hbx.frozen 1
    have HR2 := Lib.hid HR.out
    rw [if_neg (by simp), HPT.out] at HR2
    clear hbx b3 x3 o3 HR
    by_cases hz2 : z2 = 0
    · subst hz2
      have hpl := parts_lens (l := l) (p := (p1 : Int)) (by rw [HPT.out])
      rw [HPT.out] at hpl
      have HPL := Lib.hid hpl
      rw [if_neg (by simp)] at HR2
      clear hpl
      by_cases hlt : p2 < s.size
      · have hlt' : (p2 : Int) < (s.size : Int) := by omega
        obtain rfl : R = (0, [], 3) := by rw [← HR2.out]; exact if_pos (by rw [Hlen.out]; exact hlt)
        obtain ⟨p0, p1, hbe⟩ := un_res (.int .i64 0) (.slice none 0 0) (HBX.out w3 Hb3.out).1 (HBX.out w3 Hb3.out).2
        have HBE := Lib.hid hbe
        obtain ⟨W3, hW3⟩ : ∃ W3, ((w3.setCell ⟨w.heap.size, 0, none⟩ (.int .i64 0)).setCell ⟨w.heap.size, 1, none⟩ (.slice none 0 0)) = W3 := ⟨_, rfl⟩
        rw [hW3] at p0 p1 HBE
        clear hbe
        go_wp2
        refine bodyPost_ret (v := .tuple #[.agg #[.int .i64 0, .slice none 0 0], .int .i64 3]) ?_ rfl (MapPost.err 3 HBE.out)
        simp [results, Try.results27, go_sem, p0, p1]
      have hlt' : ¬ (p2 : Int) < (s.size : Int) := by omega
      have HR3 : Hid ((if checkT x ml ≠ 0 then ((0, [], checkT x ml) : MapR) else ((x : Int), ml, 0)) = R) := Lib.hid (by rw [← HR2.out]; exact (if_neg (show ¬ p2 < l.length from by rw [Hlen.out]; omega)).symm)
      have HB5 : Hid (Below w1.heap.size w1 (w3.alloc (.cells #[.int .i64 (x : Int), .slice A3 ml.length c3] 24))) := Lib.hid (Hb3.out.alloc Hb3.out.size _)
      have Hc := Lib.hid (check_any (x : Int) A3 ml.length c3 w3.heap.size ml (w3.alloc (.cells #[.int .i64 (x : Int), .slice A3 ml.length c3] 24)) (HX3.out.belowOf (below_box _) (Nat.le_refl _)) (by simp) (Nat.le_trans HPL.out.1 (by unfold maxLen; omega)) (fun q hq => Nat.le_trans (HPL.out.2.2 q hq) (by rw [Hlen.out]; unfold maxLen; omega)))
      unfold CheckPost at Hc
      obtain ⟨ck, hck⟩ : ∃ ck, checkT x ml = ck := ⟨_, rfl⟩
      rw [hck] at Hc HR3
      have HM5 := Lib.hid (Box.made w3 24 #[.int .i64 (x : Int), .slice A3 ml.length c3])
      have HO5 := Lib.hid (HO3.out.below (below_box (w := w3) (Obj.cells #[.int .i64 (x : Int), .slice A3 ml.length c3] 24)))
      clear hck r0 r1 f0 f1
      go_wp2_with fail
      refine Hc.out.mono ?_
      rintro e w6 ⟨rfl, b6⟩
      have HB6 : Hid (Below w1.heap.size w1 w6) := Lib.hid (HB5.out.trans (b6.mono HB5.out.size))
      have hbx := (HBX.out w6 HB6.out).1
      have r0 : w6.cell? ⟨w.heap.size, 0, none⟩ = some (.int .i64 0) := hbx.cell 0
      have r1 : w6.cell? ⟨w.heap.size, 1, none⟩ = some (.slice none 0 0) := hbx.cell 1
      have f0 : w6.frozen? ⟨w.heap.size, 0, none⟩ = false := hbx.frozen 0
      have f1 : w6.frozen? ⟨w.heap.size, 1, none⟩ = false := hbx.frozen 1
      have hm := HM5.out.below b6 HM5.out.lt
      have y0 : w6.cell? ⟨w3.heap.size, 0, none⟩ = some (.int .i64 (x : Int)) := hm.cell 0
      have y1 : w6.cell? ⟨w3.heap.size, 1, none⟩ = some (.slice A3 ml.length c3) := hm.cell 1
      have HO6 := Lib.hid (HO5.out.below b6)
      clear hbx b6 hm
      by_cases hc0 : ck = 0
      · subst hc0
        obtain rfl : R = ((x : Int), ml, 0) := by rw [← HR3.out]; exact if_neg (by simp)
        obtain ⟨p0, p1', hbe⟩ := un_res (.int .i64 (x : Int)) (.slice A3 ml.length c3) (HBX.out w6 HB6.out).1 (HBX.out w6 HB6.out).2
        have hno : (Value.slice A3 ml.length c3).ownBlock ≠ some w.heap.size := fun e => by have := (HO6.out.lt _ e).1; omega
        have HBE := Lib.hid (And.intro hbe (((HO6.out.far (i := 0) (u := .int .i64 (x : Int)) hno).far (i := 1) (u := .slice A3 ml.length c3) hno).base (B' := w.heap.size) (by omega)))
        obtain ⟨W3, hW3⟩ : ∃ W3, ((w6.setCell ⟨w.heap.size, 0, none⟩ (.int .i64 (x : Int))).setCell ⟨w.heap.size, 1, none⟩ (.slice A3 ml.length c3)) = W3 := ⟨_, rfl⟩
        rw [hW3] at p0 p1' HBE
        clear hbe hno
        go_wp2
        refine bodyPost_ret (v := .tuple #[.agg #[.int .i64 (x : Int), .slice A3 ml.length c3], .int .i64 0]) ?_ rfl ⟨_, rfl, HBE.out.2, HBE.out.1⟩
        simp [results, Try.results27, go_sem, p0, p1']
      · have hk' : (ck == 0) = false := by simpa using hc0
        have hk'' : (ck != 0) = true := by simpa using hc0
        obtain rfl : R = (0, [], ck) := by rw [← HR3.out]; exact if_pos hc0
        obtain ⟨p0, p1, hbe⟩ := un_res (.int .i64 0) (.slice none 0 0) (HBX.out w6 HB6.out).1 (HBX.out w6 HB6.out).2
        have HBE := Lib.hid hbe
        obtain ⟨W3, hW3⟩ : ∃ W3, ((w6.setCell ⟨w.heap.size, 0, none⟩ (.int .i64 0)).setCell ⟨w.heap.size, 1, none⟩ (.slice none 0 0)) = W3 := ⟨_, rfl⟩
        rw [hW3] at p0 p1 HBE
        clear hbe
        go_wp2
        refine bodyPost_ret (v := .tuple #[.agg #[.int .i64 0, .slice none 0 0], .int .i64 ck]) ?_ rfl (MapPost.err ck HBE.out)
        simp [results, Try.results27, go_sem, p0, p1]
    · have hz' : ((z2 : Int) == 0) = false := by simpa using hz2
      have hz'' : ((z2 : Int) != 0) = true := by simpa using hz2
      obtain rfl : R = (0, [], (z2 : Int)) := by rw [← HR2.out]; exact if_pos hz2
      obtain ⟨p0, p1, hbe⟩ := un_res (.int .i64 0) (.slice none 0 0) (HBX.out w3 Hb3.out).1 (HBX.out w3 Hb3.out).2
      have HBE := Lib.hid hbe
      obtain ⟨W3, hW3⟩ : ∃ W3, ((w3.setCell ⟨w.heap.size, 0, none⟩ (.int .i64 0)).setCell ⟨w.heap.size, 1, none⟩ (.slice none 0 0)) = W3 := ⟨_, rfl⟩
      rw [hW3] at p0 p1 HBE
      clear hbe
      go_wp2
      refine bodyPost_ret (v := .tuple #[.agg #[.int .i64 0, .slice none 0 0], .int .i64 (z2 : Int)]) ?_ rfl (MapPost.err (z2 : Int) HBE.out)
      simp [results, Try.results27, go_sem, p0, p1]
  · have hz' : ((z : Int) == 0) = false := by simpa using hz
    have hz'' : ((z : Int) != 0) = true := by simpa using hz
    obtain rfl : R = (0, [], (z : Int)) := by rw [← HR.out]; rw [if_pos hz]
    obtain ⟨p0, p1, hbe⟩ := un_res (.int .i64 0) (.slice none 0 0) (HBX.out w1 (Below.refl _ _)).1 (HBX.out w1 (Below.refl _ _)).2
    have HBE := Lib.hid hbe
    obtain ⟨W3, hW3⟩ : ∃ W3, ((w1.setCell ⟨w.heap.size, 0, none⟩ (.int .i64 0)).setCell ⟨w.heap.size, 1, none⟩ (.slice none 0 0)) = W3 := ⟨_, rfl⟩
    rw [hW3] at p0 p1 HBE
    clear hbe
    go_wp2
    refine bodyPost_ret (v := .tuple #[.agg #[.int .i64 0, .slice none 0 0], .int .i64 (z : Int)]) ?_ rfl (MapPost.err (z : Int) HBE.out)
    simp [results, Try.results27, go_sem, p0, p1]
end Go.Proofs.Ytefagaiaflddaaa
