/- The law FrameCuts: for every input it returns true and leaves what it was given. No condition. -/
import Derived.Test.YteegnohfmonakaaFrmJ
import Derived.Test.YteegnohfmonakaaOpenRs
namespace Go.Proofs.Yteegnohfmonakaa
open Go.RowKit
open Go.Lib (strCells)

theorem int_elem1 : Elem Try.prog 3 8 (.int .i64 0) := ⟨by kernel_rfl, rfl⟩
/-- where the first k frames end -/
def endAt (L : List (List UInt8)) (k : Nat) : Nat := (frames (L.take k)).length
def endCells (L : List (List UInt8)) (k : Nat) : List Value := (List.range k).map fun i => Value.int .i64 (endAt L (i + 1) : Int)
theorem endCells_succ (L : List (List UInt8)) (k : Nat) : endCells L (k + 1) = endCells L k ++ [.int .i64 (endAt L (k + 1) : Int)] := by simp [endCells, List.range_succ]
theorem endCells_at (L : List (List UInt8)) {k i : Nat} (h : i < k) : (endCells L k)[i]? = some (.int .i64 (endAt L (i + 1) : Int)) := by simp [endCells, h]
theorem frames_take {L : List (List UInt8)} {k : Nat} {l : List UInt8} (h : L[k]? = some l) : frames (L.take (k + 1)) = frames (L.take k) ++ frameOf l := by
  rw [List.take_add_one, h, Option.toList_some, frames_app, frames_one]
theorem endAt_succ {L : List (List UInt8)} {k : Nat} {l : List UInt8} (h : L[k]? = some l) : endAt L (k + 1) = endAt L k + (8 + l.length) := by
  unfold endAt
  rw [frames_take h, List.length_append, frameOf_len]
theorem endAt_le (L : List (List UInt8)) (k : Nat) : endAt L k ≤ 8 * L.length + bulk L := by
  have h1 := frames_len (L.take k)
  have h2 : bulk (L.take k) ≤ bulk L := by
    have := bulk_app (L.take k) (L.drop k)
    rw [List.take_append_drop] at this
    omega
  have h3 : (L.take k).length ≤ L.length := List.length_take_le' _ _
  unfold endAt
  omega

theorem getD_end (L : List (List UInt8)) {k i : Nat} (h : i < k) : (endCells L k).getD i undef = .int .i64 (endAt L (i + 1) : Int) := by
  rw [List.getD_eq_getElem?_getD, endCells_at L h]
  rfl
set_option maxHeartbeats 6400000 in
theorem frameCuts_walk (A : Option Addr) (n c : Nat) (rs : Brs) (cut : Int) (w : World) (h : HasRs w w.heap.size A n rs) (hn : n ≤ maxLen) (hnc : n ≤ c) :
    Calls Try.prog 5 #[.slice A n c, .int .i64 cut] w fun e w' => e = .returned (.bool true) ∧ Below w.heap.size w w' := by
  have H := Lib.hid h
  have HL := Lib.hid (brLists_at h)
  have Hn := Lib.hid hn
  obtain ⟨L, hL⟩ : ∃ L, brLists rs = L := ⟨_, rfl⟩
  have HLe := Lib.hid hL
  rw [hL] at HL
  clear h hn hL
  go_enter Try.func5, Try.ntmps5
  go_wp2_with fail
  refine (awake_any _).mono ?_
  rintro e w1 ⟨rfl, hb1⟩
  have Hb1 := Lib.hid hb1
  have H1 := Lib.hid (H.out.belowOf hb1 (Nat.le_refl _))
  clear hb1
  go_wp2_with fail
  refine (bulk_any 4000 A n c w.heap.size rs w1 H1.out (by omega) Hn.out).mono ?_
  rintro e w2 ⟨⟨m, rfl, hm⟩, rfl⟩
  rw [HLe.out] at hm
  have Hm := Lib.hid hm
  clear hm
  by_cases hmm : 4000 < m
  · go_wp2
    go_ret
    exact ⟨rfl, Hb1.out⟩
  have hbulk := Hm.out (by omega)
  have hLn := bulk_len L
  rw [HL.out] at hLn
  have Hsz : Hid (∀ k, endAt L k ≤ 36000) := Lib.hid fun k => by have := endAt_le L k; rw [HL.out] at this; omega
  have Hmem : Hid (∀ l ∈ L, l.length ≤ 4000) := Lib.hid fun l hl => by have := bulk_mem hl; omega
  have hn4 : n ≤ 4000 := by omega
  clear hbulk hLn Hm
  go_wp2_with fail
  go_loopw [5, 6, 7, 8, 9] (fun bv ev i _ _ wr => ∃ k : Nat, k ≤ n ∧ i = .int .i64 (k : Int) ∧ wr.ownsRow w.heap.size 5 1 bv (endAt L k) (byteCells (frames (L.take k))) ∧ wr.ownsRow w.heap.size 3 1 ev k (endCells L k) ∧ Below w.heap.size w wr) (fun _ _ i _ _ _ => n - (intOf i).toNat)
  case atStart => exact ⟨0, by omega, rfl, ⟨rfl, .inl ⟨rfl, rfl⟩⟩, ⟨rfl, .inl ⟨rfl, rfl⟩⟩, Hb1.out⟩
  case round =>
    obtain ⟨k, hk, rfl, hownb, howne, hb⟩ := hrel
    have Hb := Lib.hid hb
    clear hb
    by_cases hlt : k < n
    · obtain ⟨a, A', z, c', l, rfl, _, hlk, hzc, hcm, hbl, hc⟩ := (H.out.belowOf Hb.out (Nat.le_refl _)).at_ hlt
      rw [HLe.out] at hlk
      have hz : l.length = z := hbl.len
      have hz4 : z ≤ 4000 := by rw [← hz]; exact Hmem.out l (List.mem_of_getElem? hlk)
      have k0 : (0 : Int) ≤ (k : Int) := by omega
      have k1 : (k : Int) < (n : Int) := by omega
      have He1 : Hid (endAt L (k + 1) = endAt L k + (8 + z)) := Lib.hid (by rw [endAt_succ hlk, hz])
      have Hfr := Lib.hid (frames_take hlk)
      have Hsk := Lib.hid (Hsz.out k)
      have Hownb := Lib.hid hownb
      have Howne := Lib.hid howne
      have Hw := Lib.hid (wrap_any A' z c' w.heap.size l wr hbl Hb.out.size (by omega))
      clear hlk hz hbl hownb howne
      go_wp2_with fail
      refine Hw.out.mono ?_
      rintro e w2 ⟨v2, rfl, hown2, hb2⟩
      obtain ⟨A2, c2, rfl, _, _, hh2⟩ := own_slice hown2
      have Hb2 : Hid (Below w.heap.size w w2) := Lib.hid (Hb.out.trans (hb2.mono Hb.out.size))
      have Hh2 := Lib.hid hh2
      have Hownb2 := Lib.hid (own_below Hownb.out hb2)
      have Howne2 := Lib.hid (own_below Howne.out hb2)
      clear hown2 hb2 hh2 Hw
      go_wp2_with (first
        | (at_builtin; refine wpList_append_has rfl (.tmp 35) (.tmp 36) _ rfl 5 u8_elem Try.underlying22 rfl Hownb2.out rfl Hh2.out (byteCells_one _) (by have := Hsk.out; simp only [maxLen]; omega) (by have := Hsk.out; omega) Hb2.out.size ?_; intro v3 w3 hown3 hg3 hz3; have Howne3 := Lib.hid (own_keep1 Howne2.out fun g hg => own_other hg3 Hownb2.out Howne2.out (by decide) hg); have Hb3 : Hid (Below w.heap.size w w3) := Lib.hid (below_own Hb2.out Hownb2.out hg3 Hb2.out.size); obtain ⟨A3, c3, rfl, _, _, _⟩ := own_slice hown3; have Hown3 := Lib.hid hown3; clear hown3 hg3 hz3)
        | (at_builtin; refine wpList_append_has rfl (.tmp 38) (.tmp 41) _ rfl 3 int_elem1 Try.underlying39 rfl (own_below Howne3.out ((Below.refl _ _).alloc (Nat.le_refl _) _)) rfl (Has.one w3 _ _ _ rfl) (one_int _ _) (by simp only [maxLen]; omega) (by omega) (le_alloc Hb3.out.size _) ?_; intro v4 w4 hown4 hg4 hz4; have Hownb4 := Lib.hid (own_keep1 (own_below Hown3.out ((Below.refl _ _).alloc (Nat.le_refl _) _)) fun g hg => own_other hg4 (own_below Howne3.out ((Below.refl _ _).alloc (Nat.le_refl _) _)) (own_below Hown3.out ((Below.refl _ _).alloc (Nat.le_refl _) _)) (by decide) hg); have Hb4 : Hid (Below w.heap.size w w4) := Lib.hid (below_own (Hb3.out.alloc Hb3.out.size _) (own_below Howne3.out ((Below.refl _ _).alloc (Nat.le_refl _) _)) hg4 (le_alloc Hb3.out.size _)); have Howne4 := Lib.hid hown4; clear hown4 hg4 hz4))
      go_roundw
      case rel => exact ⟨k + 1, by omega, by go_num, own_row Hownb4.out He1.out.symm (by rw [Hfr.out, byteCells_app]), own_row Howne4.out rfl (by rw [endCells_succ, He1.out]; rfl), Hb4.out⟩
      case measure => simp [intOf]; omega
    · obtain rfl : k = n := by omega
      have Hownb := Lib.hid hownb
      have Howne := Lib.hid howne
      obtain ⟨Ab, cb, rfl, hcb, _, hhb⟩ := own_slice hownb
      obtain ⟨Ae, ce, rfl, hce, _, hhe⟩ := own_slice howne
      have hall : frames (L.take k) = frames L := by rw [List.take_of_length_le (by rw [HL.out]; exact Nat.le_refl _)]
      have Hhe := Lib.hid hhe
      have Hall := Lib.hid hall
      have Hsk := Lib.hid (Hsz.out k)
      rw [hall] at hhb
      obtain ⟨X, hX⟩ : ∃ X, endAt L k = X := ⟨_, rfl⟩
      have HX := Lib.hid hX
      rw [hX] at hcb hhb ⊢
      have Hlen : Hid ((frames L).length = X) := Lib.hid (by rw [← Hall.out]; exact HX.out)
      have hX36 : X ≤ 36000 := by have := Hsk.out; rw [HX.out] at this; exact this
      have Hhb := Lib.hid hhb
      clear hhb hhe hownb howne hall hX
      --TAIL
      by_cases hc0 : cut < 0
      · have hX0 : endAt L 0 = 0 := rfl
        go_wp2
        go_loop [10, 11] (fun x i => ∃ j : Nat, j ≤ k ∧ x = .int .i64 (j : Int) ∧ i = .int .i64 (j : Int) ∧ Hid (endAt L j ≤ X)) (fun _ i => k - (intOf i).toNat)
        case atStart => exact ⟨0, by omega, rfl, rfl, Lib.hid (Nat.zero_le _)⟩
        case round =>
          obtain ⟨j, hj, rfl, rfl, H5a⟩ := hrel
          by_cases hjk : j < k
          · obtain ⟨ae, rfl, _, he⟩ := Has.cell Hhe.out hjk
            rw [getD_end L hjk] at he
            have q0 : (0 : Int) ≤ (j : Int) := by omega
            have q1 : (j : Int) < (k : Int) := by omega
            by_cases hE : endAt L (j + 1) ≤ X
            · have hEi : ((endAt L (j + 1) : Nat) : Int) ≤ (X : Int) := by omega
              have HE := Lib.hid hE
              clear hE
              go_wp2
              go_round
              case rel => exact ⟨j + 1, by omega, by go_num, by go_num, HE⟩
              case measure => simp [intOf]; omega
            · have H5b : Hid (j < L.length → X < (frames (L.take (j + 1))).length) := Lib.hid fun _ => Nat.lt_of_not_le hE
              have hEi : ¬ ((endAt L (j + 1) : Nat) : Int) ≤ (X : Int) := by omega
              have Hscan := Lib.hid (scan_cut L (fun p hp => by have := Hmem.out p hp; omega) j X (by rw [HL.out]; omega) H5a.out H5b.out)
              have Htake : Hid (brLists (rs.take j) = L.take j) := Lib.hid (by rw [← HLe.out]; simp [brLists, List.map_take])
              have c0 : (0 : Int) ≤ ((X : Nat) : Int) := by omega
              have c1 : ((X : Nat) : Int) ≤ (cb : Int) := by omega
              have j0 : (0 : Int) ≤ ((j : Nat) : Int) := by omega
              have j1 : ((j : Nat) : Int) ≤ (c : Int) := by omega
              go_wp2_with fail
              refine (scan_any Ab X cb _ ((frames L).take X) wr (HasBytes.head Hhb.out (by omega)) (Nat.le_refl _) (by have := Hsk.out; omega) (by omega)).mono ?_
              rintro e w5 ⟨v5, rs5, rfl, ho5, he5, hb5⟩
              rw [Hscan.out] at he5 ⊢
              have Hb5 : Hid (Below w.heap.size w w5) := Lib.hid (Hb.out.trans (hb5.mono Hb.out.size))
              have Hb5' := Lib.hid hb5
              obtain ⟨A5, c5, rfl, hl5, hm5, hh5⟩ := ho5.has
              have Hsame := Lib.hid (rsame_any A5 A _ j c5 c _ _ rs5 (rs.take j) w5 hh5 ((H.out.belowOf Hb5.out (Nat.le_refl _)).take (by omega)) (Nat.le_refl _) Hb5.out.size (by omega))
              rw [decide_eq_true (show brLists rs5 = brLists (rs.take j) by rw [he5, Htake.out])] at Hsame
              clear ho5 he5 hb5 hh5 hm5 hl5
              generalize hz5 : rs5.length = z5 at *
              clear hz5
              go_wp2_with fail
              refine Hsame.out.mono ?_
              rintro e w6 ⟨rfl, hb6⟩
              have Hb6 : Hid (Below w.heap.size w w6) := Lib.hid (Hb5.out.trans (hb6.mono Hb5.out.size))
              have HY := Lib.hid (show (frames (L.take j)).length = endAt L j from rfl)
              rw [HY.out]
              have Hhe6 := Lib.hid (Has.belowOf (Has.belowOf Hhe.out Hb5'.out (Nat.le_refl _)) hb6 Hb5'.out.size)
              clear hb6
              rcases j with _ | i
              · rw [show endAt L 0 = 0 from rfl]
                go_wp2
                go_ret
                exact ⟨rfl, Hb6.out⟩
              · obtain ⟨ax, hax, _, hx⟩ := Has.cell Hhe6.out (k := i) (by omega)
                rw [getD_end L (by omega)] at hx
                injection hax with hax
                subst hax
                have hji : ((i : Int) + 1 == 0) = false := by simp; omega
                generalize endAt L (i + 1) = Y at *
                have i0 : (0 : Int) ≤ (i : Int) := by omega
                go_wp2
                go_ret
                exact ⟨rfl, Hb6.out⟩
          · obtain rfl : j = k := by omega
            have H5b : Hid (j < L.length → X < (frames (L.take (j + 1))).length) := Lib.hid fun h => absurd h (by rw [HL.out]; omega)
            clear hj hjk
            have Hscan := Lib.hid (scan_cut L (fun p hp => by have := Hmem.out p hp; omega) j X (by rw [HL.out]; omega) H5a.out H5b.out)
            have Htake : Hid (brLists (rs.take j) = L.take j) := Lib.hid (by rw [← HLe.out]; simp [brLists, List.map_take])
            have c0 : (0 : Int) ≤ ((X : Nat) : Int) := by omega
            have c1 : ((X : Nat) : Int) ≤ (cb : Int) := by omega
            have j0 : (0 : Int) ≤ ((j : Nat) : Int) := by omega
            have j1 : ((j : Nat) : Int) ≤ (c : Int) := by omega
            go_wp2_with fail
            refine (scan_any Ab X cb _ ((frames L).take X) wr (HasBytes.head Hhb.out (by omega)) (Nat.le_refl _) (by have := Hsk.out; omega) (by omega)).mono ?_
            rintro e w5 ⟨v5, rs5, rfl, ho5, he5, hb5⟩
            rw [Hscan.out] at he5 ⊢
            have Hb5 : Hid (Below w.heap.size w w5) := Lib.hid (Hb.out.trans (hb5.mono Hb.out.size))
            have Hb5' := Lib.hid hb5
            obtain ⟨A5, c5, rfl, hl5, hm5, hh5⟩ := ho5.has
            have Hsame := Lib.hid (rsame_any A5 A _ j c5 c _ _ rs5 (rs.take j) w5 hh5 ((H.out.belowOf Hb5.out (Nat.le_refl _)).take (by omega)) (Nat.le_refl _) Hb5.out.size (by omega))
            rw [decide_eq_true (show brLists rs5 = brLists (rs.take j) by rw [he5, Htake.out])] at Hsame
            clear ho5 he5 hb5 hh5 hm5 hl5
            generalize hz5 : rs5.length = z5 at *
            clear hz5
            go_wp2_with fail
            refine Hsame.out.mono ?_
            rintro e w6 ⟨rfl, hb6⟩
            have Hb6 : Hid (Below w.heap.size w w6) := Lib.hid (Hb5.out.trans (hb6.mono Hb5.out.size))
            have HY := Lib.hid (show (frames (L.take j)).length = endAt L j from rfl)
            rw [HY.out]
            have Hhe6 := Lib.hid (Has.belowOf (Has.belowOf Hhe.out Hb5'.out (Nat.le_refl _)) hb6 Hb5'.out.size)
            clear hb6
            rcases j with _ | i
            · rw [show endAt L 0 = 0 from rfl]
              go_wp2
              go_ret
              exact ⟨rfl, Hb6.out⟩
            · obtain ⟨ax, hax, _, hx⟩ := Has.cell Hhe6.out (k := i) (by omega)
              rw [getD_end L (by omega)] at hx
              subst hax
              have hji : ((i : Int) + 1 == 0) = false := by simp; omega
              generalize endAt L (i + 1) = Y at *
              have i0 : (0 : Int) ≤ (i : Int) := by omega
              go_wp2
              go_ret
              exact ⟨rfl, Hb6.out⟩
      by_cases hcX : (X : Int) < cut
      · have hX0 : endAt L 0 = 0 := rfl
        go_wp2
        go_loop [10, 11] (fun x i => ∃ j : Nat, j ≤ k ∧ x = .int .i64 (j : Int) ∧ i = .int .i64 (j : Int) ∧ Hid (endAt L j ≤ X)) (fun _ i => k - (intOf i).toNat)
        case atStart => exact ⟨0, by omega, rfl, rfl, Lib.hid (Nat.zero_le _)⟩
        case round =>
          obtain ⟨j, hj, rfl, rfl, H5a⟩ := hrel
          by_cases hjk : j < k
          · obtain ⟨ae, rfl, _, he⟩ := Has.cell Hhe.out hjk
            rw [getD_end L hjk] at he
            have q0 : (0 : Int) ≤ (j : Int) := by omega
            have q1 : (j : Int) < (k : Int) := by omega
            by_cases hE : endAt L (j + 1) ≤ X
            · have hEi : ((endAt L (j + 1) : Nat) : Int) ≤ (X : Int) := by omega
              have HE := Lib.hid hE
              clear hE
              go_wp2
              go_round
              case rel => exact ⟨j + 1, by omega, by go_num, by go_num, HE⟩
              case measure => simp [intOf]; omega
            · have H5b : Hid (j < L.length → X < (frames (L.take (j + 1))).length) := Lib.hid fun _ => Nat.lt_of_not_le hE
              have hEi : ¬ ((endAt L (j + 1) : Nat) : Int) ≤ (X : Int) := by omega
              have Hscan := Lib.hid (scan_cut L (fun p hp => by have := Hmem.out p hp; omega) j X (by rw [HL.out]; omega) H5a.out H5b.out)
              have Htake : Hid (brLists (rs.take j) = L.take j) := Lib.hid (by rw [← HLe.out]; simp [brLists, List.map_take])
              have c0 : (0 : Int) ≤ ((X : Nat) : Int) := by omega
              have c1 : ((X : Nat) : Int) ≤ (cb : Int) := by omega
              have j0 : (0 : Int) ≤ ((j : Nat) : Int) := by omega
              have j1 : ((j : Nat) : Int) ≤ (c : Int) := by omega
              go_wp2_with fail
              refine (scan_any Ab X cb _ ((frames L).take X) wr (HasBytes.head Hhb.out (by omega)) (Nat.le_refl _) (by have := Hsk.out; omega) (by omega)).mono ?_
              rintro e w5 ⟨v5, rs5, rfl, ho5, he5, hb5⟩
              rw [Hscan.out] at he5 ⊢
              have Hb5 : Hid (Below w.heap.size w w5) := Lib.hid (Hb.out.trans (hb5.mono Hb.out.size))
              have Hb5' := Lib.hid hb5
              obtain ⟨A5, c5, rfl, hl5, hm5, hh5⟩ := ho5.has
              have Hsame := Lib.hid (rsame_any A5 A _ j c5 c _ _ rs5 (rs.take j) w5 hh5 ((H.out.belowOf Hb5.out (Nat.le_refl _)).take (by omega)) (Nat.le_refl _) Hb5.out.size (by omega))
              rw [decide_eq_true (show brLists rs5 = brLists (rs.take j) by rw [he5, Htake.out])] at Hsame
              clear ho5 he5 hb5 hh5 hm5 hl5
              generalize hz5 : rs5.length = z5 at *
              clear hz5
              go_wp2_with fail
              refine Hsame.out.mono ?_
              rintro e w6 ⟨rfl, hb6⟩
              have Hb6 : Hid (Below w.heap.size w w6) := Lib.hid (Hb5.out.trans (hb6.mono Hb5.out.size))
              have HY := Lib.hid (show (frames (L.take j)).length = endAt L j from rfl)
              rw [HY.out]
              have Hhe6 := Lib.hid (Has.belowOf (Has.belowOf Hhe.out Hb5'.out (Nat.le_refl _)) hb6 Hb5'.out.size)
              clear hb6
              rcases j with _ | i
              · rw [show endAt L 0 = 0 from rfl]
                go_wp2
                go_ret
                exact ⟨rfl, Hb6.out⟩
              · obtain ⟨ax, hax, _, hx⟩ := Has.cell Hhe6.out (k := i) (by omega)
                rw [getD_end L (by omega)] at hx
                injection hax with hax
                subst hax
                have hji : ((i : Int) + 1 == 0) = false := by simp; omega
                generalize endAt L (i + 1) = Y at *
                have i0 : (0 : Int) ≤ (i : Int) := by omega
                go_wp2
                go_ret
                exact ⟨rfl, Hb6.out⟩
          · obtain rfl : j = k := by omega
            have H5b : Hid (j < L.length → X < (frames (L.take (j + 1))).length) := Lib.hid fun h => absurd h (by rw [HL.out]; omega)
            clear hj hjk
            have Hscan := Lib.hid (scan_cut L (fun p hp => by have := Hmem.out p hp; omega) j X (by rw [HL.out]; omega) H5a.out H5b.out)
            have Htake : Hid (brLists (rs.take j) = L.take j) := Lib.hid (by rw [← HLe.out]; simp [brLists, List.map_take])
            have c0 : (0 : Int) ≤ ((X : Nat) : Int) := by omega
            have c1 : ((X : Nat) : Int) ≤ (cb : Int) := by omega
            have j0 : (0 : Int) ≤ ((j : Nat) : Int) := by omega
            have j1 : ((j : Nat) : Int) ≤ (c : Int) := by omega
            go_wp2_with fail
            refine (scan_any Ab X cb _ ((frames L).take X) wr (HasBytes.head Hhb.out (by omega)) (Nat.le_refl _) (by have := Hsk.out; omega) (by omega)).mono ?_
            rintro e w5 ⟨v5, rs5, rfl, ho5, he5, hb5⟩
            rw [Hscan.out] at he5 ⊢
            have Hb5 : Hid (Below w.heap.size w w5) := Lib.hid (Hb.out.trans (hb5.mono Hb.out.size))
            have Hb5' := Lib.hid hb5
            obtain ⟨A5, c5, rfl, hl5, hm5, hh5⟩ := ho5.has
            have Hsame := Lib.hid (rsame_any A5 A _ j c5 c _ _ rs5 (rs.take j) w5 hh5 ((H.out.belowOf Hb5.out (Nat.le_refl _)).take (by omega)) (Nat.le_refl _) Hb5.out.size (by omega))
            rw [decide_eq_true (show brLists rs5 = brLists (rs.take j) by rw [he5, Htake.out])] at Hsame
            clear ho5 he5 hb5 hh5 hm5 hl5
            generalize hz5 : rs5.length = z5 at *
            clear hz5
            go_wp2_with fail
            refine Hsame.out.mono ?_
            rintro e w6 ⟨rfl, hb6⟩
            have Hb6 : Hid (Below w.heap.size w w6) := Lib.hid (Hb5.out.trans (hb6.mono Hb5.out.size))
            have HY := Lib.hid (show (frames (L.take j)).length = endAt L j from rfl)
            rw [HY.out]
            have Hhe6 := Lib.hid (Has.belowOf (Has.belowOf Hhe.out Hb5'.out (Nat.le_refl _)) hb6 Hb5'.out.size)
            clear hb6
            rcases j with _ | i
            · rw [show endAt L 0 = 0 from rfl]
              go_wp2
              go_ret
              exact ⟨rfl, Hb6.out⟩
            · obtain ⟨ax, hax, _, hx⟩ := Has.cell Hhe6.out (k := i) (by omega)
              rw [getD_end L (by omega)] at hx
              subst hax
              have hji : ((i : Int) + 1 == 0) = false := by simp; omega
              generalize endAt L (i + 1) = Y at *
              have i0 : (0 : Int) ≤ (i : Int) := by omega
              go_wp2
              go_ret
              exact ⟨rfl, Hb6.out⟩
      · obtain ⟨q, rfl⟩ : ∃ q : Nat, cut = q := ⟨cut.toNat, by omega⟩
        have hX0 : endAt L 0 = 0 := rfl
        go_wp2
        go_loop [10, 11] (fun x i => ∃ j : Nat, j ≤ k ∧ x = .int .i64 (j : Int) ∧ i = .int .i64 (j : Int) ∧ Hid (endAt L j ≤ q)) (fun _ i => k - (intOf i).toNat)
        case atStart => exact ⟨0, by omega, rfl, rfl, Lib.hid (Nat.zero_le _)⟩
        case round =>
          obtain ⟨j, hj, rfl, rfl, H5a⟩ := hrel
          by_cases hjk : j < k
          · obtain ⟨ae, rfl, _, he⟩ := Has.cell Hhe.out hjk
            rw [getD_end L hjk] at he
            have q0 : (0 : Int) ≤ (j : Int) := by omega
            have q1 : (j : Int) < (k : Int) := by omega
            by_cases hE : endAt L (j + 1) ≤ q
            · have hEi : ((endAt L (j + 1) : Nat) : Int) ≤ (q : Int) := by omega
              have HE := Lib.hid hE
              clear hE
              go_wp2
              go_round
              case rel => exact ⟨j + 1, by omega, by go_num, by go_num, HE⟩
              case measure => simp [intOf]; omega
            · have H5b : Hid (j < L.length → q < (frames (L.take (j + 1))).length) := Lib.hid fun _ => Nat.lt_of_not_le hE
              have hEi : ¬ ((endAt L (j + 1) : Nat) : Int) ≤ (q : Int) := by omega
              have Hscan := Lib.hid (scan_cut L (fun p hp => by have := Hmem.out p hp; omega) j q (by rw [HL.out]; omega) H5a.out H5b.out)
              have Htake : Hid (brLists (rs.take j) = L.take j) := Lib.hid (by rw [← HLe.out]; simp [brLists, List.map_take])
              have c0 : (0 : Int) ≤ ((q : Nat) : Int) := by omega
              have c1 : ((q : Nat) : Int) ≤ (cb : Int) := by omega
              have j0 : (0 : Int) ≤ ((j : Nat) : Int) := by omega
              have j1 : ((j : Nat) : Int) ≤ (c : Int) := by omega
              go_wp2_with fail
              refine (scan_any Ab q cb _ ((frames L).take q) wr (HasBytes.head Hhb.out (by omega)) (Nat.le_refl _) (by have := Hsk.out; omega) (by omega)).mono ?_
              rintro e w5 ⟨v5, rs5, rfl, ho5, he5, hb5⟩
              rw [Hscan.out] at he5 ⊢
              have Hb5 : Hid (Below w.heap.size w w5) := Lib.hid (Hb.out.trans (hb5.mono Hb.out.size))
              have Hb5' := Lib.hid hb5
              obtain ⟨A5, c5, rfl, hl5, hm5, hh5⟩ := ho5.has
              have Hsame := Lib.hid (rsame_any A5 A _ j c5 c _ _ rs5 (rs.take j) w5 hh5 ((H.out.belowOf Hb5.out (Nat.le_refl _)).take (by omega)) (Nat.le_refl _) Hb5.out.size (by omega))
              rw [decide_eq_true (show brLists rs5 = brLists (rs.take j) by rw [he5, Htake.out])] at Hsame
              clear ho5 he5 hb5 hh5 hm5 hl5
              generalize hz5 : rs5.length = z5 at *
              clear hz5
              go_wp2_with fail
              refine Hsame.out.mono ?_
              rintro e w6 ⟨rfl, hb6⟩
              have Hb6 : Hid (Below w.heap.size w w6) := Lib.hid (Hb5.out.trans (hb6.mono Hb5.out.size))
              have HY := Lib.hid (show (frames (L.take j)).length = endAt L j from rfl)
              rw [HY.out]
              have Hhe6 := Lib.hid (Has.belowOf (Has.belowOf Hhe.out Hb5'.out (Nat.le_refl _)) hb6 Hb5'.out.size)
              clear hb6
              rcases j with _ | i
              · rw [show endAt L 0 = 0 from rfl]
                go_wp2
                go_ret
                exact ⟨rfl, Hb6.out⟩
              · obtain ⟨ax, hax, _, hx⟩ := Has.cell Hhe6.out (k := i) (by omega)
                rw [getD_end L (by omega)] at hx
                injection hax with hax
                subst hax
                have hji : ((i : Int) + 1 == 0) = false := by simp; omega
                generalize endAt L (i + 1) = Y at *
                have i0 : (0 : Int) ≤ (i : Int) := by omega
                go_wp2
                go_ret
                exact ⟨rfl, Hb6.out⟩
          · obtain rfl : j = k := by omega
            have H5b : Hid (j < L.length → q < (frames (L.take (j + 1))).length) := Lib.hid fun h => absurd h (by rw [HL.out]; omega)
            clear hj hjk
            have Hscan := Lib.hid (scan_cut L (fun p hp => by have := Hmem.out p hp; omega) j q (by rw [HL.out]; omega) H5a.out H5b.out)
            have Htake : Hid (brLists (rs.take j) = L.take j) := Lib.hid (by rw [← HLe.out]; simp [brLists, List.map_take])
            have c0 : (0 : Int) ≤ ((q : Nat) : Int) := by omega
            have c1 : ((q : Nat) : Int) ≤ (cb : Int) := by omega
            have j0 : (0 : Int) ≤ ((j : Nat) : Int) := by omega
            have j1 : ((j : Nat) : Int) ≤ (c : Int) := by omega
            go_wp2_with fail
            refine (scan_any Ab q cb _ ((frames L).take q) wr (HasBytes.head Hhb.out (by omega)) (Nat.le_refl _) (by have := Hsk.out; omega) (by omega)).mono ?_
            rintro e w5 ⟨v5, rs5, rfl, ho5, he5, hb5⟩
            rw [Hscan.out] at he5 ⊢
            have Hb5 : Hid (Below w.heap.size w w5) := Lib.hid (Hb.out.trans (hb5.mono Hb.out.size))
            have Hb5' := Lib.hid hb5
            obtain ⟨A5, c5, rfl, hl5, hm5, hh5⟩ := ho5.has
            have Hsame := Lib.hid (rsame_any A5 A _ j c5 c _ _ rs5 (rs.take j) w5 hh5 ((H.out.belowOf Hb5.out (Nat.le_refl _)).take (by omega)) (Nat.le_refl _) Hb5.out.size (by omega))
            rw [decide_eq_true (show brLists rs5 = brLists (rs.take j) by rw [he5, Htake.out])] at Hsame
            clear ho5 he5 hb5 hh5 hm5 hl5
            generalize hz5 : rs5.length = z5 at *
            clear hz5
            go_wp2_with fail
            refine Hsame.out.mono ?_
            rintro e w6 ⟨rfl, hb6⟩
            have Hb6 : Hid (Below w.heap.size w w6) := Lib.hid (Hb5.out.trans (hb6.mono Hb5.out.size))
            have HY := Lib.hid (show (frames (L.take j)).length = endAt L j from rfl)
            rw [HY.out]
            have Hhe6 := Lib.hid (Has.belowOf (Has.belowOf Hhe.out Hb5'.out (Nat.le_refl _)) hb6 Hb5'.out.size)
            clear hb6
            rcases j with _ | i
            · rw [show endAt L 0 = 0 from rfl]
              go_wp2
              go_ret
              exact ⟨rfl, Hb6.out⟩
            · obtain ⟨ax, hax, _, hx⟩ := Has.cell Hhe6.out (k := i) (by omega)
              rw [getD_end L (by omega)] at hx
              subst hax
              have hji : ((i : Int) + 1 == 0) = false := by simp; omega
              generalize endAt L (i + 1) = Y at *
              have i0 : (0 : Int) ≤ (i : Int) := by omega
              go_wp2
              go_ret
              exact ⟨rfl, Hb6.out⟩

namespace lawFrameCuts
open Go.ChangeShapes Go.WideShapes Go.ChangeAt

theorem own : ownKnob Try.prog.godebug = none := by kernel_rfl
theorem kids : Kids Try.prog (· < Try.prog.types.size) := kids_rows (by kernel_rfl) (by kernel_rfl)
theorem full : ∀ t e, t < Try.prog.types.size → Try.prog.underlying t = some (.slice e) → 0 < Try.prog.cellsOf e := slices_full_of Try.prog (by kernel_rfl)

set_option maxRecDepth 100000 in
theorem lifted (os : Os) (started : os.Started) (H : Type) (enc : TypeId × Value → H) :
    ReturnsInHanded {} Try.checked os 5 .any (Rows.frameCutsSpec.pre6 enc Try.prog Try.f5 Rows.frameCutsRow.domain false) (Rows.frameCutsSpec.post enc Try.prog Try.f5 false true false false) := by
  refine returnsInHanded_of_change (C := Try.checked) own started (by kernel_rfl) Try.func5
    (ChangeSpec.witness6 (enc := enc) (C := Try.checked) false ⟨#[], #[.slice none 0 0, .int .i64 0], []⟩ 8 (by kernel_rfl) (by kernel_rfl) (by kernel_rfl) (by kernel_rfl)) ?_
  intro W base args ds gs before hval0 hW _ _
  have hval : ∀ (j : Nat) t v, Try.f5.params[j]? = some t → args[j]? = some v → Value.okWide Try.prog W .any base t v := hval0
  have hW' := hW
  obtain ⟨p, q, hA0, hV, rfl, _, _⟩ := hW
  obtain ⟨rfl, rfl⟩ := trodVars_none hV
  have hA : DataW.TrodAll enc Try.prog W 0 (fun _ => true) true Try.f5.params.toList args.toList ds p := hA0
  rw [Try.params5] at hA hval
  obtain ⟨v0, vs0, d0, ds0, p0, q0, hargs, rfl, rfl, h0, r0⟩ := trodAll_cons hA
  obtain ⟨v1, vs1, d1, ds1, p1, q1, rfl, rfl, rfl, h1, r1⟩ := trodAll_cons r0
  obtain ⟨rfl, rfl, rfl⟩ := trodAll_nil r1
  obtain rfl : args = #[v0, v1] := by cases args; simp_all
  have hlt := hW'.lt
  obtain ⟨A0, n0, c0, rs0, rfl, hn0, hnc0, hb0⟩ := open_rs Try.underlying33 (by kernel_rfl) Try.underlying22 Try.underlying5 (by kernel_rfl) (hval 0 33 v0 rfl rfl) h0 (fun x hx => hlt x (by simp [hx]))
  obtain ⟨k1, rfl, _, _, _⟩ := open_int Try.underlying3 (hval 1 3 v1 rfl rfl) h1
  refine (frameCuts_walk A0 n0 c0 rs0 k1 W hb0 hn0 hnc0).mono fun e W' ⟨he, hbel⟩ => ?_
  subst he
  exact ⟨_, rfl, law_post kids full (of_decide_eq_true (by kernel_rfl)) Try.underlying4 rfl rfl rfl hW' hbel⟩

theorem proved : Rows.FrameCutsSaid :=
  OpenClaim.holds_of_wide 5 Try.f5 rfl rfl rfl rfl rfl rfl rfl ⟨rfl, rfl, rfl, rfl, rfl⟩ rfl rfl rfl rfl rfl (by kernel_rfl) Try.func5 (by kernel_rfl)
    (of_decide_eq_true (by kernel_rfl)) (by unfold Func.isWrapper; first | (rw [if_pos (by decide +kernel)]; kernel_rfl) | (rw [if_neg (by decide +kernel)]; exact ⟨rfl, rfl⟩))
    (fun os started H enc _ => lifted os started H enc)
end lawFrameCuts

end Go.Proofs.Yteegnohfmonakaa
