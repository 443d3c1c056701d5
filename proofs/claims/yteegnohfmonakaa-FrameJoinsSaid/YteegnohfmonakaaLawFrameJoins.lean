/- The law FrameJoins: for every input it returns true and leaves what it was given. No condition. -/
import Derived.Test.YteegnohfmonakaaFrmJ
import Derived.Test.YteegnohfmonakaaOpenRs
namespace Go.Proofs.Yteegnohfmonakaa
open Go.RowKit
open Go.Lib (strCells)

def endJ (L : List (List UInt8)) (k : Nat) : Nat := (frames (L.take k)).length
theorem endJ_succ {L : List (List UInt8)} {k : Nat} {l : List UInt8} (h : L[k]? = some l) : endJ L (k + 1) = endJ L k + (8 + l.length) ∧ frames (L.take (k + 1)) = frames (L.take k) ++ frameOf l := by
  have e : frames (L.take (k + 1)) = frames (L.take k) ++ frameOf l := by rw [List.take_add_one, h, Option.toList_some, frames_app, frames_one]
  refine ⟨?_, e⟩
  unfold endJ
  rw [e, List.length_append, frameOf_len]
theorem endJ_le (L : List (List UInt8)) (k : Nat) : endJ L k ≤ 8 * L.length + bulk L := by
  have h1 := frames_len (L.take k)
  have h2 : bulk (L.take k) ≤ bulk L := by
    have := bulk_app (L.take k) (L.drop k)
    rw [List.take_append_drop] at this
    omega
  have h3 : (L.take k).length ≤ L.length := List.length_take_le' _ _
  unfold endJ
  omega
theorem nil_own (w : World) (B : Nat) (e : TypeId) : w.ownsRow B e 1 (.slice none 0 0) 0 [] := ⟨rfl, .inl ⟨rfl, rfl⟩⟩
theorem brCells_one {w : World} {B n : Nat} {A : Option Addr} {rs : Brs} (h : HasRs w B A n rs) : ∀ u ∈ brCells rs, u.oneCell' = true := by
  intro u hu
  obtain ⟨r, hr, rfl⟩ := List.mem_map.1 hu
  obtain ⟨A', m, c, e, _⟩ := h.2 r hr
  rw [e]
  rfl
theorem brCells_app (a b : Brs) : brCells (a ++ b) = brCells a ++ brCells b := by simp [brCells]

set_option maxHeartbeats 6400000 in
theorem frameJoins_walk (A A' J : Option Addr) (n c n' c' z cz : Nat) (rs rs' : Brs) (junk : List UInt8) (w : World) (h : HasRs w w.heap.size A n rs) (h' : HasRs w w.heap.size A' n' rs') (hj : HasBytes w w.heap.size J z junk) (hn : n ≤ maxLen) (hn' : n' ≤ maxLen) (hz : z ≤ maxLen) :
    Calls Try.prog 7 #[.slice A n c, .slice A' n' c', .slice J z cz] w fun e w' => e = .returned (.bool true) ∧ Below w.heap.size w w' := by
  have H := Lib.hid h
  have H' := Lib.hid h'
  have HJ := Lib.hid hj
  have Hn := Lib.hid hn
  have Hn' := Lib.hid hn'
  have HL := Lib.hid (brLists_at h)
  have HL' := Lib.hid (brLists_at h')
  obtain ⟨L, hL⟩ : ∃ L, brLists rs = L := ⟨_, rfl⟩
  obtain ⟨L', hL'⟩ : ∃ L, brLists rs' = L := ⟨_, rfl⟩
  have HLe := Lib.hid hL
  have HLe' := Lib.hid hL'
  rw [hL] at HL
  rw [hL'] at HL'
  unfold maxLen at hz
  clear h h' hj hn hn' hL hL'
  go_enter Try.func7, Try.ntmps7
  go_wp2_with fail
  refine (awake_any _).mono ?_
  rintro e w1 ⟨rfl, hb1⟩
  have Hb1 := Lib.hid hb1
  clear hb1
  go_wp2_with fail
  refine (bulk_any 2000 A n c w.heap.size rs w1 (H.out.belowOf Hb1.out (Nat.le_refl _)) (by omega) Hn.out).mono ?_
  rintro e w2 ⟨⟨m, rfl, hm⟩, rfl⟩
  rw [HLe.out] at hm
  have Hm := Lib.hid hm
  clear hm
  by_cases hmm : 2000 < m
  · go_wp2
    go_ret
    exact ⟨rfl, Hb1.out⟩
  go_wp2_with fail
  refine (bulk_any 2000 A' n' c' w.heap.size rs' w1 (H'.out.belowOf Hb1.out (Nat.le_refl _)) (by omega) Hn'.out).mono ?_
  rintro e w2 ⟨⟨m', rfl, hm'⟩, rfl⟩
  rw [HLe'.out] at hm'
  have Hm' := Lib.hid hm'
  clear hm'
  by_cases hmm' : 2000 < m'
  · go_wp2
    go_ret
    exact ⟨rfl, Hb1.out⟩
  by_cases hz7 : 7 < z
  · go_wp2
    go_ret
    exact ⟨rfl, Hb1.out⟩
  have hbulk := Hm.out (by omega)
  have hLn := bulk_len L
  rw [HL.out] at hLn
  have Hsz : Hid (∀ k, endJ L k ≤ 18000) := Lib.hid fun k => by have := endJ_le L k; rw [HL.out] at this; omega
  have Hmem : Hid (∀ l ∈ L, l.length ≤ 2000) := Lib.hid fun l hl => by have := bulk_mem hl; omega
  have hn4 : n ≤ 2000 := by omega
  have hbulk' := Hm'.out (by omega)
  have hLn' := bulk_len L'
  rw [HL'.out] at hLn'
  have Hsz' : Hid (∀ k, endJ L' k ≤ 18000) := Lib.hid fun k => by have := endJ_le L' k; rw [HL'.out] at this; omega
  have Hmem' : Hid (∀ l ∈ L', l.length ≤ 2000) := Lib.hid fun l hl => by have := bulk_mem hl; omega
  have hn4' : n' ≤ 2000 := by omega
  clear hbulk hLn Hm hbulk' hLn' Hm'
  go_wp2_with fail
  go_loopw [7, 9, 10, 11] (fun xv i _ _ wr => ∃ k : Nat, k ≤ n ∧ i = .int .i64 (k : Int) ∧ wr.ownsRow w.heap.size 5 1 xv (endJ L k) (byteCells (frames (L.take k))) ∧ Below w.heap.size w wr) (fun _ i _ _ _ => n - (intOf i).toNat)
  case atStart => exact ⟨0, by omega, rfl, nil_own _ _ _, Hb1.out⟩
  case round =>
    obtain ⟨k, hk, rfl, hownx, hb⟩ := hrel
    have Hb := Lib.hid hb
    have Hownx := Lib.hid hownx
    clear hb hownx
    by_cases hlt : k < n
    · obtain ⟨a, Al, zl, cl, l, rfl, _, hlk, hzc, hcm, hbl, hc⟩ := (H.out.belowOf Hb.out (Nat.le_refl _)).at_ hlt
      rw [HLe.out] at hlk
      have hzl : l.length = zl := hbl.len
      have hz4 : zl ≤ 2000 := by rw [← hzl]; exact Hmem.out l (List.mem_of_getElem? hlk)
      have k0 : (0 : Int) ≤ (k : Int) := by omega
      have k1 : (k : Int) < (n : Int) := by omega
      have He1 : Hid (endJ L (k + 1) = endJ L k + (8 + zl)) := Lib.hid (by rw [(endJ_succ hlk).1, hzl])
      have Hfr := Lib.hid (endJ_succ hlk).2
      have Hsk := Lib.hid (Hsz.out k)
      have Hw := Lib.hid (wrap_any Al zl cl w.heap.size l wr hbl Hb.out.size (by omega))
      clear hlk hzl hbl
      go_wp2_with fail
      refine Hw.out.mono ?_
      rintro e w2 ⟨v2, rfl, hown2, hb2⟩
      obtain ⟨A2, c2, rfl, _, _, hh2⟩ := own_slice hown2
      have Hb2 : Hid (Below w.heap.size w w2) := Lib.hid (Hb.out.trans (hb2.mono Hb.out.size))
      have Hh2 := Lib.hid hh2
      have Hownx2 := Lib.hid (own_below Hownx.out hb2)
      clear hown2 hb2 hh2 Hw
      go_wp2_with (first
        | (at_builtin; refine wpList_append_has rfl (.tmp 49) (.tmp 50) _ rfl 5 u8_elem Try.underlying22 rfl Hownx2.out rfl Hh2.out (byteCells_one _) (by have := Hsk.out; simp only [maxLen]; omega) (by have := Hsk.out; omega) Hb2.out.size ?_; intro v3 w3 hown3 hg3 hz3; have Hb3 : Hid (Below w.heap.size w w3) := Lib.hid (below_own Hb2.out Hownx2.out hg3 Hb2.out.size); have Hown3 := Lib.hid hown3; clear hown3 hg3 hz3))
      go_roundw
      case rel => exact ⟨k + 1, by omega, by go_num, own_row Hown3.out He1.out.symm (by rw [Hfr.out, byteCells_app]), Hb3.out⟩
      case measure => simp [intOf]; omega
    · obtain rfl : k = n := by omega
      have Hall : Hid (frames (L.take k) = frames L) := Lib.hid (by rw [List.take_of_length_le (by rw [HL.out]; exact Nat.le_refl _)])
      have hX18 := Hsz.out k
      obtain ⟨X, hX⟩ : ∃ X, endJ L k = X := ⟨_, rfl⟩
      have HX : Hid ((frames L).length = X) := Lib.hid (by rw [← Hall.out, ← hX]; rfl)
      have hownx := Hownx.out
      rw [hX, Hall.out] at hownx
      rw [hX] at hX18
      obtain ⟨Ax, cx, rfl, _, _, _⟩ := own_slice hownx
      have Hownx := Lib.hid hownx
      clear hownx hX hk hlt
      generalize wr = wa at *
      go_wp2_with fail
      go_loopw [8, 12, 13, 14] (fun yv i _ _ wq => ∃ j : Nat, j ≤ n' ∧ i = .int .i64 (j : Int) ∧ wq.ownsRow wa.heap.size 5 1 yv (endJ L' j) (byteCells (frames (L'.take j))) ∧ Below wa.heap.size wa wq) (fun _ i _ _ _ => n' - (intOf i).toNat)
      case atStart => exact ⟨0, by omega, rfl, nil_own _ _ _, Below.refl _ _⟩
      case round =>
        obtain ⟨j, hj, rfl, howny, hby⟩ := hrel
        have Hby := Lib.hid hby
        have Howny := Lib.hid howny
        have Hbq : Hid (Below w.heap.size w wr) := Lib.hid (Hb.out.trans (hby.mono Hb.out.size))
        clear hby howny
        by_cases hlt : j < n'
        · obtain ⟨a, Al, zl, cl, l, rfl, _, hlk, hzc, hcm, hbl, hc⟩ := (H'.out.belowOf Hbq.out (Nat.le_refl _)).at_ hlt
          rw [HLe'.out] at hlk
          have hzl : l.length = zl := hbl.len
          have hz4 : zl ≤ 2000 := by rw [← hzl]; exact Hmem'.out l (List.mem_of_getElem? hlk)
          have k0 : (0 : Int) ≤ (j : Int) := by omega
          have k1 : (j : Int) < (n' : Int) := by omega
          have He1 : Hid (endJ L' (j + 1) = endJ L' j + (8 + zl)) := Lib.hid (by rw [(endJ_succ hlk).1, hzl])
          have Hfr := Lib.hid (endJ_succ hlk).2
          have Hsk := Lib.hid (Hsz'.out j)
          have Hw := Lib.hid (wrap_any Al zl cl w.heap.size l wr hbl Hbq.out.size (by omega))
          clear hlk hzl hbl
          go_wp2_with fail
          refine Hw.out.mono ?_
          rintro e w2 ⟨v2, rfl, hown2, hb2⟩
          obtain ⟨A2, c2, rfl, _, _, hh2⟩ := own_slice hown2
          have Hb2 : Hid (Below wa.heap.size wa w2) := Lib.hid (Hby.out.trans (hb2.mono Hby.out.size))
          have Hh2 := Lib.hid hh2
          have Howny2 := Lib.hid (own_below Howny.out hb2)
          clear hown2 hb2 hh2 Hw
          go_wp2_with (first
            | (at_builtin; refine wpList_append_has rfl (.tmp 66) (.tmp 67) _ rfl 5 u8_elem Try.underlying22 rfl Howny2.out rfl Hh2.out (byteCells_one _) (by have := Hsk.out; simp only [maxLen]; omega) (by have := Hsk.out; omega) Hb2.out.size ?_; intro v3 w3 hown3 hg3 hz3; have Hb3 : Hid (Below wa.heap.size wa w3) := Lib.hid (below_own Hb2.out Howny2.out hg3 Hb2.out.size); have Hown3 := Lib.hid hown3; clear hown3 hg3 hz3))
          go_roundw
          case rel => exact ⟨j + 1, by omega, by go_num, own_row Hown3.out He1.out.symm (by rw [Hfr.out, byteCells_app]), Hb3.out⟩
          case measure => simp [intOf]; omega
        · obtain rfl : j = n' := by omega
          have Hall' : Hid (frames (L'.take j) = frames L') := Lib.hid (by rw [List.take_of_length_le (by rw [HL'.out]; exact Nat.le_refl _)])
          have hY18 := Hsz'.out j
          obtain ⟨Y, hY⟩ : ∃ Y, endJ L' j = Y := ⟨_, rfl⟩
          have HY : Hid ((frames L').length = Y) := Lib.hid (by rw [← Hall'.out, ← hY]; rfl)
          have howny := Howny.out
          rw [hY, Hall'.out] at howny
          rw [hY] at hY18
          obtain ⟨Ay, cy, rfl, _, _, hhy⟩ := own_slice howny
          have Hhy := Lib.hid hhy
          have Hownx' := Lib.hid (own_below Hownx.out Hby.out)
          have Hhx : Hid (Has wr wr.heap.size Ax X (byteCells (frames L))) := Lib.hid (Has.of_own Hownx'.out)
          have Hwant := Lib.hid (nil_own wr wr.heap.size 22)
          have Hra := Lib.hid (H.out.belowOf Hbq.out (Nat.le_refl _))
          have Hrb := Lib.hid (H'.out.belowOf Hbq.out (Nat.le_refl _))
          have Hone := Lib.hid (brCells_one Hra.out)
          have Hone' := Lib.hid (brCells_one Hrb.out)
          clear hhy howny hY hj hlt
          generalize wr = wb at *
          go_wp2_with (first
            | (at_builtin; refine wpList_append_has rfl (.tmp 69) (.tmp 70) _ rfl 22 bs_elem1 Try.underlying33 rfl Hwant.out rfl Hra.out.1 Hone.out (by simp only [maxLen]; omega) (by omega) (Nat.le_refl _) ?_; intro v3 w3 hown3 hg3 hz3; have Hb3 : Hid (Below wb.heap.size wb w3) := Lib.hid (below_own (Below.refl _ _) Hwant.out hg3 (Nat.le_refl _)); have Hown3 := Lib.hid hown3; clear hown3 hg3 hz3)
            | (at_builtin; refine wpList_append_has rfl (.tmp 71) (.tmp 72) _ rfl 22 bs_elem1 Try.underlying33 rfl Hown3.out rfl (Hrb.out.1.belowOf Hb3.out Hbq.out.size) Hone'.out (by simp only [maxLen]; omega) (by omega) Hb3.out.size ?_; intro v4 w4 hown4 hg4 hz4; have Hb4 : Hid (Below wb.heap.size wb w4) := Lib.hid (below_own Hb3.out Hown3.out hg4 Hb3.out.size); obtain ⟨A4, c4, rfl, _, _, hh4⟩ := own_slice hown4; have Hh4 := Lib.hid hh4; have Hem4 := Lib.hid (empty_own w4 w4.heap.size (Nat.le_refl _) 5); have Hs4 := Lib.hid Hb4.out.size; clear hown4 hg4 hz4 hh4)
            | (at_builtin; refine wpList_append_has rfl (.tmp 75) (.tmp 76) _ rfl 5 u8_elem Try.underlying22 rfl Hem4.out rfl ((Hhx.out.belowOf Hb4.out (Nat.le_refl _)).alloc Hs4.out _) (byteCells_one _) (by simp only [maxLen]; omega) (by omega) (le_alloc (Nat.le_refl _) _) ?_; intro v5 w5 hown5 hg5 hz5; have Hb5 : Hid (Below w4.heap.size w4 w5) := Lib.hid (below_own ((Below.refl _ _).alloc (Nat.le_refl _) _) Hem4.out hg5 (le_alloc (Nat.le_refl _) _)); have Hown5 := Lib.hid hown5; clear hown5 hg5 hz5)
            | (at_builtin; refine wpList_append_has rfl (.tmp 77) (.tmp 78) _ rfl 5 u8_elem Try.underlying22 rfl Hown5.out rfl ((Hhy.out.belowOf Hb4.out (Nat.le_refl _)).belowOf Hb5.out Hs4.out) (byteCells_one _) (by simp only [maxLen]; omega) (by omega) Hb5.out.size ?_; intro v6 w6 hown6 hg6 hz6; have Hb6 : Hid (Below w4.heap.size w4 w6) := Lib.hid (below_own Hb5.out Hown5.out hg6 Hb5.out.size); obtain ⟨A6, c6, rfl, hc6, _, hh6⟩ := own_slice hown6; have Hh6 := Lib.hid hh6; clear hown6 hg6 hz6 hh6))
          have HB6 : Hid (HasBytes w6 w6.heap.size A6 (X + Y) (frames (L ++ L'))) := Lib.hid (by
            have := Hh6.out
            rw [List.nil_append, ← byteCells_app, ← frames_app, Nat.zero_add] at this
            exact this)
          have Hsc6 : Hid (scanT (frames (L ++ L')) = (L ++ L', X + Y)) := Lib.hid (by
            rw [scan_all, frames_app, List.length_append, HX.out, HY.out]
            intro p hp
            rcases List.mem_append.1 hp with hp | hp
            · have := Hmem.out p hp; omega
            · have := Hmem'.out p hp; omega)
          have Hb46 : Hid (Below wb.heap.size wb w6) := Lib.hid (Hb4.out.trans (Hb6.out.mono Hs4.out))
          have hc6' : X + Y ≤ c6 := by omega
          refine (scan_any A6 (X + Y) c6 w6.heap.size _ w6 HB6.out (Nat.le_refl _) (by omega) hc6').mono ?_
          rintro e w7 ⟨v7, rs7, rfl, ho7, he7, hb7⟩
          rw [Hsc6.out] at he7 ⊢
          have Hb7 : Hid (Below wb.heap.size wb w7) := Lib.hid (Hb46.out.trans (hb7.mono Hb46.out.size))
          have Hb47 : Hid (Below w4.heap.size w4 w7) := Lib.hid (Hb6.out.trans (hb7.mono Hb6.out.size))
          have Ho7 := Lib.hid ho7
          have He7 := Lib.hid he7
          have Hem7 := Lib.hid (empty_own w7 w7.heap.size (Nat.le_refl _) 5)
          have Hs7 := Lib.hid Hb7.out.size
          have Hw7 := Lib.hid (Nat.le_trans Hbq.out.size Hb7.out.size)
          have HJ7 := Lib.hid (HJ.out.belowOf (Hbq.out.trans (Hb7.out.mono Hbq.out.size)) (Nat.le_refl _))
          clear ho7 he7 hb7
          go_wp2_with (first
            | (at_builtin; refine wpList_append_has rfl (.tmp 84) (.tmp 85) _ rfl 5 u8_elem Try.underlying22 rfl Hem7.out rfl ((Hhx.out.belowOf Hb7.out (Nat.le_refl _)).alloc Hs7.out _) (byteCells_one _) (by simp only [maxLen]; omega) (by omega) (le_alloc (Nat.le_refl _) _) ?_; intro v8 w8 hown8 hg8 hz8; have Hb8 : Hid (Below w7.heap.size w7 w8) := Lib.hid (below_own ((Below.refl _ _).alloc (Nat.le_refl _) _) Hem7.out hg8 (le_alloc (Nat.le_refl _) _)); have Hown8 := Lib.hid hown8; clear hown8 hg8 hz8)
            | (at_builtin; refine wpList_append_has rfl (.tmp 86) (.tmp 87) _ rfl 5 u8_elem Try.underlying22 rfl Hown8.out rfl (HJ7.out.belowOf Hb8.out Hw7.out) (byteCells_one _) (by simp only [maxLen]; omega) (by omega) Hb8.out.size ?_; intro v9 w9 hown9 hg9 hz9; have Hb9 : Hid (Below w7.heap.size w7 w9) := Lib.hid (below_own Hb8.out Hown8.out hg9 Hb8.out.size); obtain ⟨A9, c9, rfl, hc9, _, hh9⟩ := own_slice hown9; have Hh9 := Lib.hid hh9; clear hown9 hg9 hz9 hh9))
          have HB9 : Hid (HasBytes w9 w9.heap.size A9 (X + z) (frames L ++ junk)) := Lib.hid (by
            have := Hh9.out
            rw [List.nil_append, ← byteCells_app, Nat.zero_add] at this
            exact this)
          have Hsc9 : Hid (scanT (frames L ++ junk) = (L, X)) := Lib.hid (by
            rw [scan_tail L junk (fun p hp => by have := Hmem.out p hp; omega) (by rw [HJ.out.len]; omega), HX.out])
          have hc9' : X + z ≤ c9 := by omega
          refine (scan_any A9 (X + z) c9 w9.heap.size _ w9 HB9.out (Nat.le_refl _) (by omega) hc9').mono ?_
          rintro e wA ⟨vA, rsA, rfl, hoA, heA, hbA⟩
          rw [Hsc9.out] at heA ⊢
          have HbA : Hid (Below w7.heap.size w7 wA) := Lib.hid (Hb9.out.trans (hbA.mono Hb9.out.size))
          have Hb4A : Hid (Below w4.heap.size w4 wA) := Lib.hid (Hb47.out.trans (HbA.out.mono Hb47.out.size))
          have HbwA : Hid (Below w.heap.size w wA) := Lib.hid ((Hbq.out.trans (Hb7.out.mono Hbq.out.size)).trans (HbA.out.mono Hw7.out))
          obtain ⟨A7, c7, rfl, hl7, hm7, hh7⟩ := (Ho7.out.below HbA.out).has
          obtain ⟨AA, cA, rfl, hlA, hmA, hhA⟩ := hoA.has
          have hwant : HasRs wA w4.heap.size A4 (k + j) (rs ++ rs') := by
            refine ⟨?_, fun r hr => ?_⟩
            · have := Hh4.out.belowOf Hb4A.out (Nat.le_refl _)
              rw [List.nil_append, ← brCells_app, Nat.zero_add] at this
              exact this
            · have hw4 : w.heap.size ≤ w4.heap.size := Nat.le_trans Hbq.out.size Hs4.out
              rcases List.mem_append.1 hr with hr | hr
              · obtain ⟨Ar, mr, cr, e, g1, g2, g3⟩ := (H.out.belowOf HbwA.out (Nat.le_refl _)).2 r hr
                exact ⟨Ar, mr, cr, e, g1, g2, g3.more hw4⟩
              · obtain ⟨Ar, mr, cr, e, g1, g2, g3⟩ := (H'.out.belowOf HbwA.out (Nat.le_refl _)).2 r hr
                exact ⟨Ar, mr, cr, e, g1, g2, g3.more hw4⟩
          have hwl : brLists (rs ++ rs') = L ++ L' := by rw [← HLe.out, ← HLe'.out]; simp [brLists]
          have Hsame1 := Lib.hid (rsame_any A7 A4 _ _ c7 c4 _ _ rs7 (rs ++ rs') wA hh7 hwant (Nat.le_refl _) Hb4A.out.size (by omega))
          rw [decide_eq_true (show brLists rs7 = brLists (rs ++ rs') by rw [He7.out, hwl])] at Hsame1
          have Hsame2 := Lib.hid (fun wx (hb : Below wA.heap.size wA wx) => rsame_any AA A _ _ cA c _ _ rsA rs wx (hhA.belowOf hb (Nat.le_refl _)) (H.out.belowOf (HbwA.out.trans (hb.mono HbwA.out.size)) (Nat.le_refl _)) hb.size (Nat.le_trans HbwA.out.size hb.size) (by omega))
          rw [decide_eq_true (show brLists rsA = brLists rs by rw [heA, HLe.out])] at Hsame2
          clear hoA heA hbA hwant hwl hh7 hhA hl7 hlA
          generalize hz7' : rs7.length = z7 at *
          generalize hzA : rsA.length = zA at *
          clear hz7' hzA
          go_wp2_with fail
          refine Hsame1.out.mono ?_
          rintro e wB ⟨rfl, hbB⟩
          have HbB := Lib.hid hbB
          clear hbB
          go_wp2_with fail
          refine (Hsame2.out _ HbB.out).mono ?_
          rintro e wC ⟨rfl, hbC⟩
          have HbC : Hid (Below w.heap.size w wC) := Lib.hid ((HbwA.out.trans (HbB.out.mono HbwA.out.size)).trans (hbC.mono (Nat.le_trans HbwA.out.size HbB.out.size)))
          clear hbC
          go_wp2
          go_ret
          exact ⟨rfl, HbC.out⟩

namespace lawFrameJoins
open Go.ChangeShapes Go.WideShapes Go.ChangeAt

theorem own : ownKnob Try.prog.godebug = none := by kernel_rfl
theorem kids : Kids Try.prog (· < Try.prog.types.size) := kids_rows (by kernel_rfl) (by kernel_rfl)
theorem full : ∀ t e, t < Try.prog.types.size → Try.prog.underlying t = some (.slice e) → 0 < Try.prog.cellsOf e := slices_full_of Try.prog (by kernel_rfl)

set_option maxRecDepth 100000 in
theorem lifted (os : Os) (started : os.Started) (H : Type) (enc : TypeId × Value → H) :
    ReturnsInHanded {} Try.checked os 7 .any (Rows.frameJoinsSpec.pre6 enc Try.prog Try.f7 Rows.frameJoinsRow.domain false) (Rows.frameJoinsSpec.post enc Try.prog Try.f7 false true false false) := by
  refine returnsInHanded_of_change (C := Try.checked) own started (by kernel_rfl) Try.func7
    (ChangeSpec.witness6 (enc := enc) (C := Try.checked) false ⟨#[], #[.slice none 0 0, .slice none 0 0, .slice none 0 0], []⟩ 8 (by kernel_rfl) (by kernel_rfl) (by kernel_rfl) (by kernel_rfl)) ?_
  intro W base args ds gs before hval0 hW _ _
  have hval : ∀ (j : Nat) t v, Try.f7.params[j]? = some t → args[j]? = some v → Value.okWide Try.prog W .any base t v := hval0
  have hW' := hW
  obtain ⟨p, q, hA0, hV, rfl, _, _⟩ := hW
  obtain ⟨rfl, rfl⟩ := trodVars_none hV
  have hA : DataW.TrodAll enc Try.prog W 0 (fun _ => true) true Try.f7.params.toList args.toList ds p := hA0
  rw [Try.params7] at hA hval
  obtain ⟨v0, vs0, d0, ds0, p0, q0, hargs, rfl, rfl, h0, r0⟩ := trodAll_cons hA
  obtain ⟨v1, vs1, d1, ds1, p1, q1, rfl, rfl, rfl, h1, r1⟩ := trodAll_cons r0
  obtain ⟨v2, vs2, d2, ds2, p2, q2, rfl, rfl, rfl, h2, r2⟩ := trodAll_cons r1
  obtain ⟨rfl, rfl, rfl⟩ := trodAll_nil r2
  obtain rfl : args = #[v0, v1, v2] := by cases args; simp_all
  have hlt := hW'.lt
  obtain ⟨A0, n0, c0, rs0, rfl, hn0, hnc0, hb0⟩ := open_rs Try.underlying33 (by kernel_rfl) Try.underlying22 Try.underlying5 (by kernel_rfl) (hval 0 33 v0 rfl rfl) h0 (fun x hx => hlt x (by simp [hx]))
  obtain ⟨A1, n1, c1, rs1, rfl, hn1, hnc1, hb1⟩ := open_rs Try.underlying33 (by kernel_rfl) Try.underlying22 Try.underlying5 (by kernel_rfl) (hval 1 33 v1 rfl rfl) h1 (fun x hx => hlt x (by simp [hx]))
  obtain ⟨A2, n2, c2, l2, rfl, hn2, hnc2, hb2⟩ := open_bytes Try.underlying22 Try.underlying5 (by kernel_rfl) (hval 2 22 v2 rfl rfl) h2 (fun x hx => hlt x (by simp [hx]))
  refine (frameJoins_walk A0 A1 A2 n0 c0 n1 c1 n2 c2 rs0 rs1 l2 W hb0 hb1 hb2 hn0 hn1 hn2).mono fun e W' ⟨he, hbel⟩ => ?_
  subst he
  exact ⟨_, rfl, law_post kids full (of_decide_eq_true (by kernel_rfl)) Try.underlying4 rfl rfl rfl hW' hbel⟩

theorem proved : Rows.FrameJoinsSaid :=
  OpenClaim.holds_of_wide 7 Try.f7 rfl rfl rfl rfl rfl rfl rfl ⟨rfl, rfl, rfl, rfl, rfl⟩ rfl rfl rfl rfl rfl (by kernel_rfl) Try.func7 (by kernel_rfl)
    (of_decide_eq_true (by kernel_rfl)) (by unfold Func.isWrapper; first | (rw [if_pos (by decide +kernel)]; kernel_rfl) | (rw [if_neg (by decide +kernel)]; exact ⟨rfl, rfl⟩))
    (fun os started H enc _ => lifted os started H enc)
end lawFrameJoins

end Go.Proofs.Yteegnohfmonakaa
