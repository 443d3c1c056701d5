/- The law SumPuts: for every input it returns true and leaves what it was given. No condition. -/
import Derived.Test.YthjlamenfmadjaaSumC
import Derived.Test.YthjlamenfmadjaaOpen
import Derived.Deep.RegionWith
import Derived.Deep.RegionHeld3
import Derived.Deep.DeepCutAuto
import Derived.Test.YthjlamenfmadjaaRegion
namespace Go.Proofs.Ythjlamenfmadjaa
open Go.RowKit
open Go.Lib (strCells)

theorem getSum_back {n : Nat} (hn : n < 4294967296) (a b : List UInt8) : getSum (a ++ sumPut n ++ b) (a.length : Int) = (n, 0) := by
  have hl : (a ++ sumPut n ++ b).length = a.length + 4 + b.length := by simp [sumPut_len]; omega
  unfold getSum
  rw [hl, if_neg (by omega), if_neg (by omega), Int.toNat_natCast, List.append_assoc, List.drop_left, List.take_append_of_le_length (by simp [sumPut_len])]
  rw [show List.take 4 (sumPut n) = sumPut n from rfl, sumNum_put hn]

set_option maxRecDepth 100000 in
set_option maxHeartbeats 1600000 in
theorem sumPuts_walk (A D : Option Addr) (n m c n' c' : Nat) (p : Int) (l l' : List UInt8) (w : World) (h : HasBytes w w.heap.size A n l) (hn : n ≤ maxLen) (h' : HasBytes w w.heap.size D n' l') (hn' : n' ≤ maxLen) (hm : m < 4294967296) :
    Calls Try.prog 6 #[.int .u32 (m : Int), .slice A n c, .slice D n' c', .int .i64 p] w fun e w' => e = .returned (.bool true) ∧ Below w.heap.size w w' := by
  have hn2 := hn
  have hn2' := hn'
  unfold maxLen at hn2 hn2'
  have H := Lib.hid h
  have H' := Lib.hid h'
  clear h h'
  by_cases hbig : 1000 < n ∨ 1000 < n'
  · have hcases : 1000 < n ∨ (n ≤ 1000 ∧ 1000 < n') := by omega
    clear hbig
    rcases hcases with h1 | ⟨h1, h2⟩
    all_goals
      go_enter Try.func6, Try.ntmps6
      go_wp2_with fail
      refine (awake_any _).mono ?_
      rintro e w1 ⟨rfl, hb1⟩
      go_wp2_with fail
      go_ret
      exact ⟨rfl, hb1⟩
  · have hs1 : n ≤ 1000 := by omega
    have hs2 : n' ≤ 1000 := by omega
    clear hbig
    have Hl := Lib.hid (HasBytes.len H.out)
    have Hl' := Lib.hid (HasBytes.len H'.out)
    obtain ⟨L, hL⟩ : ∃ L, l ++ sumPut m ++ l' = L := ⟨_, rfl⟩
    have HL := Lib.hid hL
    have HLn : Hid (L.length = n + 4 + n') := Lib.hid (by rw [← hL]; have := Hl.out; have := Hl'.out; simp [sumPut_len]; omega)
    have Hg : Hid (getSum L (n : Int) = (m, 0)) := Lib.hid (by rw [← hL, ← Hl.out]; exact getSum_back hm l l')
    clear hL
    go_enter Try.func6, Try.ntmps6
    go_wp2_with fail
    refine (awake_any _).mono ?_
    rintro e w1 ⟨rfl, hb1⟩
    have H1 := Lib.hid (H.out.below hb1)
    have H1' := Lib.hid (H'.out.below hb1)
    have hC1 := hb1.size
    have Hb1 := Lib.hid hb1
    clear hb1 H H'
    have Hlit := Lib.hid (World.ownsRow_lit (base := w1.heap.size) (e := 5) (size := 1) w1 #[] 0 (Nat.le_refl _) (by simp [maxLen]) rfl)
    have Hbl := Lib.hid ((Below.refl w1.heap.size w1).alloc (Nat.le_refl _) (.cells #[] 5))
    go_wp2_with
      (at_builtin
       refine wpList_append_has rfl (.tmp 24) (.tmp 25) _ rfl 5 u8_elem Try.underlying23 rfl Hlit.out rfl (H1.out.alloc hC1 _) (byteCells_one _) (by simp only [maxLen]; omega) (by omega) (le_alloc (Nat.le_refl _) _) ?_
       intro v2 w2 hown2 hg2 hz2
       clear hz2
       have Hb2 := Lib.hid (below_own Hbl.out Hlit.out hg2 (le_alloc (Nat.le_refl _) _))
       have Ho2 : Hid (w2.ownsRow w1.heap.size 5 1 v2 n (byteCells l)) := Lib.hid (by simpa using hown2)
       clear hown2 hg2)
    refine (put_any m w2 hm).mono ?_
    rintro e w3 ⟨v3, rfl, hown3, hb3⟩
    obtain ⟨A3, c3, rfl, hc3, _, hh3⟩ := own_slice hown3
    have Hh3 := Lib.hid hh3
    have Ho3 := Lib.hid (own_below Ho2.out hb3)
    have Hb3 := Lib.hid (Hb2.out.trans (hb3.mono Hb2.out.size))
    clear hown3 hb3 hh3 Ho2 Hb2 Hlit Hbl
    have H3' := Lib.hid (H1'.out.belowOf Hb3.out hC1)
    have hC3 := Nat.le_trans hC1 Hb3.out.size
    have hC13 := Hb3.out.size
    go_wp2_with
      (first
        | (at_builtin
           refine wpList_append_has rfl (.tmp 26) (.tmp 28) _ rfl 5 u8_elem Try.underlying23 rfl Ho3.out rfl Hh3.out (byteCells_one _) (by simp only [maxLen]; omega) (by omega) hC13 ?_
           intro v4 w4 hown4 hg4 hz4
           clear hz4
           have Hb4 := Lib.hid (below_own Hb3.out Ho3.out hg4 hC13)
           have Ho4 := Lib.hid hown4
           clear hown4 hg4)
        | (at_builtin
           refine wpList_append_has rfl (.tmp 29) (.tmp 30) _ rfl 5 u8_elem Try.underlying23 rfl Ho4.out rfl (H1'.out.belowOf Hb4.out hC1) (byteCells_one _) (by simp only [maxLen]; omega) (by omega) Hb4.out.size ?_
           intro v5 w5 hown5 hg5 hz5
           clear hz5
           have Hb5 := Lib.hid (below_own Hb4.out Ho4.out hg5 Hb4.out.size)
           have Ho5 : Hid (w5.ownsRow w1.heap.size 5 1 v5 (n + 4 + n') (byteCells L)) := Lib.hid (by
             have := hown5
             rw [← byteCells_app, ← byteCells_app, HL.out] at this
             exact this)
           obtain ⟨A5, c5, rfl, hc5, _, hh5⟩ := own_slice Ho5.out
           have Hh5 := Lib.hid hh5
           clear hown5 hg5 hh5))
    have Hw5 := Lib.hid (Hb1.out.trans (Hb5.out.mono hC1))
    have hC5 := Hw5.out.size
    clear Ho5 Hb5 Ho4 Hb4 Ho3 Hb3 Hh3 H3' hC13
    refine (get_any A5 (n + 4 + n') c5 _ (n : Int) L w5 Hh5.out (by omega) hc5).mono ?_
    rintro e w' ⟨rfl, rfl⟩
    rw [Hg.out]
    have hm0 : ((m : Int) != (m : Int)) = false := by simp
    go_upto_region 7 with fail
    go_cut [54] (fun t wx => t = .bool false ∧ Below w5.heap.size w5 wx)
    case first =>
      refine wp_region_held_drew (S := fun _ => True) (by kernel_rfl) trivial (fun hHeld => ?_)
      refine wpAnyH_take (i := 0) (oi := ⟨some 39, _, _, _, _, _⟩) (v := .int .u32 (m : Int)) rfl (by kernel_rfl) (by kernel_rfl) (by kernel_rfl) (fun _ _ _ h => h) (Or.inl ⟨by rfl, ?_⟩) (by assumption) ?_
      · intro w hSw; (try dsimp only at hSw); go_simp
      simp only [Act.put, List.setIfInBounds_toArray, List.set_cons_zero, List.set_cons_succ]
      refine wpAnyH_take (i := 3) (oi := ⟨some 42, _, _, _, _, _⟩) (v := .int .u32 (m : Int)) rfl (by kernel_rfl) (by kernel_rfl) (by kernel_rfl) (fun _ _ _ h => h) (Or.inl ⟨by rfl, ?_⟩) (by assumption) ?_
      · intro w hSw; (try dsimp only at hSw); go_simp
      simp only [Act.put, List.setIfInBounds_toArray, List.set_cons_zero, List.set_cons_succ]
      refine wpAnyH_ready (rs := [1]) (by kernel_rfl) (by simp) (AllReadyH.cons (o := ⟨some 40, _, _, _, _, _⟩) rfl (fun K hK => ?_) AllReadyH.nil)
      go_simp
      refine (put_any m _ hm).mono ?_
      rintro e w6 ⟨v6, rfl, hown6, hb6⟩
      obtain ⟨A6, c6, rfl, _, _, hh6⟩ := own_slice hown6
      have Hh6 := Lib.hid hh6
      have Hb6 : Hid (Below w5.heap.size w5 w6) := Lib.hid (((Below.refl _ w5).drew).trans hb6)
      clear hown6 hh6 hb6
      refine hK.out _ _ trivial (fun _ => ?_)
      clear hK K
      refine held_more (S' := fun wx => (convert 23 9 (.slice A6 4 c6)).run Try.prog wx = .ok (.string ⟨(sumPut m).toArray⟩) wx) (fun _ _ => trivial) _ _ _ _ ?_
      have hS6 : (fun wx => (convert 23 9 (.slice A6 4 c6)).run Try.prog wx = .ok (.string ⟨(sumPut m).toArray⟩) wx) w6 := run_string_of (P := Try.prog) Hh6.out c6 23 9 5 Try.underlying23 Try.underlying5 Try.underlying9
      refine wpAnyH_take (i := 2) (oi := ⟨some 41, _, _, _, _, _⟩) (v := .string ⟨(sumPut m).toArray⟩) rfl (by kernel_rfl) (by kernel_rfl) (by kernel_rfl) (fun _ _ _ h => h) (Or.inl ⟨by rfl, ?_⟩) (by assumption) ?_
      · intro w hSw; (try dsimp only at hSw); go_simp
      simp only [Act.put, List.setIfInBounds_toArray, List.set_cons_zero, List.set_cons_succ]
      refine wpAnyH_ready (rs := [4]) (by kernel_rfl) (by simp) (AllReadyH.cons (o := ⟨some 43, _, _, _, _, _⟩) rfl (fun K hK => ?_) AllReadyH.nil)
      go_simp
      refine (refPut_any m _ hm).mono ?_
      rintro e w7 ⟨v7, rfl, hown7, hb7⟩
      obtain ⟨A7, c7, rfl, _, _, hh7⟩ := own_slice hown7
      have Hh7 := Lib.hid hh7
      have Hb7 : Hid (Below w5.heap.size w5 w7) := Lib.hid (Hb6.out.trans (hb7.mono Hb6.out.size))
      have hS67 : (fun wx => (convert 23 9 (.slice A6 4 c6)).run Try.prog wx = .ok (.string ⟨(sumPut m).toArray⟩) wx) w7 := run_string_of (P := Try.prog) (Hh6.out.below hb7) c6 23 9 5 Try.underlying23 Try.underlying5 Try.underlying9
      clear hown7 hh7 hb7
      refine hK.out _ _ hS67 (fun _ => ?_)
      clear hK K
      refine held_more (S' := fun wx => (convert 23 9 (.slice A6 4 c6)).run Try.prog wx = .ok (.string ⟨(sumPut m).toArray⟩) wx ∧ (convert 23 9 (.slice A7 4 c7)).run Try.prog wx = .ok (.string ⟨(sumPut m).toArray⟩) wx) (fun _ h => h.1) _ _ _ _ ?_
      have hS7 : (fun wx => (convert 23 9 (.slice A6 4 c6)).run Try.prog wx = .ok (.string ⟨(sumPut m).toArray⟩) wx ∧ (convert 23 9 (.slice A7 4 c7)).run Try.prog wx = .ok (.string ⟨(sumPut m).toArray⟩) wx) w7 := ⟨hS67, run_string_of (P := Try.prog) Hh7.out c7 23 9 5 Try.underlying23 Try.underlying5 Try.underlying9⟩
      refine wpAnyH_take (i := 5) (oi := ⟨some 44, _, _, _, _, _⟩) (v := .string ⟨(sumPut m).toArray⟩) rfl (by kernel_rfl) (by kernel_rfl) (by kernel_rfl) (fun _ _ _ h => h) (Or.inl ⟨by rfl, ?_⟩) (by assumption) ?_
      · intro w hSw; (try dsimp only at hSw); go_simp
      simp only [Act.put, List.setIfInBounds_toArray, List.set_cons_zero, List.set_cons_succ]
      refine wpAnyH_take (i := 6) (oi := ⟨some 45, _, _, _, _, _⟩) (v := .bool false) rfl (by kernel_rfl) (by kernel_rfl) (by kernel_rfl) (fun _ _ _ h => h) (Or.inl ⟨by rfl, ?_⟩) (by assumption) ?_
      · intro w hSw; (try dsimp only at hSw); go_simp
      simp only [Act.put, List.setIfInBounds_toArray, List.set_cons_zero, List.set_cons_succ]
      refine wpAnyH_take (i := 7) (oi := ⟨some 46, _, _, _, _, _⟩) (v := .bool false) rfl (by kernel_rfl) (by kernel_rfl) (by kernel_rfl) (fun _ _ _ h => h) (Or.inl ⟨by rfl, ?_⟩) (by assumption) ?_
      · intro w hSw; (try dsimp only at hSw); go_simp
      simp only [Act.put, List.setIfInBounds_toArray, List.set_cons_zero, List.set_cons_succ]
      refine wpAnyH_take (i := 8) (oi := ⟨some 47, _, _, _, _, _⟩) (v := .int .u32 (m : Int)) rfl (by kernel_rfl) (by kernel_rfl) (by kernel_rfl) (fun _ _ _ h => h) (Or.inl ⟨by rfl, ?_⟩) (by assumption) ?_
      · intro w hSw; (try dsimp only at hSw); go_simp
      simp only [Act.put, List.setIfInBounds_toArray, List.set_cons_zero, List.set_cons_succ]
      refine wpAnyH_take (i := 9) (oi := ⟨some 48, _, _, _, _, _⟩) (v := .int .u32 (m : Int)) rfl (by kernel_rfl) (by kernel_rfl) (by kernel_rfl) (fun _ _ _ h => h) (Or.inl ⟨by rfl, ?_⟩) (by assumption) ?_
      · intro w hSw; (try dsimp only at hSw); go_simp
      simp only [Act.put, List.setIfInBounds_toArray, List.set_cons_zero, List.set_cons_succ]
      refine wpAnyH_take (i := 10) (oi := ⟨some 49, _, _, _, _, _⟩) (v := .bool false) rfl (by kernel_rfl) (by kernel_rfl) (by kernel_rfl) (fun _ _ _ h => h) (Or.inl ⟨by rfl, ?_⟩) (by assumption) ?_
      · intro w hSw; (try dsimp only at hSw); go_simp
      simp only [Act.put, List.setIfInBounds_toArray, List.set_cons_zero, List.set_cons_succ]
      refine wpAnyH_take (i := 11) (oi := ⟨some 50, _, _, _, _, _⟩) (v := .bool false) rfl (by kernel_rfl) (by kernel_rfl) (by kernel_rfl) (fun _ _ _ h => h) (Or.inl ⟨by rfl, ?_⟩) (by assumption) ?_
      · intro w hSw; (try dsimp only at hSw); go_simp
      simp only [Act.put, List.setIfInBounds_toArray, List.set_cons_zero, List.set_cons_succ]
      refine wpAnyH_take (i := 12) (oi := ⟨some 51, _, _, _, _, _⟩) (v := .bool false) rfl (by kernel_rfl) (by kernel_rfl) (by kernel_rfl) (fun _ _ _ h => h) (Or.inl ⟨by rfl, ?_⟩) (by assumption) ?_
      · intro w hSw; (try dsimp only at hSw); go_simp
      simp only [Act.put, List.setIfInBounds_toArray, List.set_cons_zero, List.set_cons_succ]
      refine wpAnyH_take (i := 13) (oi := ⟨some 52, _, _, _, _, _⟩) (v := .int .i64 0) rfl (by kernel_rfl) (by kernel_rfl) (by kernel_rfl) (fun _ _ _ h => h) (Or.inl ⟨by rfl, ?_⟩) (by assumption) ?_
      · intro w hSw; (try dsimp only at hSw); go_simp
      simp only [Act.put, List.setIfInBounds_toArray, List.set_cons_zero, List.set_cons_succ]
      refine wpAnyH_take (i := 14) (oi := ⟨some 53, _, _, _, _, _⟩) (v := .bool false) rfl (by kernel_rfl) (by kernel_rfl) (by kernel_rfl) (fun _ _ _ h => h) (Or.inl ⟨by rfl, ?_⟩) (by assumption) ?_
      · intro w hSw; (try dsimp only at hSw); go_simp
      simp only [Act.put, List.setIfInBounds_toArray, List.set_cons_zero, List.set_cons_succ]
      refine wpAnyH_take (i := 15) (oi := ⟨some 54, _, _, _, _, _⟩) (v := .bool false) rfl (by kernel_rfl) (by kernel_rfl) (by kernel_rfl) (fun _ _ _ h => h) (Or.inl ⟨by rfl, ?_⟩) (by assumption) ?_
      · intro w hSw; (try dsimp only at hSw); go_simp
      simp only [Act.put, List.setIfInBounds_toArray, List.set_cons_zero, List.set_cons_succ]
      refine wpAnyH_done (by kernel_rfl) ?_ _
      go_wp2_with fail
      go_meet
      exact ⟨rfl, Hb7.out⟩
    case rest =>
      obtain ⟨rfl, hbx⟩ := hcut
      have Hh8 := Lib.hid (Hh5.out.below hbx)
      have Hw8 := Lib.hid (Hw5.out.trans (hbx.mono hC5))
      have hC58 := hbx.size
      clear hbx Hh5 Hw5
      by_cases hout : p < 0 ∨ ((n + 4 + n' : Nat) : Int) < p
      · have hv : getSum L p = (0, 1) := by unfold getSum; rw [HLn.out, if_pos hout]
        have Hv := Lib.hid hv
        clear hv
        go_wp2_with fail
        refine (get_any A5 (n + 4 + n') c5 _ p L _ Hh8.out (by omega) hc5).mono ?_
        rintro e w' ⟨rfl, rfl⟩
        rw [Hv.out]
        have h2 : p < 0 ∨ (¬ p < 0 ∧ ((n : Int) + 4 + n') < p) := by omega
        clear hout
        rcases h2 with h2 | ⟨h2, h3⟩
        all_goals
          go_wp2_with fail
          go_ret
          exact ⟨rfl, Hw8.out⟩
      · obtain ⟨q, rfl⟩ : ∃ q : Nat, p = q := ⟨p.toNat, by omega⟩
        by_cases hs : ((n + 4 + n' : Nat) : Int) - (q : Int) < 4
        · have hv : getSum L q = (0, 2) := by unfold getSum; rw [HLn.out, if_neg hout, if_pos hs]
          have Hv := Lib.hid hv
          have hq : q ≤ n + 4 + n' := by omega
          have hq2 : n + n' < q := by omega
          clear hv hout hs
          go_wp2_with fail
          refine (get_any A5 (n + 4 + n') c5 _ q L _ Hh8.out (by omega) hc5).mono ?_
          rintro e w' ⟨rfl, rfl⟩
          rw [Hv.out]
          go_wp2_with fail
          go_ret
          exact ⟨rfl, Hw8.out⟩
        · have hv : getSum L q = (sumNum 0 ((L.drop q).take 4), 0) := by unfold getSum; rw [HLn.out, if_neg hout, if_neg hs]; rfl
          have Hv := Lib.hid hv
          have hq : q + 4 ≤ n + 4 + n' := by omega
          have hq2 : q ≤ n + n' := by omega
          have hcut : HasBytes wc w5.heap.size (if c5 = q then A5 else A5.map (·.add q)) 4 ((L.drop q).take 4) := HasBytes.head (HasBytes.part Hh8.out (by omega) hc5) (by omega)
          obtain ⟨A', hA⟩ : ∃ A', (if c5 = q then A5 else A5.map (·.add q)) = A' := ⟨_, rfl⟩
          rw [hA] at hcut
          obtain ⟨b, hb⟩ : ∃ b, (L.drop q).take 4 = b := ⟨_, rfl⟩
          rw [hb] at hcut hv
          have Hcut := Lib.hid hcut
          have Hblen := Lib.hid (HasBytes.len hcut)
          have Hy := Lib.hid hv
          have hylt : sumNum 0 b < 4294967296 := by have := sumNum_lt b; rw [Hblen.out] at this; exact this
          have Hback := Lib.hid (sumPut_num Hblen.out)
          obtain ⟨y, hy⟩ : ∃ y, sumNum 0 b = y := ⟨_, rfl⟩
          have Hput : Hid (∀ W, Calls Try.prog 12 #[.int .u32 (y : Int)] W (Gives W.heap.size 4 (byteCells b) W)) := Lib.hid fun W => by
            have := put_any y W (by omega)
            rw [← hy, Hback.out, hy] at this
            exact this
          have Hy2 : Hid (getSum L q = (y, 0)) := Lib.hid (by rw [Hy.out, hy])
          clear hv hout hs hcut hb Hy hy hylt Hv
          have hslo : (q : Int) ≤ (c5 : Int) := by omega
          have hshi : (q : Int) + 4 ≤ (c5 : Int) := by omega
          go_wp2_with fail
          refine (get_any A5 (n + 4 + n') c5 _ q L _ Hh8.out (by omega) hc5).mono ?_
          rintro e w' ⟨rfl, rfl⟩
          rw [Hy2.out]
          go_upto_region 14 with fail
          go_cut [8] (fun t wx => t = .bool true ∧ Below wc.heap.size wc wx)
          case first =>
            have hs0 := fun cap => run_string_of (P := Try.prog) Hcut.out cap 23 9 5 Try.underlying23 Try.underlying5 Try.underlying9
            have hsd := fun cap => run_string_of (P := Try.prog) (Hcut.out.below ((Below.refl _ wc).drew)) cap 23 9 5 Try.underlying23 Try.underlying5 Try.underlying9
            have hq0 : (0 : Int) ≤ (q : Int) := by omega
            have hqq : (q : Int) ≤ (q : Int) + 4 := by omega
            have hq4 : (0 : Int) ≤ (q : Int) + 4 := by omega
            have hwr : IntKind.i64.wrap ((q : Int) + 4) = (q : Int) + 4 := IntWalk.i64_in _ (by omega)
            have htn : ((q : Int) + 4).toNat = q + 4 := by omega
            have h44 : q + 4 - q = 4 := by omega
            have hSd : (fun wx => ∀ cap, (convert 23 9 (.slice A' 4 cap)).run Try.prog wx = .ok (.string ⟨(b).toArray⟩) wx) wc.drew := hsd
            refine wp_region_held_drew (S := fun wx => ∀ cap, (convert 23 9 (.slice A' 4 cap)).run Try.prog wx = .ok (.string ⟨(b).toArray⟩) wx) (by kernel_rfl) hSd (fun _ => ?_)
            refine wpAnyH_take (i := 0) (oi := ⟨some 88, _, _, _, _, _⟩) (v := .int .i64 0) rfl (by kernel_rfl) (by kernel_rfl) (by kernel_rfl) (fun _ _ _ h => h) (Or.inl ⟨by rfl, ?_⟩) (by assumption) ?_
            · intro w hSw; (try dsimp only at hSw); go_simp
            simp only [Act.put, List.setIfInBounds_toArray, List.set_cons_zero, List.set_cons_succ]
            refine wpAnyH_take (i := 1) (oi := ⟨some 89, _, _, _, _, _⟩) (v := .bool true) rfl (by kernel_rfl) (by kernel_rfl) (by kernel_rfl) (fun _ _ _ h => h) (Or.inl ⟨by rfl, ?_⟩) (by assumption) ?_
            · intro w hSw; (try dsimp only at hSw); go_simp
            simp only [Act.put, List.setIfInBounds_toArray, List.set_cons_zero, List.set_cons_succ]
            refine wpAnyH_take (i := 2) (oi := ⟨some 90, _, _, _, _, _⟩) (v := .bool true) rfl (by kernel_rfl) (by kernel_rfl) (by kernel_rfl) (fun _ _ _ h => h) (Or.inl ⟨by rfl, ?_⟩) (by assumption) ?_
            · intro w hSw; (try dsimp only at hSw); go_simp
            simp only [Act.put, List.setIfInBounds_toArray, List.set_cons_zero, List.set_cons_succ]
            refine wpAnyH_take (i := 3) (oi := ⟨some 91, _, _, _, _, _⟩) (v := .int .u32 (y : Int)) rfl (by kernel_rfl) (by kernel_rfl) (by kernel_rfl) (fun _ _ _ h => h) (Or.inl ⟨by rfl, ?_⟩) (by assumption) ?_
            · intro w hSw; (try dsimp only at hSw); go_simp
            simp only [Act.put, List.setIfInBounds_toArray, List.set_cons_zero, List.set_cons_succ]
            refine wpAnyH_take (i := 6) (oi := ⟨some 94, _, _, _, _, _⟩) (v := .slice A5 (n + 4 + n') c5) rfl (by kernel_rfl) (by kernel_rfl) (by kernel_rfl) (fun _ _ _ h => h) (Or.inl ⟨by rfl, ?_⟩) (by assumption) ?_
            · intro w hSw; (try dsimp only at hSw); go_simp
            simp only [Act.put, List.setIfInBounds_toArray, List.set_cons_zero, List.set_cons_succ]
            refine wpAnyH_take (i := 7) (oi := ⟨some 95, _, _, _, _, _⟩) (v := .int .i64 (q : Int)) rfl (by kernel_rfl) (by kernel_rfl) (by kernel_rfl) (fun _ _ _ h => h) (Or.inl ⟨by rfl, ?_⟩) (by assumption) ?_
            · intro w hSw; (try dsimp only at hSw); go_simp
            simp only [Act.put, List.setIfInBounds_toArray, List.set_cons_zero, List.set_cons_succ]
            refine wpAnyH_take (i := 8) (oi := ⟨some 96, _, _, _, _, _⟩) (v := .int .i64 (q : Int)) rfl (by kernel_rfl) (by kernel_rfl) (by kernel_rfl) (fun _ _ _ h => h) (Or.inl ⟨by rfl, ?_⟩) (by assumption) ?_
            · intro w hSw; (try dsimp only at hSw); go_simp
            simp only [Act.put, List.setIfInBounds_toArray, List.set_cons_zero, List.set_cons_succ]
            refine wpAnyH_take (i := 9) (oi := ⟨some 97, _, _, _, _, _⟩) (v := .int .i64 ((q : Int) + 4)) rfl (by kernel_rfl) (by kernel_rfl) (by kernel_rfl) (fun _ _ _ h => h) (Or.inl ⟨by rfl, ?_⟩) (by assumption) ?_
            · intro w hSw; (try dsimp only at hSw); go_simp
            simp only [Act.put, List.setIfInBounds_toArray, List.set_cons_zero, List.set_cons_succ]
            refine wpAnyH_take (i := 10) (oi := ⟨some 98, _, _, _, _, _⟩) (v := .slice A' 4 (c5 - q)) rfl (by kernel_rfl) (by kernel_rfl) (by kernel_rfl) (fun _ _ _ h => h) (Or.inl ⟨by rfl, ?_⟩) (by assumption) ?_
            · intro w hSw; (try dsimp only at hSw); go_simp
            simp only [Act.put, List.setIfInBounds_toArray, List.set_cons_zero, List.set_cons_succ]
            refine wpAnyH_take (i := 11) (oi := ⟨some 99, _, _, _, _, _⟩) (v := .string ⟨b.toArray⟩) rfl (by kernel_rfl) (by kernel_rfl) (by kernel_rfl) (fun _ _ _ h => h) (Or.inl ⟨by rfl, ?_⟩) (by assumption) ?_
            · intro w hSw; (try dsimp only at hSw); go_simp
            simp only [Act.put, List.setIfInBounds_toArray, List.set_cons_zero, List.set_cons_succ]
            refine wpAnyH_ready (rs := [4]) (by kernel_rfl) (by simp) (AllReadyH.cons (o := ⟨some 92, _, _, _, _, _⟩) rfl (fun K hK => ?_) AllReadyH.nil)
            go_simp
            refine (Hput.out _).mono ?_
            rintro e w9 ⟨v9, rfl, hown9, hb9⟩
            obtain ⟨A9, c9, rfl, _, _, hh9⟩ := own_slice hown9
            have Hh9 := Lib.hid hh9
            have Hb9 : Hid (Below wc.heap.size wc w9) := Lib.hid (((Below.refl _ wc).drew).trans hb9)
            have hS09 : (fun wx => ∀ cap, (convert 23 9 (.slice A' 4 cap)).run Try.prog wx = .ok (.string ⟨(b).toArray⟩) wx) w9 := fun cap => run_string_of (P := Try.prog) (Hcut.out.belowOf Hb9.out hC58) cap 23 9 5 Try.underlying23 Try.underlying5 Try.underlying9
            clear hown9 hh9 hb9
            refine hK.out _ _ hS09 (fun _ => ?_)
            clear hK K
            refine held_more (S' := fun wx => (∀ cap, (convert 23 9 (.slice A' 4 cap)).run Try.prog wx = .ok (.string ⟨(b).toArray⟩) wx) ∧ (convert 23 9 (.slice A9 4 c9)).run Try.prog wx = .ok (.string ⟨(b).toArray⟩) wx) (fun _ h => h.1) _ _ _ _ ?_
            have hS9 : (fun wx => (∀ cap, (convert 23 9 (.slice A' 4 cap)).run Try.prog wx = .ok (.string ⟨(b).toArray⟩) wx) ∧ (convert 23 9 (.slice A9 4 c9)).run Try.prog wx = .ok (.string ⟨(b).toArray⟩) wx) w9 := ⟨hS09, run_string_of (P := Try.prog) Hh9.out c9 23 9 5 Try.underlying23 Try.underlying5 Try.underlying9⟩
            refine wpAnyH_take (i := 5) (oi := ⟨some 93, _, _, _, _, _⟩) (v := .string ⟨b.toArray⟩) rfl (by kernel_rfl) (by kernel_rfl) (by kernel_rfl) (fun _ _ _ h => h) (Or.inl ⟨by rfl, ?_⟩) (by assumption) ?_
            · intro w hSw; (try dsimp only at hSw); go_simp
            simp only [Act.put, List.setIfInBounds_toArray, List.set_cons_zero, List.set_cons_succ]
            refine wpAnyH_take (i := 12) (oi := ⟨some 100, _, _, _, _, _⟩) (v := .bool true) rfl (by kernel_rfl) (by kernel_rfl) (by kernel_rfl) (fun _ _ _ h => h) (Or.inl ⟨by rfl, ?_⟩) (by assumption) ?_
            · intro w hSw; (try dsimp only at hSw); go_simp
            simp only [Act.put, List.setIfInBounds_toArray, List.set_cons_zero, List.set_cons_succ]
            refine wpAnyH_take (i := 13) (oi := ⟨some 101, _, _, _, _, _⟩) (v := .bool true) rfl (by kernel_rfl) (by kernel_rfl) (by kernel_rfl) (fun _ _ _ h => h) (Or.inl ⟨by rfl, ?_⟩) (by assumption) ?_
            · intro w hSw; (try dsimp only at hSw); go_simp
            simp only [Act.put, List.setIfInBounds_toArray, List.set_cons_zero, List.set_cons_succ]
            refine wpAnyH_take (i := 14) (oi := ⟨some 8, _, _, _, _, _⟩) (v := .bool true) rfl (by kernel_rfl) (by kernel_rfl) (by kernel_rfl) (fun _ _ _ h => h) (Or.inl ⟨by rfl, ?_⟩) (by assumption) ?_
            · intro w hSw; (try dsimp only at hSw); go_simp
            simp only [Act.put, List.setIfInBounds_toArray, List.set_cons_zero, List.set_cons_succ]
            refine wpAnyH_done (by kernel_rfl) ?_ _
            go_wp2_with fail
            go_meet
            exact ⟨rfl, Hb9.out⟩
          case rest =>
            obtain ⟨rfl, hbx⟩ := hcut
            have Hbx := Lib.hid hbx
            clear hbx
            go_wp2
            go_ret
            exact ⟨rfl, Hw8.out.trans (Hbx.out.mono Hw8.out.size)⟩

namespace lawSumPuts
open Go.ChangeShapes Go.WideShapes Go.ChangeAt

theorem own : ownKnob Try.prog.godebug = none := by kernel_rfl
theorem kids : Kids Try.prog (· < Try.prog.types.size) := kids_rows (by kernel_rfl) (by kernel_rfl)
theorem full : ∀ t e, t < Try.prog.types.size → Try.prog.underlying t = some (.slice e) → 0 < Try.prog.cellsOf e := slices_full_of Try.prog (by kernel_rfl)

set_option maxRecDepth 100000 in
theorem lifted (os : Os) (started : os.Started) (H : Type) (enc : TypeId × Value → H) :
    ReturnsInHanded {} Try.checked os 6 .any (Rows.sumPutsSpec.pre6 enc Try.prog Try.f6 Rows.sumPutsRow.domain false) (Rows.sumPutsSpec.post enc Try.prog Try.f6 false true false false) := by
  refine returnsInHanded_of_change (C := Try.checked) own started (by kernel_rfl) Try.func6
    (ChangeSpec.witness6 (enc := enc) (C := Try.checked) false ⟨#[], #[.int .u32 0, .slice none 0 0, .slice none 0 0, .int .i64 0], []⟩ 8 (by kernel_rfl) (by kernel_rfl) (by kernel_rfl) (by kernel_rfl)) ?_
  intro W base args ds gs before hval0 hW _ _
  have hval : ∀ (j : Nat) t v, Try.f6.params[j]? = some t → args[j]? = some v → Value.okWide Try.prog W .any base t v := hval0
  have hW' := hW
  obtain ⟨p, q, hA0, hV, rfl, _, _⟩ := hW
  obtain ⟨rfl, rfl⟩ := trodVars_none hV
  have hA : DataW.TrodAll enc Try.prog W 0 (fun _ => true) true Try.f6.params.toList args.toList ds p := hA0
  rw [Try.params6] at hA hval
  obtain ⟨v0, vs0, d0, ds0, p0, q0, hargs, rfl, rfl, h0, r0⟩ := trodAll_cons hA
  obtain ⟨v1, vs1, d1, ds1, p1, q1, rfl, rfl, rfl, h1, r1⟩ := trodAll_cons r0
  obtain ⟨v2, vs2, d2, ds2, p2, q2, rfl, rfl, rfl, h2, r2⟩ := trodAll_cons r1
  obtain ⟨v3, vs3, d3, ds3, p3, q3, rfl, rfl, rfl, h3, r3⟩ := trodAll_cons r2
  obtain ⟨rfl, rfl, rfl⟩ := trodAll_nil r3
  obtain rfl : args = #[v0, v1, v2, v3] := by cases args; simp_all
  have hlt := hW'.lt
  obtain ⟨k0, rfl, hk0⟩ := open_u32 Try.underlying22 (hval 0 22 v0 rfl rfl) h0
  obtain ⟨A1, n1, c1, l1, rfl, hn1, hnc1, hb1⟩ := open_bytes Try.underlying23 Try.underlying5 (by kernel_rfl) (hval 1 23 v1 rfl rfl) h1 (fun x hx => hlt x (by simp [hx]))
  obtain ⟨A2, n2, c2, l2, rfl, hn2, hnc2, hb2⟩ := open_bytes Try.underlying23 Try.underlying5 (by kernel_rfl) (hval 2 23 v2 rfl rfl) h2 (fun x hx => hlt x (by simp [hx]))
  obtain ⟨k3, rfl, _, _, _⟩ := open_int Try.underlying3 (hval 3 3 v3 rfl rfl) h3
  refine (sumPuts_walk A1 A2 n1 k0 c1 n2 c2 k3 l1 l2 W hb1 hn1 hb2 hn2 hk0).mono fun e W' ⟨he, hbel⟩ => ?_
  subst he
  exact ⟨_, rfl, law_post kids full (of_decide_eq_true (by kernel_rfl)) Try.underlying4 rfl rfl rfl hW' hbel⟩

theorem proved : Rows.SumPutsSaid :=
  OpenClaim.holds_of_wide 6 Try.f6 rfl rfl rfl rfl rfl rfl rfl ⟨rfl, rfl, rfl, rfl, rfl⟩ rfl rfl rfl rfl rfl (by kernel_rfl) Try.func6 (by kernel_rfl)
    (of_decide_eq_true (by kernel_rfl)) (by unfold Func.isWrapper; first | (rw [if_pos (by decide +kernel)]; kernel_rfl) | (rw [if_neg (by decide +kernel)]; exact ⟨rfl, rfl⟩))
    (fun os started H enc _ => lifted os started H enc)
end lawSumPuts

end Go.Proofs.Ythjlamenfmadjaa
