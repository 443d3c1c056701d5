/- The law DiskFull: for every input it returns true and leaves what it was given. No condition. -/
import Derived.Test.YtbiifmcfamgmfaaDskI
import Derived.Test.YtbiifmcfamgmfaaOpenRs
namespace Go.Proofs.Ytbiifmcfamgmfaa
open Go.RowKit
open Go.Lib (strCells)

theorem used_nil (R : Nat) (F : List UInt8) (W : List Nat) : DState.used ⟨R, true, [], F, W, true⟩ = F.length := by simp [DState.used, takenN_nil]
set_option maxRecDepth 100000 in
set_option maxHeartbeats 6400000 in
theorem diskFull_walk (room : Int) (A : Option Addr) (n c : Nat) (rs : Brs) (As : Option Addr) (ns cs : Nat) (st : List UInt8) (w : World) (h : HasRs w w.heap.size A n rs) (hn : n ≤ maxLen) (hs : HasBytes w w.heap.size As ns st) :
    Calls Try.prog 4 #[.int .i64 room, .slice A n c, .slice As ns cs] w fun e w' => e = .returned (.bool true) ∧ Below w.heap.size w w' := by
  have H := Lib.hid h
  have Hn := Lib.hid hn
  have Hs := Lib.hid hs
  have Hsl := Lib.hid hs.len
  have HL := Lib.hid (brLists_at h)
  obtain ⟨L, hL⟩ : ∃ L, brLists rs = L := ⟨_, rfl⟩
  have HLe := Lib.hid hL
  rw [hL] at HL
  clear h hn hL hs
  go_enter Try.func4, Try.ntmps4
  go_wp2_with fail
  refine (awake_any _).mono ?_
  rintro e w1 ⟨rfl, hb1⟩
  have Hb1 := Lib.hid hb1
  have H1 := Lib.hid (H.out.belowOf hb1 (Nat.le_refl _))
  clear hb1
  go_wp2_with fail
  refine (bulk_any 4000 A n c w.heap.size rs w1 H1.out (by omega) Hn.out).mono ?_
  rintro e w2 ⟨⟨m, rfl, hm⟩, rfl⟩
  rw [HLe.out] at hm
  have Hm := Lib.hid hm
  clear hm
  by_cases hmm : 4000 < m
  · go_wp2
    go_ret
    exact ⟨rfl, Hb1.out⟩
  by_cases hn6 : 60 < n
  · go_wp2
    go_ret
    exact ⟨rfl, Hb1.out⟩
  by_cases hns : 4000 < ns
  · go_wp2
    go_ret
    exact ⟨rfl, Hb1.out⟩
  by_cases hr0 : room < 0
  · go_wp2
    go_ret
    exact ⟨rfl, Hb1.out⟩
  obtain ⟨R, rfl⟩ : ∃ R : Nat, room = (R : Int) := ⟨room.toNat, by omega⟩
  by_cases hr1 : (10000 : Int) < (R : Int)
  · go_wp2
    go_ret
    exact ⟨rfl, Hb1.out⟩
  have hbulk := Hm.out (by omega)
  have hLn := bulk_len L
  rw [HL.out] at hLn
  have Hsz : Hid (∀ k, begD L k ≤ 36000) := Lib.hid fun k => by have := begD_le L k; rw [HL.out] at this; omega
  have Hmem : Hid (∀ l ∈ L, l.length ≤ 4000) := Lib.hid fun l hl => by have := bulk_mem hl; omega
  clear hbulk hLn Hm
  have hR : R ≤ 10000 := by omega
  go_wp2_with fail
  refine (new_law R w.heap.size w w1 (by omega) Hb1.out (Nat.le_refl _)).mono ?_
  rintro e w2 ⟨sb, rfl, hz, hb2⟩
  have Hz := Lib.hid hz
  have Hb2 := Lib.hid hb2
  clear hz hb2
  go_wp2_with fail
  refine (start0_law Hz.out Hb2.out (Nat.le_refl _)).mono ?_
  rintro e w3 ⟨s3, v3, rfl, h3⟩
  have H3 := Lib.hid h3
  clear h3
  go_wp2_with fail
  go_loopw [9, 10, 11, 12] (fun i _ _ _ wr => ∃ (k : Nat) (F : List UInt8) (V : List Nat), k ≤ n ∧ i = .int .i64 (k : Int) ∧ F.length ≤ R ∧ V.length ≤ k ∧ After w.heap.size sb w ⟨R, true, [], F, V, true⟩ wr) (fun i _ _ _ _ => n - (intOf i).toNat)
  case atStart => exact ⟨0, [], [], by omega, rfl, by simp, by simp, H3.out⟩
  case round =>
    obtain ⟨k, F, V, hk, rfl, hF, hV, ha⟩ := hrel
    have Ha := Lib.hid ha
    clear ha
    obtain ⟨f, hf⟩ : ∃ f, F.length = f := ⟨_, rfl⟩
    obtain ⟨v, hv⟩ : ∃ v, V.length = v := ⟨_, rfl⟩
    have Hf := Lib.hid hf
    have Hv := Lib.hid hv
    rw [hf] at hF
    rw [hv] at hV
    clear hf hv
    by_cases hlt : k < n
    · obtain ⟨a, Az, z, cz, l, rfl, hab, hlk, hzc, hcm, hbl, hc⟩ := (H.out.belowOf Ha.out.below (Nat.le_refl _)).at_ hlt
      rw [HLe.out] at hlk
      have hzl : l.length = z := hbl.len
      have hz4 : z ≤ 4000 := by rw [← hzl]; exact Hmem.out l (List.mem_of_getElem? hlk)
      have k0 : (0 : Int) ≤ (k : Int) := by omega
      have k1 : (k : Int) < (n : Int) := by omega
      have Hu := Lib.hid (used_law Ha.out (by simp) (by rw [Hf.out]; omega) 0)
      have Hc := Lib.hid hc
      have Hab := Lib.hid hab
      have Hzl := Lib.hid hzl
      rw [used_nil, Hf.out] at Hu
      have Hbl := Lib.hid hbl
      clear hlk hzc hcm hzl hbl hc hab
      go_wp2_with fail
      refine Hu.out.mono ?_
      rintro e w4 ⟨rfl, md, rfl⟩
      have H4 := Lib.hid ((Ha.out.drew 0).drew md)
      have hw0 := waiting_law H4.out 0
      simp only [Hv.out] at hw0
      have Hw := Lib.hid hw0
      clear hw0 Hu
      go_wp2_with fail
      refine Hw.out.mono ?_
      rintro e w5 ⟨rfl, rfl⟩
      have H5 := Lib.hid (H4.out.drew 0)
      have Hb5 := Lib.hid (Hbl.out.belowOf (below_drews (below_drews (below_drews (Below.refl wr.heap.size wr) 0) md) 0) Ha.out.below.size)
      have hc5 : (((wr.drewN 0).drewN md).drewN 0).cell? (a.add k) = some (.slice Az z cz) := Hc.out
      have Hc5 := Lib.hid hc5
      have Hsz5 := Lib.hid H5.out.below.size
      clear hc5 Hw H4
      generalize ((wr.drewN 0).drewN md).drewN 0 = w5 at *
      have hc5 := Hc5.out
      by_cases hfit : f + (8 + z) ≤ R
      · have Hap := Lib.hid (append_law H5.out rfl rfl Az z cz w.heap.size l Hb5.out Hsz5.out (by omega) (by simp) (by rw [Hf.out]; omega) (by rw [Hv.out]; omega) (by rw [used_nil, Hf.out]; exact hfit))
        go_wp2_with fail
        refine Hap.out.mono ?_
        rintro e w6 ⟨rfl, h6⟩
        have hc6 : w6.cell? (a.add k) = some (.slice Az z cz) := by
          have e1 := h6.below.cell (p := a.add k) (by rw [addr_block]; exact Hab.out)
          have e2 := H5.out.below.cell (p := a.add k) (by rw [addr_block]; exact Hab.out)
          exact e1.trans (e2.symm.trans Hc5.out)
        have Hu6 : Hid (∀ j, Calls Try.prog 16 #[.pointer (some ⟨sb, 0, none⟩)] (w6.drewN j) fun e w' => e = .returned (.int .i64 ((f : Int) + 8 + (z : Int))) ∧ ∃ m, w' = (w6.drewN j).drewN m) := Lib.hid fun j => by
          have h1 := used_law h6 (by simp) (by simp only [List.length_append, frameOf_len]; rw [Hf.out, Hzl.out]; omega) j
          rw [show (DState.used ⟨R, true, [], F ++ frameOf l, V ++ [F.length], true⟩ : Int) = (f : Int) + 8 + (z : Int) by rw [used_nil, List.length_append, frameOf_len, Hf.out, Hzl.out]; omega] at h1
          exact h1
        have H6 := Lib.hid h6
        have d1 : decide ((R : Int) < (f : Int) + 8 + (z : Int)) = false := by simp; omega
        clear h6 hc5
        go_wp2
        go_quiet (first | (go_at_call 16; refine Calls.quiet_of (Hu6.out _)))
        go_wp2
        go_roundw
        case rel => exact ⟨k + 1, F ++ frameOf l, V ++ [F.length], by omega, by go_num, by rw [List.length_append, frameOf_len, Hf.out, Hzl.out]; omega, by rw [List.length_append, Hv.out]; simp; omega, H6.out.drew _⟩
        case measure => simp [intOf]; omega
      · have Hap := Lib.hid (appendFull_law H5.out rfl Az z cz w.heap.size l Hb5.out Hsz5.out (by omega) (by simp) (by rw [Hf.out]; omega) (by rw [used_nil, Hf.out]; show R < f + (8 + z); omega))
        go_wp2_with fail
        refine Hap.out.mono ?_
        rintro e w6 ⟨rfl, h6⟩
        have hc6 : w6.cell? (a.add k) = some (.slice Az z cz) := by
          have e1 := h6.below.cell (p := a.add k) (by rw [addr_block]; exact Hab.out)
          have e2 := H5.out.below.cell (p := a.add k) (by rw [addr_block]; exact Hab.out)
          exact e1.trans (e2.symm.trans Hc5.out)
        have Hu6 : Hid (∀ j, Calls Try.prog 16 #[.pointer (some ⟨sb, 0, none⟩)] (w6.drewN j) fun e w' => e = .returned (.int .i64 (f : Int)) ∧ ∃ m, w' = (w6.drewN j).drewN m) := Lib.hid fun j => by
          have h1 := used_law h6 (by simp) (by rw [Hf.out]; omega) j
          rw [used_nil, Hf.out] at h1
          exact h1
        have Hw6 : Hid (∀ j, Calls Try.prog 15 #[.pointer (some ⟨sb, 0, none⟩)] (w6.drewN j) fun e w' => e = .returned (.int .i64 (v : Int)) ∧ w6.drewN j = w') := Lib.hid fun j => by
          have h1 := waiting_law h6 j
          simp only [Hv.out] at h1
          exact h1
        have H6 := Lib.hid h6
        have d1 : decide ((f : Int) + 8 + (z : Int) ≤ (R : Int)) = false := by simp; omega
        have d2 : decide ((R : Int) < (f : Int)) = false := by simp; omega
        clear h6 hc5
        go_wp2
        go_quiet (first | (go_at_call 16; refine Calls.quiet_of (Hu6.out _)) | (go_at_call 15; refine quietS (Hw6.out _)))
        go_wp2
        go_roundw
        case rel => exact ⟨k + 1, F, V, by omega, by go_num, by rw [Hf.out]; exact hF, by rw [Hv.out]; omega, H6.out.drew _⟩
        case measure => simp [intOf]; omega
    · obtain rfl : k = n := by omega
      by_cases hn0 : k = 0
      · have hv0 : v = 0 := by omega
        have kk : ¬ (0 : Int) < (k : Int) := by omega
        have HX := Ha
        go_wp2_with fail
        refine (sync_law HX.out rfl).mono ?_
        rintro e w7 ⟨rfl, h7⟩
        have H7 := Lib.hid (h7.eq (S' := ⟨R, true, [], F, [], true⟩) rfl)
        clear h7
        go_wp2_with fail
        refine (log_law H7.out (by show F.length ≤ 1000000; rw [Hf.out]; omega)).mono ?_
        rintro e w8 ⟨v8, rfl, ho8, h8⟩
        obtain ⟨A8, c8, rfl, -, -, hh8⟩ := own_slice ho8
        have hcv8 := string_run hh8 c8
        simp only [Hf.out] at hcv8 ⊢
        have H8 := Lib.hid h8
        have Hs8 := Lib.hid (Hs.out.belowOf h8.below (Nat.le_refl _))
        clear ho8 hh8 h8
        by_cases hfull : R < takenN st
        · have hd8 : (R : Int) - 8 < (ns : Int) := by
            have := takenN_le st
            rw [Hsl.out] at this
            have h0 : takenN st ≠ 0 := by omega
            omega
          go_wp2_with fail
          refine (checkpointFull_law H8.out rfl rfl As ns cs st Hsl.out (by omega) hfull).mono ?_
          rintro e w9 ⟨rfl, h9⟩
          have H9 := Lib.hid h9
          clear h9 hcv8
          go_wp2_with fail
          refine (log_law H9.out (by show F.length ≤ 1000000; rw [Hf.out]; omega)).mono ?_
          rintro e w10 ⟨v10, rfl, ho10, h10⟩
          obtain ⟨A10, c10, rfl, -, -, hh10⟩ := own_slice ho10
          have hcv10 := string_run hh10 c10
          simp only [Hf.out] at hcv10 ⊢
          have H10 := Lib.hid h10
          clear ho10 hh10 h10
          go_wp2
          go_ret
          exact ⟨rfl, H10.out.below⟩
        · have hT := takenN_le st
          rw [Hsl.out] at hT
          have HT := Lib.hid hT
          have HR := Lib.hid (show takenN st ≤ R by omega)
          clear hT hfull
          go_wp2_with fail
          refine (checkpoint_law H8.out rfl rfl As ns cs w.heap.size st Hs8.out H8.out.below.size (by omega) HR.out).mono ?_
          rintro e w9 ⟨rfl, h9⟩
          have H9 := Lib.hid h9
          clear h9 hcv8
          go_wp2_with fail
          refine (resize_law H9.out (by show st.length ≤ _; rw [Hsl.out]; omega) (by simp) 4194304 (by omega) (by simp only [DState.used, List.length_nil]; have := HT.out; omega)).mono ?_
          rintro e w10 ⟨rfl, h10⟩
          have H10 := Lib.hid (h10.eq (appSt_zero 4194304 st [] L).symm)
          clear h10
          generalize wr = wa at *
          go_wp2_with fail
          go_loopw [15] (fun i wr => ∃ q : Nat, q ≤ k ∧ i = .int .i64 (q : Int) ∧ After w.heap.size sb w (appSt 4194304 st [] L q) wr) (fun i _ => k - (intOf i).toNat)
          case atStart => exact ⟨0, by omega, rfl, H10.out⟩
          case round =>
            obtain ⟨q, hq, rfl, ha⟩ := hrel
            have Ha := Lib.hid ha
            clear ha
            by_cases hlt : q < k
            · exact absurd hlt (by omega)
            · obtain rfl : q = k := by omega
              have hw0 := waiting_law Ha.out 0
              rw [appSt_waits] at hw0
              have Hw := Lib.hid hw0
              clear hw0
              go_wp2_with fail
              refine Hw.out.mono ?_
              rintro e w5 ⟨rfl, rfl⟩
              go_wp2
              go_ret
              exact ⟨rfl, (Ha.out.drew 0).below⟩
      have kk : (0 : Int) < (k : Int) := by omega
      by_cases hv0 : v = 0
      · have vv : ¬ (0 : Int) < (v : Int) := by omega
        have hw0 := waiting_law Ha.out 0
        simp only [Hv.out] at hw0
        have Hw := Lib.hid hw0
        clear hw0
        go_wp2_with fail
        refine Hw.out.mono ?_
        rintro e w5 ⟨rfl, rfl⟩
        have HX := Lib.hid (Ha.out.drew 0)
        go_wp2_with fail
        refine (sync_law HX.out rfl).mono ?_
        rintro e w7 ⟨rfl, h7⟩
        have H7 := Lib.hid (h7.eq (S' := ⟨R, true, [], F, [], true⟩) rfl)
        clear h7
        go_wp2_with fail
        refine (log_law H7.out (by show F.length ≤ 1000000; rw [Hf.out]; omega)).mono ?_
        rintro e w8 ⟨v8, rfl, ho8, h8⟩
        obtain ⟨A8, c8, rfl, -, -, hh8⟩ := own_slice ho8
        have hcv8 := string_run hh8 c8
        simp only [Hf.out] at hcv8 ⊢
        have H8 := Lib.hid h8
        have Hs8 := Lib.hid (Hs.out.belowOf h8.below (Nat.le_refl _))
        clear ho8 hh8 h8
        by_cases hfull : R < takenN st
        · have hd8 : (R : Int) - 8 < (ns : Int) := by
            have := takenN_le st
            rw [Hsl.out] at this
            have h0 : takenN st ≠ 0 := by omega
            omega
          go_wp2_with fail
          refine (checkpointFull_law H8.out rfl rfl As ns cs st Hsl.out (by omega) hfull).mono ?_
          rintro e w9 ⟨rfl, h9⟩
          have H9 := Lib.hid h9
          clear h9 hcv8
          go_wp2_with fail
          refine (log_law H9.out (by show F.length ≤ 1000000; rw [Hf.out]; omega)).mono ?_
          rintro e w10 ⟨v10, rfl, ho10, h10⟩
          obtain ⟨A10, c10, rfl, -, -, hh10⟩ := own_slice ho10
          have hcv10 := string_run hh10 c10
          simp only [Hf.out] at hcv10 ⊢
          have H10 := Lib.hid h10
          clear ho10 hh10 h10
          go_wp2
          go_ret
          exact ⟨rfl, H10.out.below⟩
        · have hT := takenN_le st
          rw [Hsl.out] at hT
          have HT := Lib.hid hT
          have HR := Lib.hid (show takenN st ≤ R by omega)
          clear hT hfull
          go_wp2_with fail
          refine (checkpoint_law H8.out rfl rfl As ns cs w.heap.size st Hs8.out H8.out.below.size (by omega) HR.out).mono ?_
          rintro e w9 ⟨rfl, h9⟩
          have H9 := Lib.hid h9
          clear h9 hcv8
          go_wp2_with fail
          refine (resize_law H9.out (by show st.length ≤ _; rw [Hsl.out]; omega) (by simp) 4194304 (by omega) (by simp only [DState.used, List.length_nil]; have := HT.out; omega)).mono ?_
          rintro e w10 ⟨rfl, h10⟩
          have H10 := Lib.hid (h10.eq (appSt_zero 4194304 st [] L).symm)
          clear h10
          generalize wr = wa at *
          go_wp2_with fail
          go_loopw [15] (fun i wr => ∃ q : Nat, q ≤ k ∧ i = .int .i64 (q : Int) ∧ After w.heap.size sb w (appSt 4194304 st [] L q) wr) (fun i _ => k - (intOf i).toNat)
          case atStart => exact ⟨0, by omega, rfl, H10.out⟩
          case round =>
            obtain ⟨q, hq, rfl, ha⟩ := hrel
            have Ha := Lib.hid ha
            clear ha
            by_cases hlt : q < k
            · obtain ⟨a, Az, z, cz, l, rfl, _, hlk, hzc, hcm, hbl, hc⟩ := (H.out.belowOf Ha.out.below (Nat.le_refl _)).at_ hlt
              rw [HLe.out] at hlk
              have hzl : l.length = z := hbl.len
              have hz4 : z ≤ 4000 := by rw [← hzl]; exact Hmem.out l (List.mem_of_getElem? hlk)
              have k0 : (0 : Int) ≤ (q : Int) := by omega
              have k1 : (q : Int) < (k : Int) := by omega
              have hbk := Hsz.out q
              have hTT := HT.out
              have Hap := Lib.hid (append_law Ha.out rfl rfl Az z cz w.heap.size l hbl Ha.out.below.size (by omega) (by show st.length ≤ _; rw [Hsl.out]; omega) (by rw [appSt_len]; simp only [List.length_nil]; omega) (by rw [appSt_waits]; omega) (by rw [appSt_used]; simp only [List.length_nil]; show _ ≤ 4194304; omega))
              have Hss := Lib.hid (appSt_succ (room := 4194304) (C := st) (F := []) hlk)
              clear hlk hzl hzc hcm hbl hbk hTT
              go_wp2_with fail
              refine Hap.out.mono ?_
              rintro e w4 ⟨rfl, h4⟩
              have H4 := Lib.hid (h4.eq Hss.out)
              clear h4
              go_wp2
              go_roundw
              case rel => exact ⟨q + 1, by omega, by go_num, H4.out⟩
              case measure => simp [intOf]; omega
            · obtain rfl : q = k := by omega
              have hw0 := waiting_law Ha.out 0
              rw [appSt_waits] at hw0
              have Hw := Lib.hid hw0
              clear hw0
              go_wp2_with fail
              refine Hw.out.mono ?_
              rintro e w5 ⟨rfl, rfl⟩
              go_wp2
              go_ret
              exact ⟨rfl, (Ha.out.drew 0).below⟩
      · have vv : (0 : Int) < (v : Int) := by omega
        have hw0 := waiting_law Ha.out 0
        simp only [Hv.out] at hw0
        have Hw := Lib.hid hw0
        clear hw0
        go_wp2_with fail
        refine Hw.out.mono ?_
        rintro e w5 ⟨rfl, rfl⟩
        have HX := Lib.hid (Ha.out.drew 0)
        have Hcb := Lib.hid (checkpointBusy_law HX.out rfl (by show 0 < V.length; rw [Hv.out]; omega) (.slice As ns cs))
        go_wp2_with fail
        refine Hcb.out.mono ?_
        rintro e w6 ⟨rfl, rfl⟩
        go_wp2_with fail
        refine (sync_law HX.out rfl).mono ?_
        rintro e w7 ⟨rfl, h7⟩
        have H7 := Lib.hid (h7.eq (S' := ⟨R, true, [], F, [], true⟩) rfl)
        clear h7
        go_wp2_with fail
        refine (log_law H7.out (by show F.length ≤ 1000000; rw [Hf.out]; omega)).mono ?_
        rintro e w8 ⟨v8, rfl, ho8, h8⟩
        obtain ⟨A8, c8, rfl, -, -, hh8⟩ := own_slice ho8
        have hcv8 := string_run hh8 c8
        simp only [Hf.out] at hcv8 ⊢
        have H8 := Lib.hid h8
        have Hs8 := Lib.hid (Hs.out.belowOf h8.below (Nat.le_refl _))
        clear ho8 hh8 h8
        by_cases hfull : R < takenN st
        · have hd8 : (R : Int) - 8 < (ns : Int) := by
            have := takenN_le st
            rw [Hsl.out] at this
            have h0 : takenN st ≠ 0 := by omega
            omega
          go_wp2_with fail
          refine (checkpointFull_law H8.out rfl rfl As ns cs st Hsl.out (by omega) hfull).mono ?_
          rintro e w9 ⟨rfl, h9⟩
          have H9 := Lib.hid h9
          clear h9 hcv8
          go_wp2_with fail
          refine (log_law H9.out (by show F.length ≤ 1000000; rw [Hf.out]; omega)).mono ?_
          rintro e w10 ⟨v10, rfl, ho10, h10⟩
          obtain ⟨A10, c10, rfl, -, -, hh10⟩ := own_slice ho10
          have hcv10 := string_run hh10 c10
          simp only [Hf.out] at hcv10 ⊢
          have H10 := Lib.hid h10
          clear ho10 hh10 h10
          go_wp2
          go_ret
          exact ⟨rfl, H10.out.below⟩
        · have hT := takenN_le st
          rw [Hsl.out] at hT
          have HT := Lib.hid hT
          have HR := Lib.hid (show takenN st ≤ R by omega)
          clear hT hfull
          go_wp2_with fail
          refine (checkpoint_law H8.out rfl rfl As ns cs w.heap.size st Hs8.out H8.out.below.size (by omega) HR.out).mono ?_
          rintro e w9 ⟨rfl, h9⟩
          have H9 := Lib.hid h9
          clear h9 hcv8
          go_wp2_with fail
          refine (resize_law H9.out (by show st.length ≤ _; rw [Hsl.out]; omega) (by simp) 4194304 (by omega) (by simp only [DState.used, List.length_nil]; have := HT.out; omega)).mono ?_
          rintro e w10 ⟨rfl, h10⟩
          have H10 := Lib.hid (h10.eq (appSt_zero 4194304 st [] L).symm)
          clear h10
          generalize wr = wa at *
          go_wp2_with fail
          go_loopw [15] (fun i wr => ∃ q : Nat, q ≤ k ∧ i = .int .i64 (q : Int) ∧ After w.heap.size sb w (appSt 4194304 st [] L q) wr) (fun i _ => k - (intOf i).toNat)
          case atStart => exact ⟨0, by omega, rfl, H10.out⟩
          case round =>
            obtain ⟨q, hq, rfl, ha⟩ := hrel
            have Ha := Lib.hid ha
            clear ha
            by_cases hlt : q < k
            · obtain ⟨a, Az, z, cz, l, rfl, _, hlk, hzc, hcm, hbl, hc⟩ := (H.out.belowOf Ha.out.below (Nat.le_refl _)).at_ hlt
              rw [HLe.out] at hlk
              have hzl : l.length = z := hbl.len
              have hz4 : z ≤ 4000 := by rw [← hzl]; exact Hmem.out l (List.mem_of_getElem? hlk)
              have k0 : (0 : Int) ≤ (q : Int) := by omega
              have k1 : (q : Int) < (k : Int) := by omega
              have hbk := Hsz.out q
              have hTT := HT.out
              have Hap := Lib.hid (append_law Ha.out rfl rfl Az z cz w.heap.size l hbl Ha.out.below.size (by omega) (by show st.length ≤ _; rw [Hsl.out]; omega) (by rw [appSt_len]; simp only [List.length_nil]; omega) (by rw [appSt_waits]; omega) (by rw [appSt_used]; simp only [List.length_nil]; show _ ≤ 4194304; omega))
              have Hss := Lib.hid (appSt_succ (room := 4194304) (C := st) (F := []) hlk)
              clear hlk hzl hzc hcm hbl hbk hTT
              go_wp2_with fail
              refine Hap.out.mono ?_
              rintro e w4 ⟨rfl, h4⟩
              have H4 := Lib.hid (h4.eq Hss.out)
              clear h4
              go_wp2
              go_roundw
              case rel => exact ⟨q + 1, by omega, by go_num, H4.out⟩
              case measure => simp [intOf]; omega
            · obtain rfl : q = k := by omega
              have hw0 := waiting_law Ha.out 0
              rw [appSt_waits] at hw0
              have Hw := Lib.hid hw0
              clear hw0
              go_wp2_with fail
              refine Hw.out.mono ?_
              rintro e w5 ⟨rfl, rfl⟩
              go_wp2
              go_ret
              exact ⟨rfl, (Ha.out.drew 0).below⟩

namespace lawDiskFull
open Go.ChangeShapes Go.WideShapes Go.ChangeAt

theorem own : ownKnob Try.prog.godebug = none := by kernel_rfl
theorem kids : Kids Try.prog (· < Try.prog.types.size) := kids_rows (by kernel_rfl) (by kernel_rfl)
theorem full : ∀ t e, t < Try.prog.types.size → Try.prog.underlying t = some (.slice e) → 0 < Try.prog.cellsOf e := slices_full_of Try.prog (by kernel_rfl)

set_option maxRecDepth 100000 in
theorem lifted (os : Os) (started : os.Started) (H : Type) (enc : TypeId × Value → H) :
    ReturnsInHanded {} Try.checked os 4 .any (Rows.diskFullSpec.pre6 enc Try.prog Try.f4 Rows.diskFullRow.domain false) (Rows.diskFullSpec.post enc Try.prog Try.f4 false true false false) := by
  refine returnsInHanded_of_change (C := Try.checked) own started (by kernel_rfl) Try.func4
    (ChangeSpec.witness6 (enc := enc) (C := Try.checked) false ⟨#[], #[.int .i64 0, .slice none 0 0, .slice none 0 0], []⟩ 8 (by kernel_rfl) (by kernel_rfl) (by kernel_rfl) (by kernel_rfl)) ?_
  intro W base args ds gs before hval0 hW _ _
  have hval : ∀ (j : Nat) t v, Try.f4.params[j]? = some t → args[j]? = some v → Value.okWide Try.prog W .any base t v := hval0
  have hW' := hW
  obtain ⟨p, q, hA0, hV, rfl, _, _⟩ := hW
  obtain ⟨rfl, rfl⟩ := trodVars_none hV
  have hA : DataW.TrodAll enc Try.prog W 0 (fun _ => true) true Try.f4.params.toList args.toList ds p := hA0
  rw [Try.params4] at hA hval
  obtain ⟨v0, vs0, d0, ds0, p0, q0, hargs, rfl, rfl, h0, r0⟩ := trodAll_cons hA
  obtain ⟨v1, vs1, d1, ds1, p1, q1, rfl, rfl, rfl, h1, r1⟩ := trodAll_cons r0
  obtain ⟨v2, vs2, d2, ds2, p2, q2, rfl, rfl, rfl, h2, r2⟩ := trodAll_cons r1
  obtain ⟨rfl, rfl, rfl⟩ := trodAll_nil r2
  obtain rfl : args = #[v0, v1, v2] := by cases args; simp_all
  have hlt := hW'.lt
  obtain ⟨k0, rfl, _, _, _⟩ := open_int Try.underlying3 (hval 0 3 v0 rfl rfl) h0
  obtain ⟨A1, n1, c1, rs1, rfl, hn1, hnc1, hb1⟩ := open_rs Try.underlying22 (by kernel_rfl) Try.underlying29 Try.underlying5 (by kernel_rfl) (hval 1 22 v1 rfl rfl) h1 (fun x hx => hlt x (by simp [hx]))
  obtain ⟨A2, n2, c2, l2, rfl, hn2, hnc2, hb2⟩ := open_bytes Try.underlying29 Try.underlying5 (by kernel_rfl) (hval 2 29 v2 rfl rfl) h2 (fun x hx => hlt x (by simp [hx]))
  refine (diskFull_walk k0 A1 n1 c1 rs1 A2 n2 c2 l2 W hb1 hn1 hb2).mono fun e W' ⟨he, hbel⟩ => ?_
  subst he
  exact ⟨_, rfl, law_post kids full (of_decide_eq_true (by kernel_rfl)) Try.underlying4 rfl rfl rfl hW' hbel⟩

theorem proved : Rows.DiskFullSaid :=
  OpenClaim.holds_of_wide 4 Try.f4 rfl rfl rfl rfl rfl rfl rfl ⟨rfl, rfl, rfl, rfl, rfl⟩ rfl rfl rfl rfl rfl (by kernel_rfl) Try.func4 (by kernel_rfl)
    (of_decide_eq_true (by kernel_rfl)) (by unfold Func.isWrapper; first | (rw [if_pos (by decide +kernel)]; kernel_rfl) | (rw [if_neg (by decide +kernel)]; exact ⟨rfl, rfl⟩))
    (fun os started H enc _ => lifted os started H enc)
end lawDiskFull

end Go.Proofs.Ytbiifmcfamgmfaa
