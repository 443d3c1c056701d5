/- The law DiskKeeps: for every input it returns true and leaves what it was given. No condition. -/
import Derived.Test.YtbiifmcfamgmfaaDskI
import Derived.Test.YtbiifmcfamgmfaaOpenRs
namespace Go.Proofs.Ytbiifmcfamgmfaa
open Go.RowKit
open Go.Lib (strCells)

/-- what the crash of DiskKeeps leaves -/
def KeepsPost (b sb : Nat) (w : World) (L : List (List UInt8)) (e : Ending) (w' : World) : Prop :=
  e = .returned (.tuple #[]) ∧ ∃ S, After b sb w S w' ∧ S.on = false ∧ S.C = [] ∧ S.W = [] ∧ S.L.length ≤ 100000 ∧ (scanT S.L).1 = L
theorem crash_keeps {b sb M : Nat} {w wr : World} {L1 L2 : List (List UInt8)} (h : After b sb w (appSt M [] (frames L1) L2 L2.length) wr) (keep torn : Int) (K T : Nat) (hK : (if keep < 0 then 0 else keep) = (K : Int)) (hT : (if torn < 0 then 0 else torn) = (T : Int))
    (h1 : ∀ p ∈ L1, p.length ≤ 65536) (h2 : ∀ p ∈ L2, p.length ≤ 65536) (hF : (frames L1).length ≤ 50000) (hn : L2.length ≤ 10000) (hB : ∀ k, begD L2 k ≤ 50000) :
    Calls Try.prog 13 #[.pointer (some ⟨sb, 0, none⟩), .int .i64 keep, .int .i64 torn] wr (KeepsPost b sb w (L1 ++ L2.take K)) := by
  have hlen := appSt_len M [] (frames L1) L2 L2.length
  have hwl := appSt_waits M [] (frames L1) L2 L2.length
  have hLB := hB L2.length
  have hSL : (appSt M [] (frames L1) L2 L2.length).L = frames L1 ++ frames L2 := by simp [appSt]
  by_cases hlt : K < L2.length
  · have hb : (appSt M [] (frames L1) L2 L2.length).W[K]? = some ((frames L1).length + begD L2 K) := by simp [appSt, hlt]
    have hsucc := begD_succ (L := L2) (k := K) (List.getElem?_eq_getElem hlt)
    have hle : begD L2 (K + 1) ≤ begD L2 L2.length := by
      have e : L2.take L2.length = L2.take (K + 1) ++ (L2.take L2.length).drop (K + 1) := by
        conv => lhs; rw [← List.take_append_drop (K + 1) (L2.take L2.length)]
        rw [List.take_take, Nat.min_eq_left (by omega)]
      unfold begD
      rw [e, frames_app, List.length_append]
      omega
    refine (crashAt_law h rfl keep torn K _ ((frames L1).length + begD L2 (K + 1)) T _ hK (by omega) hb (fun e => ?_) (fun e => ?_) (by omega) (by omega) (by omega) hT rfl).mono ?_
    · rw [hwl] at e
      simp [appSt, e]
    · rw [hwl] at e
      rw [hlen, e]
    · rintro e w' ⟨rfl, ha⟩
      refine ⟨rfl, _, ha, rfl, rfl, rfl, ?_, ?_⟩
      · simp only [hSL, List.length_take]
        rw [hSL] at hlen
        omega
      · simp only [hSL]
        rw [crash_scan L1 L2 h1 h2 K _ hlt (by omega) (by omega)]
  · refine (crashAll_law h rfl keep torn K hK (by omega)).mono ?_
    rintro e w' ⟨rfl, ha⟩
    refine ⟨rfl, _, ha, rfl, rfl, rfl, ?_, ?_⟩
    · simp only [hSL]
      rw [hSL] at hlen
      omega
    · simp only [hSL]
      rw [all_scan L1 L2 h1 h2, List.take_of_length_le (l := L2) (by omega)]

set_option maxHeartbeats 6400000 in
theorem diskKeeps_walk (A : Option Addr) (n c : Nat) (rs : Brs) (A' : Option Addr) (n' c' : Nat) (rs' : Brs) (keep torn : Int) (w : World) (h : HasRs w w.heap.size A n rs) (hn : n ≤ maxLen) (h' : HasRs w w.heap.size A' n' rs') (hn' : n' ≤ maxLen) (hnc' : n' ≤ c') :
    Calls Try.prog 3 #[.slice A n c, .slice A' n' c', .int .i64 keep, .int .i64 torn] w fun e w' => e = .returned (.bool true) ∧ Below w.heap.size w w' := by
  have H := Lib.hid h
  have H' := Lib.hid h'
  have Hn := Lib.hid hn
  have Hn' := Lib.hid hn'
  have HL := Lib.hid (brLists_at h)
  have HL' := Lib.hid (brLists_at h')
  obtain ⟨L, hL⟩ : ∃ L, brLists rs = L := ⟨_, rfl⟩
  obtain ⟨L', hL'⟩ : ∃ L', brLists rs' = L' := ⟨_, rfl⟩
  have HLe := Lib.hid hL
  have HLe' := Lib.hid hL'
  rw [hL] at HL
  rw [hL'] at HL'
  obtain ⟨K, hK⟩ : ∃ K : Nat, (if keep < 0 then 0 else keep) = (K : Int) := ⟨(if keep < 0 then 0 else keep).toNat, by split <;> omega⟩
  obtain ⟨T, hT⟩ : ∃ T : Nat, (if torn < 0 then 0 else torn) = (T : Int) := ⟨(if torn < 0 then 0 else torn).toNat, by split <;> omega⟩
  have HK := Lib.hid hK
  have HT := Lib.hid hT
  clear h hn h' hn' hL hL' hT
  go_enter Try.func3, Try.ntmps3
  go_wp2_with fail
  refine (awake_any _).mono ?_
  rintro e w1 ⟨rfl, hb1⟩
  have Hb1 := Lib.hid hb1
  have H1 := Lib.hid (H.out.belowOf hb1 (Nat.le_refl _))
  have H1' := Lib.hid (H'.out.belowOf hb1 (Nat.le_refl _))
  clear hb1
  go_wp2_with fail
  refine (bulk_any 4000 A n c w.heap.size rs w1 H1.out (by omega) Hn.out).mono ?_
  rintro e w2 ⟨⟨m, rfl, hm⟩, rfl⟩
  rw [HLe.out] at hm
  have Hm := Lib.hid hm
  clear hm
  by_cases hmm : 4000 < m
  · go_wp2
    go_ret
    exact ⟨rfl, Hb1.out⟩
  go_wp2_with fail
  refine (bulk_any 4000 A' n' c' w.heap.size rs' w1 H1'.out (by omega) Hn'.out).mono ?_
  rintro e w2 ⟨⟨m', rfl, hm'⟩, rfl⟩
  rw [HLe'.out] at hm'
  have Hm' := Lib.hid hm'
  clear hm'
  by_cases hmm' : 4000 < m'
  · go_wp2
    go_ret
    exact ⟨rfl, Hb1.out⟩
  have hbulk := Hm.out (by omega)
  have hbulk' := Hm'.out (by omega)
  have hLn := bulk_len L
  have hLn' := bulk_len L'
  rw [HL.out] at hLn
  rw [HL'.out] at hLn'
  have hn4 : n ≤ 4000 := by omega
  have hn4' : n' ≤ 4000 := by omega
  have Hsz : Hid (∀ k, begD L k ≤ 36000) := Lib.hid fun k => by have := begD_le L k; rw [HL.out] at this; omega
  have Hsz' : Hid (∀ k, begD L' k ≤ 36000) := Lib.hid fun k => by have := begD_le L' k; rw [HL'.out] at this; omega
  have Hmem : Hid (∀ l ∈ L, l.length ≤ 4000) := Lib.hid fun l hl => by have := bulk_mem hl; omega
  have Hmem' : Hid (∀ l ∈ L', l.length ≤ 4000) := Lib.hid fun l hl => by have := bulk_mem hl; omega
  clear hbulk hbulk' hLn hLn' Hm Hm'
  by_cases h60 : 60 < n + n'
  · have h60i : (60 : Int) < (n : Int) + (n' : Int) := by omega
    go_wp2
    go_ret
    exact ⟨rfl, Hb1.out⟩
  have h60i : (n : Int) + (n' : Int) ≤ 60 := by omega
  go_wp2_with fail
  refine (new_law 4194304 w.heap.size w w1 (by omega) Hb1.out (Nat.le_refl _)).mono ?_
  rintro e w2 ⟨sb, rfl, hz, hb2⟩
  have Hz := Lib.hid hz
  have Hb2 := Lib.hid hb2
  clear hz hb2
  go_wp2_with fail
  refine (start0_law Hz.out Hb2.out (Nat.le_refl _)).mono ?_
  rintro e w3 ⟨s3, v3, rfl, h3⟩
  have H3 := Lib.hid (h3.eq (appSt_zero 4194304 [] [] L).symm)
  clear h3
  go_wp2_with fail
  go_loopw [11] (fun i wr => ∃ k : Nat, k ≤ n ∧ i = .int .i64 (k : Int) ∧ After w.heap.size sb w (appSt 4194304 [] [] L k) wr) (fun i _ => n - (intOf i).toNat)
  case atStart => exact ⟨0, by omega, rfl, H3.out⟩
  case round =>
    obtain ⟨k, hk, rfl, ha⟩ := hrel
    have Ha := Lib.hid ha
    clear ha
    by_cases hlt : k < n
    · obtain ⟨a, Az, z, cz, l, rfl, _, hlk, hzc, hcm, hbl, hc⟩ := (H.out.belowOf Ha.out.below (Nat.le_refl _)).at_ hlt
      rw [HLe.out] at hlk
      have hzl : l.length = z := hbl.len
      have hz4 : z ≤ 4000 := by rw [← hzl]; exact Hmem.out l (List.mem_of_getElem? hlk)
      have k0 : (0 : Int) ≤ (k : Int) := by omega
      have k1 : (k : Int) < (n : Int) := by omega
      have hbk := Hsz.out k
      have Hap := Lib.hid (append_law Ha.out rfl rfl Az z cz w.heap.size l hbl Ha.out.below.size (by omega) (by simp [appSt]) (by rw [appSt_len]; simp only [List.length_nil]; omega) (by rw [appSt_waits]; omega) (by rw [appSt_used]; simp only [List.length_nil, takenN_nil]; show _ ≤ 4194304; omega))
      have Hs := Lib.hid (appSt_succ (room := 4194304) (C := []) (F := []) hlk)
      clear hlk hzl hzc hcm hbl hbk
      go_wp2_with fail
      refine Hap.out.mono ?_
      rintro e w4 ⟨rfl, h4⟩
      have H4 := Lib.hid (h4.eq Hs.out)
      clear h4
      go_wp2
      go_roundw
      case rel => exact ⟨k + 1, by omega, by go_num, H4.out⟩
      case measure => simp [intOf]; omega
    · obtain rfl : k = n := by omega
      go_wp2_with fail
      refine (sync_law Ha.out rfl).mono ?_
      rintro e w4 ⟨rfl, h4⟩
      have H4 := Lib.hid (h4.eq (S' := appSt 4194304 [] (frames L) L' 0) (by rw [appSt_zero]; simp only [appSt, List.nil_append]; rw [List.take_of_length_le (by rw [HL.out]; exact Nat.le_refl _)]))
      have hF : (frames L).length ≤ 36000 := by
        have := Hsz.out L.length
        unfold begD at this
        rwa [List.take_length] at this
      have HF := Lib.hid hF
      clear h4 hF
      generalize wr = wa at *
      go_wp2_with fail
      go_loopw [12] (fun i wr => ∃ k : Nat, k ≤ n' ∧ i = .int .i64 (k : Int) ∧ After w.heap.size sb w (appSt 4194304 [] (frames L) L' k) wr) (fun i _ => n' - (intOf i).toNat)
      case atStart => exact ⟨0, by omega, rfl, H4.out⟩
      case round =>
        obtain ⟨q, hq, rfl, ha⟩ := hrel
        have Ha := Lib.hid ha
        clear ha
        by_cases hlt : q < n'
        · obtain ⟨a, Az, z, cz, l, rfl, _, hlk, hzc, hcm, hbl, hc⟩ := (H'.out.belowOf Ha.out.below (Nat.le_refl _)).at_ hlt
          rw [HLe'.out] at hlk
          have hzl : l.length = z := hbl.len
          have hz4 : z ≤ 4000 := by rw [← hzl]; exact Hmem'.out l (List.mem_of_getElem? hlk)
          have k0 : (0 : Int) ≤ (q : Int) := by omega
          have k1 : (q : Int) < (n' : Int) := by omega
          have hbk := Hsz'.out q
          have hFF := HF.out
          have Hap := Lib.hid (append_law Ha.out rfl rfl Az z cz w.heap.size l hbl Ha.out.below.size (by omega) (by simp [appSt]) (by rw [appSt_len]; omega) (by rw [appSt_waits]; omega) (by rw [appSt_used]; simp only [takenN_nil]; show _ ≤ 4194304; omega))
          have Hs := Lib.hid (appSt_succ (room := 4194304) (C := []) (F := frames L) hlk)
          clear hlk hzl hzc hcm hbl hbk hFF
          go_wp2_with fail
          refine Hap.out.mono ?_
          rintro e w5 ⟨rfl, h5⟩
          have H5 := Lib.hid (h5.eq Hs.out)
          clear h5
          go_wp2
          go_roundw
          case rel => exact ⟨q + 1, by omega, by go_num, H5.out⟩
          case measure => simp [intOf]; omega
        · obtain rfl : q = n' := by omega
          have ha : After w.heap.size sb w (appSt 4194304 [] (frames L) L' L'.length) wr := by rw [HL'.out]; exact Ha.out
          have Hcr := Lib.hid (crash_keeps ha keep torn K T HK.out HT.out (fun p hp => by have := Hmem.out p hp; omega) (fun p hp => by have := Hmem'.out p hp; omega) (by have := HF.out; omega) (by rw [HL'.out]; omega) (fun k => by have := Hsz'.out k; omega))
          clear ha
          go_wp2_with fail
          refine Hcr.out.mono ?_
          rintro e w6 ⟨rfl, S, h6, hoff, hC, hW, hSL, hscan⟩
          have Hst := Lib.hid (start_law h6 hoff (by omega) (by rw [hC]; simp))
          have HW := Lib.hid hW
          have Hscan := Lib.hid hscan
          clear h6 hoff hC hW hSL hscan
          go_wp2_with fail
          refine Hst.out.mono ?_
          rintro e w7 ⟨s7, v7, rs7, rfl, h7, hown, hl⟩
          obtain ⟨Av, cv, rfl, hcv, -, hrs⟩ := hown.has
          rw [Hscan.out] at hl
          obtain ⟨J, hJ⟩ : ∃ J, min K q = J := ⟨_, rfl⟩
          have hlr : rs7.length = k + J := by
            have := congrArg List.length hl
            rw [List.length_append, List.length_take, HL.out, HL'.out] at this
            simpa [brLists, hJ] using this
          rw [hlr] at hrs hcv ⊢
          have hJq : J ≤ q := by omega
          have hJi : (if (q : Int) < (K : Int) then (q : Int) else (K : Int)) = (J : Int) := by rw [← hJ]; split <;> omega
          have hcc : k + J ≤ cv := hcv
          have H7 := Lib.hid h7
          have Hl := Lib.hid hl
          have hrs1 := hrs.take (k := k) (by omega)
          have hrs2 := hrs.drop (k := k) (by omega) hcv
          obtain ⟨D, hD⟩ : ∃ D, (if cv = k then Av else Av.map (·.add k)) = D := ⟨_, rfl⟩
          rw [hD, show k + J - k = J from by omega] at hrs2
          have Hs1 : Hid (∀ j, Calls Try.prog 14 #[.slice Av k cv, .slice A k c] (w7.drewN j) fun e w' => e = .returned (.bool true) ∧ ∃ m, w' = (w7.drewN j).drewN m) := Lib.hid fun j => by
            have h1 := rsame_q Av A k k cv c _ _ _ _ (w7.drewN j) (hrs1.belowOf (below_drews (Below.refl _ _) j) (Nat.le_refl _)) (H.out.belowOf (below_drews h7.below j) (Nat.le_refl _)) (Nat.le_refl _) h7.below.size Hn.out
            rwa [decide_eq_true (by rw [brLists_take, hl, HLe.out, List.take_append_of_le_length (by rw [HL.out]; exact Nat.le_refl _), ← HL.out, List.take_length])] at h1
          have Hs2 : Hid (∀ j, Calls Try.prog 14 #[.slice D J (cv - k), .slice A' J c'] (w7.drewN j) fun e w' => e = .returned (.bool true) ∧ ∃ m, w' = (w7.drewN j).drewN m) := Lib.hid fun j => by
            have h1 := rsame_q D A' J J (cv - k) c' _ _ _ _ (w7.drewN j) (hrs2.belowOf (below_drews (Below.refl _ _) j) (Nat.le_refl _)) ((H'.out.take hJq).belowOf (below_drews h7.below j) (Nat.le_refl _)) (Nat.le_refl _) h7.below.size (by simp only [maxLen]; omega)
            rwa [decide_eq_true (by rw [brLists_drop, brLists_take, hl, HLe'.out, List.drop_left' HL.out, ← hJ]; by_cases e : K ≤ q; · rw [Nat.min_eq_left e]
                                    · rw [Nat.min_eq_right (by omega), List.take_of_length_le (by rw [HL'.out]; omega), List.take_of_length_le (by rw [HL'.out]; exact Nat.le_refl _)])] at h1
          have Hwt : Hid (∀ j, Calls Try.prog 15 #[.pointer (some ⟨sb, 0, none⟩)] (w7.drewN j) fun e w' => e = .returned (.int .i64 0) ∧ w7.drewN j = w') := Lib.hid fun j => by
            have h1 := waiting_law h7 j
            simp only [HW.out] at h1
            exact h1
          have HJ := Lib.hid hJ
          clear h7 hl hrs hrs1 hrs2 hown hlr hJ hcv hJi
          have g1 : (0 : Int) ≤ (k : Int) := by omega
          have g2 : (k : Int) ≤ (cv : Int) := by omega
          have g3 : (k : Int) ≤ ((k + J : Nat) : Int) := by omega
          have g4 : (0 : Int) ≤ (J : Int) := by omega
          have g5 : (J : Int) ≤ (c' : Int) := by omega
          by_cases hqK : q < K
          · obtain rfl : J = q := by have := HJ.out; omega
            go_wp2
            go_quiet (first | (go_at_call_of 14 (Value.slice Av k cv); refine Calls.quiet_of (Hs1.out _)) | (go_at_call_of 14 (Value.slice D J (cv - k)); refine Calls.quiet_of (Hs2.out _)) | (go_at_call 15; refine quietS (Hwt.out _)))
            go_wp2
            go_ret
            exact ⟨rfl, (H7.out.drew _).below⟩
          · obtain rfl : J = K := by have := HJ.out; omega
            go_wp2
            go_quiet (first | (go_at_call_of 14 (Value.slice Av k cv); refine Calls.quiet_of (Hs1.out _)) | (go_at_call_of 14 (Value.slice D J (cv - k)); refine Calls.quiet_of (Hs2.out _)) | (go_at_call 15; refine quietS (Hwt.out _)))
            go_wp2
            go_ret
            exact ⟨rfl, (H7.out.drew _).below⟩

namespace lawDiskKeeps
open Go.ChangeShapes Go.WideShapes Go.ChangeAt

theorem own : ownKnob Try.prog.godebug = none := by kernel_rfl
theorem kids : Kids Try.prog (· < Try.prog.types.size) := kids_rows (by kernel_rfl) (by kernel_rfl)
theorem full : ∀ t e, t < Try.prog.types.size → Try.prog.underlying t = some (.slice e) → 0 < Try.prog.cellsOf e := slices_full_of Try.prog (by kernel_rfl)

set_option maxRecDepth 100000 in
theorem lifted (os : Os) (started : os.Started) (H : Type) (enc : TypeId × Value → H) :
    ReturnsInHanded {} Try.checked os 3 .any (Rows.diskKeepsSpec.pre6 enc Try.prog Try.f3 Rows.diskKeepsRow.domain false) (Rows.diskKeepsSpec.post enc Try.prog Try.f3 false true false false) := by
  refine returnsInHanded_of_change (C := Try.checked) own started (by kernel_rfl) Try.func3
    (ChangeSpec.witness6 (enc := enc) (C := Try.checked) false ⟨#[], #[.slice none 0 0, .slice none 0 0, .int .i64 0, .int .i64 0], []⟩ 8 (by kernel_rfl) (by kernel_rfl) (by kernel_rfl) (by kernel_rfl)) ?_
  intro W base args ds gs before hval0 hW _ _
  have hval : ∀ (j : Nat) t v, Try.f3.params[j]? = some t → args[j]? = some v → Value.okWide Try.prog W .any base t v := hval0
  have hW' := hW
  obtain ⟨p, q, hA0, hV, rfl, _, _⟩ := hW
  obtain ⟨rfl, rfl⟩ := trodVars_none hV
  have hA : DataW.TrodAll enc Try.prog W 0 (fun _ => true) true Try.f3.params.toList args.toList ds p := hA0
  rw [Try.params3] at hA hval
  obtain ⟨v0, vs0, d0, ds0, p0, q0, hargs, rfl, rfl, h0, r0⟩ := trodAll_cons hA
  obtain ⟨v1, vs1, d1, ds1, p1, q1, rfl, rfl, rfl, h1, r1⟩ := trodAll_cons r0
  obtain ⟨v2, vs2, d2, ds2, p2, q2, rfl, rfl, rfl, h2, r2⟩ := trodAll_cons r1
  obtain ⟨v3, vs3, d3, ds3, p3, q3, rfl, rfl, rfl, h3, r3⟩ := trodAll_cons r2
  obtain ⟨rfl, rfl, rfl⟩ := trodAll_nil r3
  obtain rfl : args = #[v0, v1, v2, v3] := by cases args; simp_all
  have hlt := hW'.lt
  obtain ⟨A0, n0, c0, rs0, rfl, hn0, hnc0, hb0⟩ := open_rs Try.underlying22 (by kernel_rfl) Try.underlying29 Try.underlying5 (by kernel_rfl) (hval 0 22 v0 rfl rfl) h0 (fun x hx => hlt x (by simp [hx]))
  obtain ⟨A1, n1, c1, rs1, rfl, hn1, hnc1, hb1⟩ := open_rs Try.underlying22 (by kernel_rfl) Try.underlying29 Try.underlying5 (by kernel_rfl) (hval 1 22 v1 rfl rfl) h1 (fun x hx => hlt x (by simp [hx]))
  obtain ⟨k2, rfl, _, _, _⟩ := open_int Try.underlying3 (hval 2 3 v2 rfl rfl) h2
  obtain ⟨k3, rfl, _, _, _⟩ := open_int Try.underlying3 (hval 3 3 v3 rfl rfl) h3
  refine (diskKeeps_walk A0 n0 c0 rs0 A1 n1 c1 rs1 k2 k3 W hb0 hn0 hb1 hn1 hnc1).mono fun e W' ⟨he, hbel⟩ => ?_
  subst he
  exact ⟨_, rfl, law_post kids full (of_decide_eq_true (by kernel_rfl)) Try.underlying4 rfl rfl rfl hW' hbel⟩

theorem proved : Rows.DiskKeepsSaid :=
  OpenClaim.holds_of_wide 3 Try.f3 rfl rfl rfl rfl rfl rfl rfl ⟨rfl, rfl, rfl, rfl, rfl⟩ rfl rfl rfl rfl rfl (by kernel_rfl) Try.func3 (by kernel_rfl)
    (of_decide_eq_true (by kernel_rfl)) (by unfold Func.isWrapper; first | (rw [if_pos (by decide +kernel)]; kernel_rfl) | (rw [if_neg (by decide +kernel)]; exact ⟨rfl, rfl⟩))
    (fun os started H enc _ => lifted os started H enc)
end lawDiskKeeps

end Go.Proofs.Ytbiifmcfamgmfaa
