/- The laws' check that the disk is awake. -/
import Derived.Test.YtbiifmcfamgmfaaDskG
import Derived.Test.YtbiifmcfamgmfaaFrmI
import Derived.Lib.SlBytesConst
namespace Go.Proofs.Ytbiifmcfamgmfaa
open Go.RowKit
open Go.Lib (strCells)

def awL : List (List UInt8) := [[97], [98, 99], [100], [101]]
theorem awL_len : ∀ p ∈ awL, p.length ≤ 65536 := by
  intro p hp
  simp [awL] at hp
  rcases hp with rfl | rfl | rfl | rfl <;> simp
theorem aw_scan : scanT ((frames awL).take 32) = ([[97], [98, 99], [100]], 28) := by
  have h := scan_cut awL awL_len 3 32 (by simp [awL]) (by simp [awL, frames, frameOf_len]) (fun _ => by simp [awL, frames, frameOf_len])
  rw [h]
  simp [awL, frames, frameOf_len]
theorem aw_frames : (([] ++ frameOf [97] ++ frameOf [98, 99]) ++ frameOf [100]) ++ frameOf [101] = frames awL := by simp [awL, frames]
theorem aw_len : (frames awL).length = 37 := by simp [awL, frames, frameOf_len]

theorem append_lit {b sb : Nat} {w wr : World} {S : DState} (h : After b sb w S wr) (hon : S.on = true) (hk : S.k = true) (l : List UInt8) (n : Nat) (m : Nat × Nat) (cs : Array Value) (hcs : cs.toList = byteCells l) (hl : l.length = n) (hn : n ≤ 100) (hC : S.C.length ≤ 100) (hL : S.L.length ≤ 100) (hW : S.W.length ≤ 100) (hf : S.used + (8 + n) ≤ S.room) :
    Calls Try.prog 11 #[.pointer (some ⟨sb, 0, none⟩), .slice (some ⟨wr.heap.size, 0, none⟩) n n] (wr.alloc (.cells cs 5 m)) fun e w' => e = .returned (.int .i64 0) ∧ After b sb w { S with L := S.L ++ frameOf l, W := S.W ++ [S.L.length] } w' := by
  subst hl
  exact append_law (h.more (dsk_alloc wr _)) hon hk _ l.length l.length _ l (lit_mark wr _ rfl l _ m cs hcs) (by simp) (by omega) (by omega) (by omega) (by omega) hf
set_option maxHeartbeats 1600000 in
theorem awake_any (w : World) : Calls Try.prog 7 #[] w fun e w' => e = .returned (.bool true) ∧ Below w.heap.size w w' := by
  have Kc := Lib.hid fun (w : World) (C : Array Value) (n c : Nat) => Lib.run_convert_bytes_const (P := Try.prog) w 29 5 C n c Try.underlying29 Try.underlying5
  go_enter Try.func7, Try.ntmps7
  go_wp2_with fail
  refine (new_law 100 w.heap.size w w (by omega) (Below.refl _ _) (Nat.le_refl _)).mono ?_
  rintro e w1 ⟨sb, rfl, hz, hb1⟩
  have Hz := Lib.hid hz
  have Hb1 := Lib.hid hb1
  clear hz hb1
  go_wp2_with fail
  refine (append_down Hz.out.disk rfl _).mono ?_
  rintro e w' ⟨rfl, rfl⟩
  go_wp2_with fail
  refine (start0_law Hz.out Hb1.out (Nat.le_refl _)).mono ?_
  rintro e w2 ⟨s2, v2, rfl, h2⟩
  have H2 := Lib.hid h2
  have kc := fun C n c => Kc.out w2 C n c
  clear h2
  go_wp2_with fail
  refine (append_lit H2.out rfl rfl [97] 1 _ _ rfl rfl (by omega) (by simp) (by simp) (by simp) (by simp [DState.used, takenN])).mono ?_
  rintro e w3 ⟨rfl, h3⟩
  have H3 := Lib.hid h3
  clear h3 kc
  have kc := fun C n c => Kc.out w3 C n c
  go_wp2_with fail
  refine (append_lit H3.out rfl rfl [98, 99] 2 _ _ rfl rfl (by omega) (by simp) (by simp [frameOf_len]) (by simp) (by simp [DState.used, takenN, frameOf_len])).mono ?_
  rintro e w4 ⟨rfl, h4⟩
  have H4 := Lib.hid h4
  clear h4 kc
  go_wp2_with fail
  refine (sync_law H4.out rfl).mono ?_
  rintro e w5 ⟨rfl, h5⟩
  have H5 := Lib.hid h5
  clear h5
  have kc := fun C n c => Kc.out w5 C n c
  go_wp2_with fail
  refine (append_lit H5.out rfl rfl [100] 1 _ _ rfl rfl (by omega) (by simp) (by simp [frameOf_len]) (by simp) (by simp [DState.used, takenN, frameOf_len])).mono ?_
  rintro e w6 ⟨rfl, h6⟩
  have H6 := Lib.hid h6
  clear h6 kc
  have kc := fun C n c => Kc.out w6 C n c
  go_wp2_with fail
  refine (append_lit H6.out rfl rfl [101] 1 _ _ rfl rfl (by omega) (by simp) (by simp [frameOf_len]) (by simp) (by simp [DState.used, takenN, frameOf_len])).mono ?_
  rintro e w7 ⟨rfl, h7⟩
  have H7 := Lib.hid (h7.eq (S' := ⟨100, true, [], frames awL, [19, 28], true⟩) (by simp [frameOf_len, awL, frames]))
  clear h7 kc
  go_wp2_with fail
  refine (crashAt_law H7.out rfl 1 4 1 28 37 4 4 rfl (by simp) rfl (by simp) (fun _ => aw_len) (by omega) (by rw [aw_len]; omega) (by rw [aw_len]; omega) rfl rfl).mono ?_
  rintro e w8 ⟨rfl, h8⟩
  have H8 := Lib.hid h8
  clear h8
  go_wp2_with fail
  refine (start_law H8.out rfl (by rw [List.length_take]; omega) (by simp)).mono ?_
  rintro e w9 ⟨s9, v9, rs, rfl, h9, hown, hl⟩
  rw [show (28 + 4 : Nat) = 32 from rfl, aw_scan] at hl h9
  obtain ⟨A, c, rfl, -, -, hrs⟩ := hown.has
  have hn : rs.length = 3 := by have := congrArg List.length hl; simpa [brLists] using this
  rw [hn] at hrs ⊢
  obtain ⟨a, A', z, c', l, rfl, _, hlk, _, _, hbl, hc⟩ := hrs.at_ (show 2 < 3 by omega)
  have hlx : l = [100] := by
    rw [hl] at hlk
    simpa using hlk.symm
  subst hlx
  obtain rfl : 1 = z := hbl.len
  have hcv := string_run hbl c'
  have hc2 : w9.cell? ⟨a.block, a.off + 2, none⟩ = some (.slice A' 1 c') := hc
  have H9 := Lib.hid h9
  have Hu := Lib.hid (used_law h9 (by simp) (by simp; omega) 0)
  clear h9 hrs hl hlk hbl hown
  go_wp2_with fail
  refine Hu.out.mono ?_
  rintro e w10 ⟨rfl, m, rfl⟩
  have hus : DState.used ⟨100, true, [], List.take 28 (List.take 32 (frames awL)), [], false⟩ = 28 := by
    simp [DState.used, takenN, aw_len]
  go_wp2
  go_ret
  exact ⟨rfl, (H9.out.drew 0).below.trans ((below_drews (Below.refl _ _) m).mono H9.out.size)⟩
end Go.Proofs.Ytbiifmcfamgmfaa
