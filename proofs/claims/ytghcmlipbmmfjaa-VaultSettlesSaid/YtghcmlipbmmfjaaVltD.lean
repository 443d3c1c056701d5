/- The vault's Settle. Condition: a disk in memory, of at most a million bytes. -/
import Derived.Test.YtghcmlipbmmfjaaVltC
import Derived.Test.YtghcmlipbmmfjaaRegion
namespace Go.Proofs.Ytghcmlipbmmfjaa
open Go.RowKit
open Go.Lib (strCells)

section
variable {w : World} {B vb sb tb : Nat} {E : Nat → Prop} {S : DState} {T : ByteArray} {c : Nat}
theorem save_data (T : ByteArray) : ((⟨#[61]⟩ : ByteArray) ++ T).data.toList = 61 :: T.data.toList := by
  simp
/-- what Settle hands to Checkpoint -/
theorem settle_conv (w : World) (T : ByteArray) : ∃ w1 c, (convert 9 47 (.string (⟨#[61]⟩ ++ T))).run Try.prog w = .ok (.slice (some ⟨w.heap.size, 0, none⟩) (1 + T.size) c) w1 ∧ Below w.heap.size w w1 ∧ HasBytes w1 (w.heap.size + 1) (some ⟨w.heap.size, 0, none⟩) (1 + T.size) (61 :: T.data.toList) := by
  obtain ⟨w1, c1, hcv, hc1, hs1, hb1, hby⟩ := conv_bytes Try.prog w 9 47 5 (⟨#[61]⟩ ++ T) Try.underlying9 Try.underlying47 Try.underlying5
  have e : (⟨#[61]⟩ ++ T : ByteArray).size = 1 + T.size := by rw [ByteArray.size_append]; rfl
  have h := hby.has
  have e2 : (⟨#[61]⟩ ++ T : ByteArray).data.toList.length = 1 + T.size := by rw [← Lib.size_eq, e]
  rw [e2, save_data] at h
  rw [e] at hcv
  exact ⟨w1, c1, hcv, hb1, h⟩
theorem save_len (T : ByteArray) : (61 :: T.data.toList).length = 1 + T.size := by
  rw [List.length_cons, ← Lib.size_eq]
  omega
theorem save_taken (T : ByteArray) : takenN (61 :: T.data.toList) = 9 + T.size := by
  unfold takenN
  rw [save_len, if_neg (by omega)]
  omega
theorem settle_end {w2 w4 : World} {S' : DState} {T' : ByteArray} {c' : Nat} (k2 : Keeps E w w2) (h : Vlt w4 B vb sb tb (Up (Up E w w2) w2 w4) S' T' c') (k4 : Keeps (Up E w w2) w2 w4) : Vlt w4 B vb sb tb (Up E w w4) S' T' c' ∧ Keeps E w w4 := by
  have h1 := k2.size
  have h2 := k4.size
  refine ⟨h.more fun g hg => ?_, k2.trans k4 fun g hg => hg⟩
  rcases hg with (e | e) | e
  · exact .inl e
  · exact .inr (by omega)
  · exact .inr (by omega)
set_option maxHeartbeats 800000 in
theorem vsettle_ok (h : Vlt w B vb sb tb E S T c) (hon : S.on = true) (hT : T.size ≤ 100000) (hf : 9 + T.size ≤ S.room) :
    Calls Try.prog 14 #[.pointer (some ⟨vb, 0, none⟩)] w fun e w' => e = .returned (.int .i64 0) ∧ Vlt w' B vb sb tb (Up E w w') { S with W := [], C := 61 :: T.data.toList, L := [], k := true } T c ∧ Keeps E w w' := by
  have H := Lib.hid h
  obtain ⟨cp, lg, ws, hd, hD⟩ := h.disk
  have q0 := h.box.cell 0
  have Hc := Lib.hid (sync_any (D := DBlk sb cp lg ws) ⟨cp, lg, ws, hd, fun g hg => hg⟩ hon)
  have Hd := Lib.hid hd
  have HD := Lib.hid hD
  have Hon := Lib.hid hon
  clear h hd hD hon
  go_enter Try.func14, Try.ntmps14
  go_wp2_with fail
  refine Hc.out.mono ?_
  rintro e w2 ⟨rfl, hd2, hk2, hs2⟩
  have hv2 := H.out.op Hd.out HD.out hd2 (fun g hg => .inl hg) hk2
  have Hv2 := Lib.hid hv2.1
  have Hk2 := Lib.hid hv2.2
  have q0' := hv2.1.box.cell 0
  have q1' := hv2.1.box.cell 1
  have Hlt := Lib.hid hv2.1.box.lt
  clear hd2 hk2 hv2 q0 hs2
  have hst := tape_save (Hv2.out.below ((Below.refl _ w2).drew)).tape (by omega)
  have Hst := Lib.hid hst
  clear hst
  obtain ⟨w3, c3, hcv, hb3, hh3⟩ := settle_conv w2.drew T
  rw [show w2.drew.heap.size = w2.heap.size from rfl] at hh3 hcv
  have Hh3 := Lib.hid hh3
  have Hb3 : Hid (Below w2.heap.size w2 w3) := Lib.hid (((Below.refl _ w2).drew).trans hb3)
  have hv3 := Hv2.out.below Hb3.out
  have Hv3 := Lib.hid hv3
  obtain ⟨cp3, lg3, ws3, hd3, hD3⟩ := hv3.disk
  have Hd3 := Lib.hid hd3
  have HD3 := Lib.hid hD3
  have HbB : Hid (w2.heap.size + 1 ≤ w3.heap.size) := Lib.hid (by have := hh3.byte (k := 0) (by omega); obtain ⟨a, ea, _, hc⟩ := this; injection ea with ea; subst ea; have := World.block_lt_of_cell? _ _ hc; rw [addr_block] at this; exact this)
  have hck := (checkpoint_ok (D := DBlk sb cp3 lg3 ws3) (w := w3) ⟨cp3, lg3, ws3, hd3, fun g hg => hg⟩ Hon.out rfl _ c3 _ (61 :: T.data.toList) (by rw [save_len]; exact Hh3.out) HbB.out (by rw [save_len]; omega) (by rw [save_taken]; omega))
  rw [save_len] at hck
  have Hck' := Lib.hid hck
  clear hck hh3 hb3 hv3 hd3 hD3
  go_wp2
  have hS0 : (fun wx : World => wx.cell? ⟨vb, 0, none⟩ = some (.pointer (some ⟨sb, 0, none⟩)) ∧ wx.cell? ⟨vb, 1, none⟩ = some (tapeV tb)) w2.drew := ⟨q0', q1'⟩
  refine wp_region_held_drew (S := fun wx => wx.cell? ⟨vb, 0, none⟩ = some (.pointer (some ⟨sb, 0, none⟩)) ∧ wx.cell? ⟨vb, 1, none⟩ = some (tapeV tb)) (by kernel_rfl) hS0 (fun hHeld => ?_)
  refine wpAnyH_take (i := 0) (oi := ⟨some 12, _, _, _, _, _⟩) (v := .pointer (some ⟨vb, 0, none⟩)) rfl (by kernel_rfl) (by kernel_rfl) (by kernel_rfl) (fun _ _ _ h => h) (Or.inl ⟨by rfl, ?_⟩) (by assumption) ?_
  · intro w hSw; (try dsimp only at hSw); obtain ⟨hSa, hSb⟩ := hSw; go_simp
  simp only [Act.put, List.setIfInBounds_toArray, List.set_cons_zero, List.set_cons_succ]
  refine wpAnyH_take (i := 1) (oi := ⟨some 13, _, _, _, _, _⟩) (v := .pointer (some ⟨vb, 0, none⟩)) rfl (by kernel_rfl) (by kernel_rfl) (by kernel_rfl) (fun _ _ _ h => h) (Or.inl ⟨by rfl, ?_⟩) (by assumption) ?_
  · intro w hSw; (try dsimp only at hSw); obtain ⟨hSa, hSb⟩ := hSw; go_simp
  simp only [Act.put, List.setIfInBounds_toArray, List.set_cons_zero, List.set_cons_succ]
  refine wpAnyH_take (i := 2) (oi := ⟨some 14, _, _, _, _, _⟩) (v := .pointer (some ⟨vb, 0, none⟩)) rfl (by kernel_rfl) (by kernel_rfl) (by kernel_rfl) (fun _ _ _ h => h) (Or.inl ⟨by rfl, ?_⟩) (by assumption) ?_
  · intro w hSw; (try dsimp only at hSw); obtain ⟨hSa, hSb⟩ := hSw; go_simp
  simp only [Act.put, List.setIfInBounds_toArray, List.set_cons_zero, List.set_cons_succ]
  refine wpAnyH_take (i := 3) (oi := ⟨some 15, _, _, _, _, _⟩) (v := .pointer (some ⟨sb, 0, none⟩)) rfl (by kernel_rfl) (by kernel_rfl) (by kernel_rfl) (fun _ _ _ h => h) (Or.inl ⟨by rfl, ?_⟩) (by assumption) ?_
  · intro w hSw; (try dsimp only at hSw); obtain ⟨hSa, hSb⟩ := hSw; go_simp
  simp only [Act.put, List.setIfInBounds_toArray, List.set_cons_zero, List.set_cons_succ]
  refine wpAnyH_take (i := 4) (oi := ⟨some 16, _, _, _, _, _⟩) (v := .pointer (some ⟨vb, 0, none⟩)) rfl (by kernel_rfl) (by kernel_rfl) (by kernel_rfl) (fun _ _ _ h => h) (Or.inl ⟨by rfl, ?_⟩) (by assumption) ?_
  · intro w hSw; (try dsimp only at hSw); obtain ⟨hSa, hSb⟩ := hSw; go_simp
  simp only [Act.put, List.setIfInBounds_toArray, List.set_cons_zero, List.set_cons_succ]
  refine wpAnyH_take (i := 5) (oi := ⟨some 17, _, _, _, _, _⟩) (v := .pointer (some ⟨vb, 0, none⟩)) rfl (by kernel_rfl) (by kernel_rfl) (by kernel_rfl) (fun _ _ _ h => h) (Or.inl ⟨by rfl, ?_⟩) (by assumption) ?_
  · intro w hSw; (try dsimp only at hSw); obtain ⟨hSa, hSb⟩ := hSw; go_simp
  simp only [Act.put, List.setIfInBounds_toArray, List.set_cons_zero, List.set_cons_succ]
  refine wpAnyH_take (i := 6) (oi := ⟨some 18, _, _, _, _, _⟩) (v := .pointer (some ⟨vb, 1, none⟩)) rfl (by kernel_rfl) (by kernel_rfl) (by kernel_rfl) (fun _ _ _ h => h) (Or.inl ⟨by rfl, ?_⟩) (by assumption) ?_
  · intro w hSw; (try dsimp only at hSw); obtain ⟨hSa, hSb⟩ := hSw; go_simp
  simp only [Act.put, List.setIfInBounds_toArray, List.set_cons_zero, List.set_cons_succ]
  refine wpAnyH_take (i := 7) (oi := ⟨some 19, _, _, _, _, _⟩) (v := tapeV tb) rfl (by kernel_rfl) (by kernel_rfl) (by kernel_rfl) (fun _ _ _ h => h) (Or.inl ⟨by rfl, ?_⟩) (by assumption) ?_
  · intro w hSw; (try dsimp only at hSw); obtain ⟨hSa, hSb⟩ := hSw; go_simp
  simp only [Act.put, List.setIfInBounds_toArray, List.set_cons_zero, List.set_cons_succ]
  refine wpAnyH_ready (rs := [8]) (by kernel_rfl) (by simp) (AllReadyH.cons (o := ⟨some 20, _, _, _, _, _⟩) rfl (fun K hK => ?_) AllReadyH.nil)
  go_simp
  go_invoke
  go_simp
  refine Hst.out.mono ?_
  rintro e w4 ⟨rfl, rfl⟩
  refine hK.out _ _ hS0 (fun _ => ?_)
  clear hK K
  refine wpAnyH_ready (rs := [9]) (by kernel_rfl) (by simp) (AllReadyH.cons (o := ⟨some 21, _, _, _, _, _⟩) rfl (fun K hK => ?_) AllReadyH.nil)
  go_simp
  refine hK.out _ _ ⟨(Hb3.out.cell Hlt.out).trans q0', (Hb3.out.cell Hlt.out).trans q1'⟩ (fun _ => ?_)
  clear hK K
  refine wpAnyH_ready (rs := [10]) (by kernel_rfl) (by simp) (AllReadyH.cons (o := ⟨some 22, _, _, _, _, _⟩) rfl (fun K hK => ?_) AllReadyH.nil)
  go_simp
  refine Hck'.out.mono ?_
  rintro e w4 ⟨rfl, hd4, hk4⟩
  have hv4 := Hv3.out.op Hd3.out HD3.out hd4.disk (fun g hg => hg) hk4
  refine hK.out _ _ ⟨hv4.1.box.cell 0, hv4.1.box.cell 1⟩ (fun _ => ?_)
  clear hK K
  have Hv4 := Lib.hid hv4
  clear hd4 hk4 hv4
  refine wpAnyH_take (i := 11) (oi := ⟨some 2, _, _, _, _, _⟩) (v := .int .i64 0) rfl (by kernel_rfl) (by kernel_rfl) (by kernel_rfl) (fun _ _ _ h => h) (Or.inl ⟨by rfl, ?_⟩) (by assumption) ?_
  · intro w hSw; (try dsimp only at hSw); go_simp
  simp only [Act.put, List.setIfInBounds_toArray, List.set_cons_zero, List.set_cons_succ]
  refine wpAnyH_done (by kernel_rfl) ?_ _
  go_wp2
  go_ret
  have h3 := Vlt.step (w := w2) (E := Up E w w2) Hb3.out Hv4.out.1 (fun g hg => hg) Hv4.out.2
  exact ⟨rfl, settle_end Hk2.out h3.1 h3.2⟩
set_option maxHeartbeats 800000 in
theorem vsettle_full (h : Vlt w B vb sb tb E S T c) (hon : S.on = true) (hT : T.size ≤ 100000) (hf : S.room < 9 + T.size) :
    Calls Try.prog 14 #[.pointer (some ⟨vb, 0, none⟩)] w fun e w' => e = .returned (.int .i64 6) ∧ Vlt w' B vb sb tb (Up E w w') { S with W := [] } T c ∧ Keeps E w w' := by
  have H := Lib.hid h
  obtain ⟨cp, lg, ws, hd, hD⟩ := h.disk
  have q0 := h.box.cell 0
  have Hc := Lib.hid (sync_any (D := DBlk sb cp lg ws) ⟨cp, lg, ws, hd, fun g hg => hg⟩ hon)
  have Hd := Lib.hid hd
  have HD := Lib.hid hD
  have Hon := Lib.hid hon
  clear h hd hD hon
  go_enter Try.func14, Try.ntmps14
  go_wp2_with fail
  refine Hc.out.mono ?_
  rintro e w2 ⟨rfl, hd2, hk2, hs2⟩
  have hv2 := H.out.op Hd.out HD.out hd2 (fun g hg => .inl hg) hk2
  have Hv2 := Lib.hid hv2.1
  have Hk2 := Lib.hid hv2.2
  have q0' := hv2.1.box.cell 0
  have q1' := hv2.1.box.cell 1
  have Hlt := Lib.hid hv2.1.box.lt
  clear hd2 hk2 hv2 q0 hs2
  have hst := tape_save (Hv2.out.below ((Below.refl _ w2).drew)).tape (by omega)
  have Hst := Lib.hid hst
  clear hst
  obtain ⟨w3, c3, hcv, hb3, hh3⟩ := settle_conv w2.drew T
  rw [show w2.drew.heap.size = w2.heap.size from rfl] at hh3 hcv
  have Hh3 := Lib.hid hh3
  have Hb3 : Hid (Below w2.heap.size w2 w3) := Lib.hid (((Below.refl _ w2).drew).trans hb3)
  have hv3 := Hv2.out.below Hb3.out
  have Hv3 := Lib.hid hv3
  obtain ⟨cp3, lg3, ws3, hd3, hD3⟩ := hv3.disk
  have Hd3 := Lib.hid hd3
  have HD3 := Lib.hid hD3
  have HbB : Hid (w2.heap.size + 1 ≤ w3.heap.size) := Lib.hid (by have := hh3.byte (k := 0) (by omega); obtain ⟨a, ea, _, hc⟩ := this; injection ea with ea; subst ea; have := World.block_lt_of_cell? _ _ hc; rw [addr_block] at this; exact this)
  have hck := checkpoint_full (D := DBlk sb cp3 lg3 ws3) (w := w3) ⟨cp3, lg3, ws3, hd3, fun g hg => hg⟩ Hon.out rfl (some ⟨w2.heap.size, 0, none⟩) (1 + T.size) c3 (61 :: T.data.toList) (save_len T) (by omega) (by rw [save_taken]; exact hf)
  have Hck' := Lib.hid hck
  clear hck hh3 hb3 hv3 hd3 hD3
  go_wp2
  have hS0 : (fun wx : World => wx.cell? ⟨vb, 0, none⟩ = some (.pointer (some ⟨sb, 0, none⟩)) ∧ wx.cell? ⟨vb, 1, none⟩ = some (tapeV tb)) w2.drew := ⟨q0', q1'⟩
  refine wp_region_held_drew (S := fun wx => wx.cell? ⟨vb, 0, none⟩ = some (.pointer (some ⟨sb, 0, none⟩)) ∧ wx.cell? ⟨vb, 1, none⟩ = some (tapeV tb)) (by kernel_rfl) hS0 (fun hHeld => ?_)
  refine wpAnyH_take (i := 0) (oi := ⟨some 12, _, _, _, _, _⟩) (v := .pointer (some ⟨vb, 0, none⟩)) rfl (by kernel_rfl) (by kernel_rfl) (by kernel_rfl) (fun _ _ _ h => h) (Or.inl ⟨by rfl, ?_⟩) (by assumption) ?_
  · intro w hSw; (try dsimp only at hSw); obtain ⟨hSa, hSb⟩ := hSw; go_simp
  simp only [Act.put, List.setIfInBounds_toArray, List.set_cons_zero, List.set_cons_succ]
  refine wpAnyH_take (i := 1) (oi := ⟨some 13, _, _, _, _, _⟩) (v := .pointer (some ⟨vb, 0, none⟩)) rfl (by kernel_rfl) (by kernel_rfl) (by kernel_rfl) (fun _ _ _ h => h) (Or.inl ⟨by rfl, ?_⟩) (by assumption) ?_
  · intro w hSw; (try dsimp only at hSw); obtain ⟨hSa, hSb⟩ := hSw; go_simp
  simp only [Act.put, List.setIfInBounds_toArray, List.set_cons_zero, List.set_cons_succ]
  refine wpAnyH_take (i := 2) (oi := ⟨some 14, _, _, _, _, _⟩) (v := .pointer (some ⟨vb, 0, none⟩)) rfl (by kernel_rfl) (by kernel_rfl) (by kernel_rfl) (fun _ _ _ h => h) (Or.inl ⟨by rfl, ?_⟩) (by assumption) ?_
  · intro w hSw; (try dsimp only at hSw); obtain ⟨hSa, hSb⟩ := hSw; go_simp
  simp only [Act.put, List.setIfInBounds_toArray, List.set_cons_zero, List.set_cons_succ]
  refine wpAnyH_take (i := 3) (oi := ⟨some 15, _, _, _, _, _⟩) (v := .pointer (some ⟨sb, 0, none⟩)) rfl (by kernel_rfl) (by kernel_rfl) (by kernel_rfl) (fun _ _ _ h => h) (Or.inl ⟨by rfl, ?_⟩) (by assumption) ?_
  · intro w hSw; (try dsimp only at hSw); obtain ⟨hSa, hSb⟩ := hSw; go_simp
  simp only [Act.put, List.setIfInBounds_toArray, List.set_cons_zero, List.set_cons_succ]
  refine wpAnyH_take (i := 4) (oi := ⟨some 16, _, _, _, _, _⟩) (v := .pointer (some ⟨vb, 0, none⟩)) rfl (by kernel_rfl) (by kernel_rfl) (by kernel_rfl) (fun _ _ _ h => h) (Or.inl ⟨by rfl, ?_⟩) (by assumption) ?_
  · intro w hSw; (try dsimp only at hSw); obtain ⟨hSa, hSb⟩ := hSw; go_simp
  simp only [Act.put, List.setIfInBounds_toArray, List.set_cons_zero, List.set_cons_succ]
  refine wpAnyH_take (i := 5) (oi := ⟨some 17, _, _, _, _, _⟩) (v := .pointer (some ⟨vb, 0, none⟩)) rfl (by kernel_rfl) (by kernel_rfl) (by kernel_rfl) (fun _ _ _ h => h) (Or.inl ⟨by rfl, ?_⟩) (by assumption) ?_
  · intro w hSw; (try dsimp only at hSw); obtain ⟨hSa, hSb⟩ := hSw; go_simp
  simp only [Act.put, List.setIfInBounds_toArray, List.set_cons_zero, List.set_cons_succ]
  refine wpAnyH_take (i := 6) (oi := ⟨some 18, _, _, _, _, _⟩) (v := .pointer (some ⟨vb, 1, none⟩)) rfl (by kernel_rfl) (by kernel_rfl) (by kernel_rfl) (fun _ _ _ h => h) (Or.inl ⟨by rfl, ?_⟩) (by assumption) ?_
  · intro w hSw; (try dsimp only at hSw); obtain ⟨hSa, hSb⟩ := hSw; go_simp
  simp only [Act.put, List.setIfInBounds_toArray, List.set_cons_zero, List.set_cons_succ]
  refine wpAnyH_take (i := 7) (oi := ⟨some 19, _, _, _, _, _⟩) (v := tapeV tb) rfl (by kernel_rfl) (by kernel_rfl) (by kernel_rfl) (fun _ _ _ h => h) (Or.inl ⟨by rfl, ?_⟩) (by assumption) ?_
  · intro w hSw; (try dsimp only at hSw); obtain ⟨hSa, hSb⟩ := hSw; go_simp
  simp only [Act.put, List.setIfInBounds_toArray, List.set_cons_zero, List.set_cons_succ]
  refine wpAnyH_ready (rs := [8]) (by kernel_rfl) (by simp) (AllReadyH.cons (o := ⟨some 20, _, _, _, _, _⟩) rfl (fun K hK => ?_) AllReadyH.nil)
  go_simp
  go_invoke
  go_simp
  refine Hst.out.mono ?_
  rintro e w4 ⟨rfl, rfl⟩
  refine hK.out _ _ hS0 (fun _ => ?_)
  clear hK K
  refine wpAnyH_ready (rs := [9]) (by kernel_rfl) (by simp) (AllReadyH.cons (o := ⟨some 21, _, _, _, _, _⟩) rfl (fun K hK => ?_) AllReadyH.nil)
  go_simp
  refine hK.out _ _ ⟨(Hb3.out.cell Hlt.out).trans q0', (Hb3.out.cell Hlt.out).trans q1'⟩ (fun _ => ?_)
  clear hK K
  refine wpAnyH_ready (rs := [10]) (by kernel_rfl) (by simp) (AllReadyH.cons (o := ⟨some 22, _, _, _, _, _⟩) rfl (fun K hK => ?_) AllReadyH.nil)
  go_simp
  refine Hck'.out.mono ?_
  rintro e w4 ⟨rfl, m, rfl⟩
  have hb4 : Below w3.heap.size w3 (w3.drewN m) := below_drews (Below.refl _ _) m
  have hv4 := Hv3.out.below hb4
  refine hK.out _ _ ⟨hv4.box.cell 0, hv4.box.cell 1⟩ (fun _ => ?_)
  clear hK K
  have Hv4 := Lib.hid hv4
  have Hb4 := Lib.hid hb4
  clear hb4 hv4
  refine wpAnyH_take (i := 11) (oi := ⟨some 2, _, _, _, _, _⟩) (v := .int .i64 6) rfl (by kernel_rfl) (by kernel_rfl) (by kernel_rfl) (fun _ _ _ h => h) (Or.inl ⟨by rfl, ?_⟩) (by assumption) ?_
  · intro w hSw; (try dsimp only at hSw); go_simp
  simp only [Act.put, List.setIfInBounds_toArray, List.set_cons_zero, List.set_cons_succ]
  refine wpAnyH_done (by kernel_rfl) ?_ _
  go_wp2
  go_ret
  have h3 := Vlt.step (w := w2) (E := Up E w w2) Hb3.out Hv4.out (fun g hg => .inl hg) (Keeps.of Hb4.out)
  exact ⟨rfl, settle_end Hk2.out h3.1 h3.2⟩

end
end Go.Proofs.Ytghcmlipbmmfjaa
