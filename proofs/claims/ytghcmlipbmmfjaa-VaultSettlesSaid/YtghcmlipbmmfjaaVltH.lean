/- A new disk, and the laws' check that the vault is awake. -/
import Derived.Test.YtghcmlipbmmfjaaVltG
namespace Go.Proofs.Ytghcmlipbmmfjaa
open Go.RowKit
open Go.Lib (strCells)

theorem db_new (n b : Nat) (w : World) (h : n ≤ 4194304) (hb : b ≤ w.heap.size) : Calls Try.prog 9 #[.int .i64 (n : Int)] w fun e w' => ∃ sb, e = .returned (.tuple #[.pointer (some ⟨sb, 0, none⟩), .int .i64 0]) ∧ DB w' b sb (fun g => w.heap.size ≤ g ∧ g < w'.heap.size) n [] [] ∧ Below w.heap.size w w' := by
  refine (new_any n b w h hb).mono ?_
  rintro e w' ⟨rfl, hd, hbl⟩
  exact ⟨_, rfl, ⟨⟨_, hd.disk, ⟨rfl, rfl, rfl, .inl rfl, rfl, rfl, rfl⟩, by simp⟩, fun g hg => ⟨by omega, hg.2⟩⟩, hbl⟩
theorem dig0 : digS 0 = ⟨#[48]⟩ := by decide +kernel
theorem allA : allF emptyB ([] ++ [[97]]) = ⟨#[97, 124]⟩ := by decide +kernel
set_option maxHeartbeats 800000 in
theorem awake_any (w : World) : Calls Try.prog 7 #[] w fun e w' => e = .returned (.bool true) ∧ Below w.heap.size w w' := by
  go_enter Try.func7, Try.ntmps7
  go_wp2_with fail
  refine (db_new 1000 w.heap.size w (by omega) (Nat.le_refl _)).mono ?_
  rintro e w1 ⟨sb, rfl, hd1, hb1⟩
  have s1 := hb1.size
  have Hd1 := Lib.hid hd1
  have Hb1 := Lib.hid hb1
  clear hd1 hb1
  go_wp2_with fail
  refine (db_open Hd1.out s1 (by simp [bulk])).mono ?_
  rintro e w2 ⟨vb, tb, rfl, hv2, hk2⟩
  have s2 : w.heap.size ≤ w2.heap.size := Nat.le_trans s1 hk2.size
  have Hv2 := Lib.hid hv2
  have Hb2 : Hid (Below w.heap.size w w2) := Lib.hid (Hb1.out.trans (hk2.below (fun g hg => (Hd1.out.lt g hg).1) s1))
  clear hv2 hk2
  go_wp2_with fail
  refine (vb_do Hv2.out s2 ⟨#[97]⟩ (by simp [bulk, ByteArray.size]) (by simp [bulk, ByteArray.size]) (by simp)).mono ?_
  rintro e w3 ⟨rfl, hv3, hk3⟩
  have hdig : digS (allF emptyB ([] ++ [])).size = ⟨#[48]⟩ := dig0
  rw [hdig]
  have s3 : w.heap.size ≤ w3.heap.size := Nat.le_trans s2 hk3.size
  have Hv3 := Lib.hid hv3
  have Hb3 : Hid (Below w.heap.size w w3) := Lib.hid (Hb2.out.trans (hk3.below (fun g hg => (Hv2.out.lt g hg).1) s2))
  clear hv3 hk3 hdig
  go_wp2_with fail
  refine (vb_sync Hv3.out s3).mono ?_
  rintro e w4 ⟨rfl, hv4, hk4⟩
  have s4 : w.heap.size ≤ w4.heap.size := Nat.le_trans s3 hk4.size
  have Hv4 := Lib.hid hv4
  have Hb4 : Hid (Below w.heap.size w w4) := Lib.hid (Hb3.out.trans (hk4.below (fun g hg => (Hv3.out.lt g hg).1) s3))
  clear hv4 hk4
  go_wp2_with fail
  refine (vb_do Hv4.out s4 ⟨#[98]⟩ (by simp [bulk, ByteArray.size]) (by simp [bulk, ByteArray.size]) (by simp)).mono ?_
  rintro e w5 ⟨rfl, hv5, hk5⟩
  have s5 : w.heap.size ≤ w5.heap.size := Nat.le_trans s4 hk5.size
  have Hv5 := Lib.hid hv5
  have Hb5 : Hid (Below w.heap.size w w5) := Lib.hid (Hb4.out.trans (hk5.below (fun g hg => (Hv4.out.lt g hg).1) s4))
  clear hv5 hk5
  go_wp2_with fail
  refine (vb_crash Hv5.out (by simp [bulk]) 0 0 (by omega) (by omega)).mono ?_
  rintro e w6 ⟨rfl, hd6, hk6⟩
  have s6 : w.heap.size ≤ w6.heap.size := Nat.le_trans s5 hk6.size
  have Hd6 : Hid (DB w6 w.heap.size sb _ 1000 [] [[97]]) := Lib.hid hd6
  have Hb6 : Hid (Below w.heap.size w w6) := Lib.hid (Hb5.out.trans (hk6.below (fun g hg => (Hv5.out.lt g hg).1) s5))
  clear hd6 hk6
  go_wp2_with fail
  refine (db_open Hd6.out s6 (by simp [bulk])).mono ?_
  rintro e w7 ⟨vb', tb', rfl, hv7, hk7⟩
  have Hv7 := Lib.hid hv7
  have Hb7 : Hid (Below w.heap.size w w7) := Lib.hid (Hb6.out.trans (hk7.below (fun g hg => (Hd6.out.lt g hg).1) s6))
  obtain ⟨S7, hl7, -⟩ := hv7.ex
  obtain ⟨x, hx⟩ := hl7.tape
  rw [allA] at hx
  have q0 := hx.cell 0
  have Hcount := Lib.hid (vb_count hv7)
  clear hv7 hk7 hl7 hx
  go_wp2_with fail
  refine Hcount.out.mono ?_
  rintro e w8 ⟨rfl, rfl⟩
  go_wp2
  go_ret
  exact ⟨rfl, Hb7.out⟩
end Go.Proofs.Ytghcmlipbmmfjaa
