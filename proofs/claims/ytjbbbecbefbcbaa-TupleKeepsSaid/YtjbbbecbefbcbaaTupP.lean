/- What the laws of layer 3 ask first (awake) is true. No condition. -/
import Derived.Test.YtjbbbecbefbcbaaTupO
import Derived.Test.YtjbbbecbefbcbaaTupF
namespace Go.Proofs.Ytjbbbecbefbcbaa
open Go.RowKit
open Go.Lib (strCells compareBytes)

def wakeRow : List TVal := [⟨1, 1, ⟨#[]⟩⟩, ⟨2, 0, ⟨#[97]⟩⟩]
theorem wake_lit (w : World) : HasVals (w.alloc (.cells #[.int .i64 1, .int .i64 1, .string ⟨#[]⟩, .int .i64 2, .int .i64 0, .string ⟨#[97]⟩] 27)) (w.heap.size + 1) (some ⟨w.heap.size, 0, none⟩) 2 wakeRow :=
  ⟨rfl, Has.lit w #[.int .i64 1, .int .i64 1, .string ⟨#[]⟩, .int .i64 2, .int .i64 0, .string ⟨#[97]⟩] 27⟩
theorem wake_good : AllGood wakeRow := by
  intro v hv
  simp only [wakeRow, List.mem_cons, List.not_mem_nil, or_false] at hv
  rcases hv with rfl | rfl
  · exact ⟨by rw [goodV_iff]; exact .inr (.inl ⟨rfl, rfl⟩), by simp [InI64]⟩
  · exact ⟨by rw [goodV_iff]; exact .inr (.inr ⟨rfl, rfl, by simp [TVal.t]⟩), by simp [InI64]⟩
theorem wake_err : rowErr wakeRow = 0 := rowErr_ok.2 ⟨by simp [wakeRow], fun v hv => (wake_good v hv).1⟩
theorem wake_key : keyT wakeRow = [2, 128, 0, 0, 0, 0, 0, 0, 1, 3, 97, 0, 0] := by
  unfold keyT
  rw [if_pos wake_err]
  decide +kernel
theorem keyL_back {l : List TVal} (hg : AllGood l) (h4 : l.length ≤ 4) : cutL 4 (keyL l) = .ok l [] := by
  have := cutL_key l 4 [] hg h4 rfl
  rwa [List.append_nil] at this
theorem keyT_eq {l : List TVal} (h : rowErr l = 0) : keyT l = keyL l := if_pos h

set_option maxHeartbeats 800000 in
theorem awake_any (w : World) : Calls Try.prog 8 #[] w fun e w' => e = .returned (.bool true) ∧ Below w.heap.size w w' := by
  have Hkey := Lib.hid (key_any _ 2 2 _ wakeRow _ (wake_lit w) (by simp [maxLen]) (by simp) (fun v hv => (wake_good v hv).2))
  rw [wake_err, wake_key] at Hkey
  have hback : cutL 4 (⟨#[2, 128, 0, 0, 0, 0, 0, 0, 1, 3, 97, 0, 0]⟩ : ByteArray).data.toList = .ok wakeRow [] := by
    have := keyL_back wake_good (by simp [wakeRow])
    rw [← keyT_eq wake_err, wake_key] at this
    exact this
  have Hvals := Lib.hid (fun wx => vals_ok ⟨#[2, 128, 0, 0, 0, 0, 0, 0, 1, 3, 97, 0, 0]⟩ wakeRow wx (by decide) hback)
  have Hnext := Lib.hid (fun wx => next_any ⟨#[97, 255]⟩ wx (by decide))
  have hn : nextT (⟨#[97, 255]⟩ : ByteArray).data.toList = [98] := by decide +kernel
  rw [hn] at Hnext
  clear hback hn
  go_enter Try.func8, Try.ntmps8
  go_wp2_with fail
  refine Hkey.out.mono ?_
  rintro e w1 ⟨rfl, hb1⟩
  have Hb1 := Lib.hid ((below_box _).trans (hb1.mono (by simp)))
  have hsz1 := Hb1.out.size
  clear hb1
  simp only [textErr]
  go_wp2_with fail
  refine (Hvals.out _).mono ?_
  rintro e w2 ⟨v, rfl, hown, hb2⟩
  obtain ⟨A2, c2, rfl, hc2, _, hh⟩ := own_sliceN hown
  have Hv : Hid (HasVals w2 w2.heap.size A2 2 wakeRow) := Lib.hid ⟨rfl, hh⟩
  have Hb2 := Lib.hid (Hb1.out.trans (hb2.mono hsz1))
  have hsz2 := Hb2.out.size
  clear hown hb2 hh
  obtain ⟨a, u, rfl, _, hu, d0, d1, d2⟩ := Hv.out.at_ (i := 1) (by omega)
  have hu' : u = ⟨2, 0, ⟨#[97]⟩⟩ := by simpa [wakeRow] using hu.symm
  subst hu'
  have d3 : w2.cell? ⟨a.block, a.off + 3 + 2, none⟩ = some (.string ⟨#[97]⟩) := d2
  clear hu d0 d1 d2
  have hl2 : wakeRow.length = 2 := rfl
  go_wp2_with fail
  refine (Hnext.out _).mono ?_
  rintro e w3 ⟨rfl, hb3⟩
  have Hb3 := Lib.hid (Hb2.out.trans (hb3.mono hsz2))
  clear hb3
  go_wp2
  go_ret
  exact ⟨rfl, Hb3.out⟩

end Go.Proofs.Ytjbbbecbefbcbaa
