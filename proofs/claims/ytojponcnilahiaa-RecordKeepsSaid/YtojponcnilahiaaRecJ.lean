/- What the laws of layer 4 ask first (awake) is true. No condition. -/
import Derived.Test.YtojponcnilahiaaRecH
import Derived.Test.YtojponcnilahiaaRecF
namespace Go.Proofs.Ytojponcnilahiaa
open Go.RowKit
open Go.Lib (strCells compareBytes)

def wakeRec : List TVal := [⟨1, 5, ⟨#[]⟩⟩, ⟨2, 0, ⟨#[97]⟩⟩]
def wakeShown : List TVal := [⟨2, 0, ⟨#[97]⟩⟩, ⟨1, 5, ⟨#[]⟩⟩]
theorem good_five : goodV ⟨1, 5, ⟨#[]⟩⟩ = true := by rw [goodV_iff]; exact .inr (.inl ⟨rfl, rfl⟩)
theorem good_a : goodV ⟨2, 0, ⟨#[97]⟩⟩ = true := by rw [goodV_iff]; exact .inr (.inr ⟨rfl, rfl, by simp [TVal.t]⟩)
theorem good_null : goodV ⟨0, 0, ⟨#[]⟩⟩ = true := by rw [goodV_iff]; exact .inl ⟨rfl, rfl, rfl⟩
theorem wake_rec : recErr wakeRec = 0 := by
  unfold recErr
  rw [if_neg (by simp [wakeRec])]
  refine rowErr_ok.2 ⟨by simp [wakeRec], fun v hv => ?_⟩
  simp only [wakeRec, List.mem_cons, List.not_mem_nil, or_false] at hv
  rcases hv with rfl | rfl
  · exact good_five
  · exact good_a
theorem wake_shows : showT 3 [1, 0] wakeRec = some wakeShown := by
  rw [showT_ok (by decide +kernel) wake_rec]
  rfl
theorem wake_null : recErr [⟨0, 0, ⟨#[]⟩⟩] = 0 := by
  unfold recErr
  rw [if_neg (by simp)]
  refine rowErr_ok.2 ⟨by simp, fun v hv => ?_⟩
  simp only [List.mem_cons, List.not_mem_nil, or_false] at hv
  subst hv
  exact good_null
theorem wake_row : rowErr [⟨2, 0, ⟨#[97]⟩⟩] = 0 := by
  refine rowErr_ok.2 ⟨by simp, fun v hv => ?_⟩
  simp only [List.mem_cons, List.not_mem_nil, or_false] at hv
  subst hv
  exact good_a
theorem wake_entry : entryErr 1 [⟨2, 0, ⟨#[97]⟩⟩] (⟨#[107]⟩ : ByteArray).data.toList = 0 := by
  unfold entryErr
  rw [wake_row]
  decide +kernel
theorem wake_text : entryT 1 [⟨2, 0, ⟨#[97]⟩⟩] (⟨#[107]⟩ : ByteArray).data.toList = [0, 1, 3, 97, 0, 0, 0, 107] := by
  unfold entryT
  rw [if_pos wake_entry]
  decide +kernel
theorem rec_lit (w : World) : HasVals (w.alloc (.cells #[.int .i64 1, .int .i64 5, .string ⟨#[]⟩, .int .i64 2, .int .i64 0, .string ⟨#[97]⟩] 49)) (w.heap.size + 1) (some ⟨w.heap.size, 0, none⟩) 2 wakeRec :=
  ⟨rfl, Has.lit w #[.int .i64 1, .int .i64 5, .string ⟨#[]⟩, .int .i64 2, .int .i64 0, .string ⟨#[97]⟩] 49⟩

set_option maxHeartbeats 800000 in
theorem awake4_any (w : World) : Calls Try.prog 8 #[] w fun e w' => e = .returned (.bool true) ∧ Below w.heap.size w w' := by
  obtain ⟨w1, hw1⟩ : ∃ w1, w.alloc (.cells #[.int .i64 1, .int .i64 0] 3) = w1 := ⟨_, rfl⟩
  obtain ⟨w2, hw2⟩ : ∃ w2, w1.alloc (.cells #[.int .i64 1, .int .i64 5, .string ⟨#[]⟩, .int .i64 2, .int .i64 0, .string ⟨#[97]⟩] 49) = w2 := ⟨_, rfl⟩
  have hz1 : w1.heap.size = w.heap.size + 1 := by rw [← hw1]; simp
  have hz2 : w2.heap.size = w.heap.size + 2 := by rw [← hw2]; simp; omega
  have hints : HasInts w1 (w.heap.size + 1) (some ⟨w.heap.size, 0, none⟩) 2 [1, 0] := by
    rw [← hw1]
    exact ints_lit w #[.int .i64 1, .int .i64 0] [1, 0] 3 rfl _ rfl
  have hb12 : Below w1.heap.size w1 w2 := by rw [← hw2]; exact below_box _
  have hb2 : Below w.heap.size w w2 := by
    have hb1 : Below w.heap.size w w1 := by rw [← hw1]; exact below_box _
    exact hb1.trans (hb12.mono (by omega))
  have hvals : HasVals w2 (w.heap.size + 2) (some ⟨w.heap.size + 1, 0, none⟩) 2 wakeRec := by
    have := rec_lit w1
    rw [hw2, hz1] at this
    exact this
  have Hshow := Lib.hid (shows_any 3 (some ⟨w.heap.size, 0, none⟩) (some ⟨w.heap.size + 1, 0, none⟩) 2 2 2 2 w2.heap.size [1, 0] wakeRec w2 ⟨hints.1, (hints.2.belowOf hb12 (by omega)).more (by omega)⟩ (hvals.more (by omega)) (by simp [maxLen]) (by simp [maxLen]) (Nat.le_refl _) (by
    intro u hu
    simp only [wakeRec, List.mem_cons, List.not_mem_nil, or_false] at hu
    rcases hu with rfl | rfl <;> simp [InI64]))
  rw [wake_shows] at Hshow
  have Hb2 := Lib.hid hb2
  have Hent := Lib.hid (fun (wx : World) => entry_any 1 _ 1 1 _ [⟨2, 0, ⟨#[97]⟩⟩] ⟨#[107]⟩ _ ⟨rfl, vals_lit wx 2 0 ⟨#[97]⟩⟩ (by simp [maxLen]) (by simp) (by simp [InI64]))
  rw [wake_text, wake_entry] at Hent
  have Hnull := Lib.hid (fun (wx : World) => recCheck_any _ 1 1 _ [⟨0, 0, ⟨#[]⟩⟩] _ ⟨rfl, vals_lit wx 0 0 ⟨#[]⟩⟩ (by simp [maxLen]) (by simp) (by simp [InI64]))
  rw [wake_null] at Hnull
  have Hz1 := Lib.hid hz1
  clear hints hb12 hb2 hvals
  go_enter Try.func8, Try.ntmps8
  go_wp2_with fail
  refine Hshow.out.mono ?_
  rintro e w3 ⟨v, rfl, hown, hb3⟩
  obtain ⟨A2, c2, rfl, hc2, _, hh⟩ := own_sliceN hown
  have hv : HasVals w3 w3.heap.size A2 2 wakeShown := ⟨rfl, hh⟩
  have Hb3 := Lib.hid (Hb2.out.trans (hb3.mono Hb2.out.size))
  obtain ⟨a, u, rfl, ha, hu, -, -, d2⟩ := hv.at_ (i := 0) (by omega)
  obtain ⟨a', u', ha', _, hu', -, d1, -⟩ := hv.at_ (i := 1) (by omega)
  injection ha' with ha'
  subst ha'
  have hu1 : u = ⟨2, 0, ⟨#[97]⟩⟩ := by simpa [wakeShown] using hu.symm
  have hu2 : u' = ⟨1, 5, ⟨#[]⟩⟩ := by simpa [wakeShown] using hu'.symm
  subst hu1 hu2
  have Hcells : Hid (∀ wx, Below w3.heap.size w3 wx → wx.cell? ⟨a.block, a.off + 2, none⟩ = some (.string ⟨#[97]⟩) ∧ wx.cell? ⟨a.block, a.off + 3 + 1, none⟩ = some (.int .i64 5)) := Lib.hid fun wx hb =>
    ⟨(hb.cell (p := ⟨a.block, a.off + 2, none⟩) ha).trans d2, (hb.cell (p := ⟨a.block, a.off + 3 + 1, none⟩) ha).trans d1⟩
  clear hown hb3 hh hv d1 d2 hu hu' hw1 hw2 hz1 hz2 Hshow
  have hl2 : wakeShown.length = 2 := rfl
  go_wp2_with fail
  refine (Hent.out w3).mono ?_
  rintro e w4 ⟨rfl, hb4⟩
  have hb34 : Below w3.heap.size w3 w4 := (below_box _).trans (hb4.mono (by simp))
  obtain ⟨p0, p1⟩ := Hcells.out w4 hb34
  have Hb4 := Lib.hid (Hb3.out.trans (hb34.mono Hb3.out.size))
  clear hb4 hb34
  simp only [textErr]
  go_wp2_with fail
  refine (Hnull.out w4).mono ?_
  rintro e w5 ⟨rfl, hb5⟩
  have Hb5 := Lib.hid (Hb4.out.trans (((below_box _).trans (hb5.mono (by simp))).mono Hb4.out.size))
  clear hb5
  go_wp2
  go_ret
  exact ⟨rfl, Hb5.out⟩

end Go.Proofs.Ytojponcnilahiaa
