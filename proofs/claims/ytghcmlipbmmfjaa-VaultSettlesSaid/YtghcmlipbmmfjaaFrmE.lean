/- frame.Scan gives what the plain text (SpecFrame) gives. Condition: the bytes are in memory. -/
import Derived.Test.YtghcmlipbmmfjaaFrmD
namespace Go.Proofs.Ytghcmlipbmmfjaa
open Go.RowKit
open Go.Lib (strCells)

theorem below_drews {B : Nat} {a w : World} (h : Below B a w) (n : Nat) : Below B a (w.drewN n) := ⟨h.os, h.tape, h.output, h.size, h.block⟩
theorem Box.drewN {W : World} {g : Nat} {t : TypeId} {cs : Array Value} (h : Box W g t cs) (n : Nat) : Box (W.drewN n) g t cs := h
theorem bs_elem1 : Elem Try.prog 47 24 (.slice none 0 0) := ⟨by kernel_rfl, rfl⟩
theorem one_slice (v : Value) (h : ∃ A m c, v = .slice A m c) : ∀ u ∈ [v], u.oneCell' = true := by
  obtain ⟨A, m, c, rfl⟩ := h
  intro u hu
  simp at hu
  subst hu
  rfl
/-- what Scan answers of the bytes l -/
def ScanPost (l : List UInt8) (w : World) (e : Ending) (w' : World) : Prop :=
  ∃ v rs, e = .returned (.tuple #[v, .int .i64 ((scanT l).2 : Int)]) ∧ OwnRs w' w.heap.size v rs ∧ brLists rs = (scanT l).1 ∧ Below w.heap.size w w'
theorem scan_ret {l : List UInt8} {w w' : World} {v : Value} {rs : Brs} {k : Nat} (h : scanT l = (brLists rs, k)) (ho : OwnRs w' w.heap.size v rs) (hb : Below w.heap.size w w') : ScanPost l w (.returned (.tuple #[v, .int .i64 (k : Int)])) w' :=
  ⟨v, rs, by rw [h], ho, by rw [h], hb⟩
set_option maxHeartbeats 1600000 in
theorem scan_any (A : Option Addr) (n c B : Nat) (l : List UInt8) (w : World) (h : HasBytes w B A n l) (hB : B ≤ w.heap.size) (hn : n ≤ 1000000) (hnc : n ≤ c) :
    Calls Try.prog 33 #[.slice A n c] w (ScanPost l w) := by
  have Hl := Lib.hid h.len
  have H := Lib.hid h
  have HB := Lib.hid hB
  clear h hB
  go_enter Try.func33, Try.ntmps33
  go_wp2
  go_loopw [2, 3, 4, 5, 6] (fun lv nv _ _ _ wr => ∃ (k : Nat) (rs : Brs), nv = .int .i64 (k : Int) ∧ k ≤ n ∧ OwnRs wr w.heap.size lv rs ∧ Hid (scanT l = (brLists rs ++ (scanT (l.drop k)).1, k + (scanT (l.drop k)).2)) ∧ rs.length ≤ k ∧ Below w.heap.size w wr) (fun _ nv _ _ _ _ => n - (intOf nv).toNat)
  case atStart => exact ⟨0, [], rfl, by omega, OwnRs.nil _ _, Lib.hid (by simp [brLists]), by simp, Below.refl _ _⟩
  case round =>
    obtain ⟨k, rs, rfl, hk, hown, Hsc, hrk, hb⟩ := hrel
    have Hown := Lib.hid hown
    have Hb := Lib.hid hb
    have Hrk := Lib.hid hrk
    have hrest := HasBytes.part (H.out.belowOf hb HB.out) (k := k) (cap := c) hk hnc
    obtain ⟨D, hD⟩ : ∃ D, (if c = k then A else A.map (·.add k)) = D := ⟨_, rfl⟩
    rw [hD] at hrest
    have Hfirst := Lib.hid (first_any D (n - k) (c - k) B (l.drop k) _ hrest (Nat.le_trans HB.out hb.size) (by omega) (by omega))
    clear hown hb hrk hrest
    have k0 : (0 : Int) ≤ (k : Int) := by omega
    have kc : (k : Int) ≤ (c : Int) := by omega
    have kn : (k : Int) ≤ (n : Int) := by omega
    go_wp2_with fail
    refine Hfirst.out.mono ?_
    rintro e w1 (⟨he, rfl, hb1⟩ | ⟨he, v, rfl, hown1, hob, hb1⟩)
    · have hne : ((firstErr (l.drop k) : Int) != 0) = true := by simp; omega
      have Hb1 : Hid (Below w.heap.size w w1) := Lib.hid (Hb.out.trans (hb1.mono Hb.out.size))
      have Hown1 := Lib.hid (Hown.out.below hb1)
      have Hs : Hid (scanT l = (brLists rs, k)) := Lib.hid (by rw [Hsc.out, scanT_end he]; simp)
      clear hb1 he
      go_wp2
      go_ret2
      exact scan_ret Hs.out Hown1.out Hb1.out
    · obtain ⟨S, hS⟩ : ∃ S, sizeAt (l.drop k) = S := ⟨_, rfl⟩
      have hle := firstErr_len he
      have hpl := payAt_len hle.1
      rw [hS, List.length_drop, Hl.out] at hle
      rw [hS] at hown1 hpl
      have Hb1 : Hid (Below w.heap.size w w1) := Lib.hid (Hb.out.trans (hb1.mono Hb.out.size))
      have Hb1' : Hid (Below wr.heap.size wr w1) := Lib.hid hb1
      have Hownl := Lib.hid (Hown.out.below hb1)
      have Hob := Lib.hid hob
      have Hpl := Lib.hid hpl
      have Hs : Hid (scanT l = (brLists (rs ++ [(v, payAt (l.drop k))]) ++ (scanT (l.drop (k + (8 + S)))).1, k + (8 + S) + (scanT (l.drop (k + (8 + S)))).2)) := Lib.hid (by
        rw [Hsc.out, scanT_step he, hS, List.drop_drop, brLists_snoc]
        simp [Nat.add_assoc])
      obtain ⟨A1, c1, rfl, hc1, hcm1, hh1⟩ := own_slice hown1
      have Hown1 := Lib.hid (own_base hown1 Hb.out.size)
      clear hb1 he hown1 hob hpl hc1 hcm1 hh1
      have hle1 := hle.1
      have hle2 := hle.2
      clear hle
      go_wp2_with (at_builtin; refine wpList_append_has rfl (.tmp 19) (.tmp 21) _ rfl 47 bs_elem1 Try.underlying48 rfl (own_below Hownl.out.own ((Below.refl _ _).alloc (Nat.le_refl _) _)) rfl (Has.one w1 _ _ _ rfl) (one_slice _ ⟨_, _, _, rfl⟩) (by have := Hrk.out; simp only [maxLen]; omega) (by have := Hrk.out; omega) (le_alloc Hb1.out.size _) ?_; intro v' w2 hown2 hg2 hz2)
      have Hlt : Hid (∀ r ∈ rs, ∀ g h, r.1.ownBlock = some g → (Value.slice A1 S c1).ownBlock = some h → g < h) := Lib.hid fun r hr g h hg hh => by
        have h1 := ((Hown.out.rows r hr).lt g hg).2
        have h2 := Hob.out
        rw [h2] at hh
        injection hh with hh
        omega
      have Hrow1 : Hid ((w1.alloc (.cells #[.slice A1 S c1] 47)).ownsRow w.heap.size 5 1 (.slice A1 S c1) (payAt (l.drop k)).length (byteCells (payAt (l.drop k)))) := Lib.hid (by
        rw [Hpl.out]
        exact own_below Hown1.out ((Below.refl _ _).alloc (Nat.le_refl _) _))
      have Hown2 := Lib.hid ((Hownl.out.below ((Below.refl _ _).alloc (Nat.le_refl _) (.cells #[.slice A1 S c1] 47))).snoc Hrow1.out Hlt.out hown2 hg2)
      have Hb2 : Hid (Below w.heap.size w w2) := Lib.hid (below_own (Hb1.out.alloc Hb1.out.size _) (own_below Hownl.out.own ((Below.refl _ _).alloc (Nat.le_refl _) _)) hg2 (le_alloc Hb1.out.size _))
      clear hown2 hg2 hz2
      go_roundw
      case rel => exact ⟨k + (8 + S), _, by go_num, by omega, Hown2.out, Hs, by rw [List.length_append]; have := Hrk.out; simp; omega, Hb2.out⟩
      case measure => simp [intOf]; omega

end Go.Proofs.Ytghcmlipbmmfjaa
