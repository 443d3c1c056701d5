/- The document's Scan, Same and Bulk of layer 6 give what the plain text (SpecFrame) gives. Condition: the bytes are in memory. -/
import Derived.Test.YteegnohfmonakaaFrmG
namespace Go.Proofs.Yteegnohfmonakaa
open Go.RowKit
open Go.Lib (strCells)

theorem one_row (w : World) (g : Nat) (hg : w.heap.size = g) (u : Value) (t : TypeId) : Has (w.alloc (.cells #[u] t)) (g + 1) (some ⟨g, 0, none⟩) 1 [u] := by
  subst hg
  exact Has.more (Has.one w u t _ rfl) (by simp)
set_option maxHeartbeats 1600000 in
theorem refScan_any (A : Option Addr) (n c B : Nat) (l : List UInt8) (w : World) (h : HasBytes w B A n l) (hB : B ≤ w.heap.size) (hn : n ≤ 1000000) (hnc : n ≤ c) :
    Calls Try.prog 14 #[.slice A n c] w (ScanPost l w) := by
  have Hl := Lib.hid h.len
  have H := Lib.hid h
  have HB := Lib.hid hB
  clear h hB
  go_enter Try.func14, Try.ntmps14
  go_wp2
  go_loopw [4, 5, 6] (fun lv nv _ wr => ∃ (k : Nat) (rs : Brs), nv = .int .i64 (k : Int) ∧ k ≤ n ∧ OwnRs wr w.heap.size lv rs ∧ Hid (scanT l = (brLists rs ++ (scanT (l.drop k)).1, k + (scanT (l.drop k)).2)) ∧ rs.length ≤ k ∧ Below w.heap.size w wr) (fun _ nv _ _ => n - (intOf nv).toNat)
  case atStart => exact ⟨0, [], rfl, by omega, OwnRs.nil _ _, Lib.hid (by simp [brLists]), by simp, Below.refl _ _⟩
  case round =>
    obtain ⟨k, rs, rfl, hk, hown, Hsc, hrk, hb⟩ := hrel
    have Hown := Lib.hid hown
    have Hb := Lib.hid hb
    have Hrk := Lib.hid hrk
    have hrest := HasBytes.part (H.out.belowOf hb HB.out) (k := k) (cap := c) hk hnc
    obtain ⟨D, hD⟩ : ∃ D, (if c = k then A else A.map (·.add k)) = D := ⟨_, rfl⟩
    rw [hD] at hrest
    have Hfirst := Lib.hid (refFirst_any D (n - k) (c - k) B (l.drop k) _ hrest (Nat.le_trans HB.out hb.size) (by omega) (by omega))
    clear hown hb hrk hrest
    have k0 : (0 : Int) ≤ (k : Int) := by omega
    have kc : (k : Int) ≤ (c : Int) := by omega
    have kn : (k : Int) ≤ (n : Int) := by omega
    go_wp2_with fail
    refine Hfirst.out.mono ?_
    rintro e w1 ⟨hb1, ⟨he, rfl⟩ | ⟨he, v, rfl, hown1⟩⟩
    · have hne : ((firstErr (l.drop k) : Int) != 0) = true := by simp; omega
      have Hb1 : Hid (Below w.heap.size w w1) := Lib.hid (Hb.out.trans (hb1.mono Hb.out.size))
      have Hown1 := Lib.hid (Hown.out.below hb1)
      have Hs : Hid (scanT l = (brLists rs, k)) := Lib.hid (by rw [Hsc.out, scanT_end he]; simp)
      clear hb1 he
      go_wp2
      go_ret2
      exact scan_ret Hs.out (Hown1.out.below ((Below.refl _ _).alloc (Nat.le_refl _) _)) (Hb1.out.alloc Hb1.out.size _)
    · obtain ⟨S, hS⟩ : ∃ S, sizeAt (l.drop k) = S := ⟨_, rfl⟩
      have hle := firstErr_len he
      have hpl := payAt_len hle.1
      rw [hS, List.length_drop, Hl.out] at hle
      rw [hS] at hown1 hpl
      have Hb1 : Hid (Below w.heap.size w w1) := Lib.hid (Hb.out.trans (hb1.mono Hb.out.size))
      have Hownl := Lib.hid (Hown.out.below hb1)
      have Hlb := Lib.hid hown1
      have Hpl := Lib.hid hpl
      have Hs : Hid (scanT l = (brLists (rs ++ [(v, payAt (l.drop k))]) ++ (scanT (l.drop (k + (8 + S)))).1, k + (8 + S) + (scanT (l.drop (k + (8 + S)))).2)) := Lib.hid (by
        rw [Hsc.out, scanT_step he, hS, List.drop_drop, brLists_snoc]
        simp [Nat.add_assoc])
      obtain ⟨A1, c1, rfl, hc1, hcm1, hh1⟩ := own_slice hown1
      have Hown1 := Lib.hid (own_base hown1 Hb.out.size)
      clear hb1 he hown1 hpl hc1 hcm1 hh1
      have hle1 := hle.1
      have hle2 := hle.2
      clear hle
      have Hbel : Hid (∀ o o', Below w1.heap.size w1 ((w1.alloc o).alloc o')) := Lib.hid fun o o' => ((Below.refl _ _).alloc (Nat.le_refl _) _).alloc (le_alloc (Nat.le_refl _) _) _
      have Hnb : Hid (some w1.heap.size ≠ u4.ownBlock) := Lib.hid fun e => by have := (Hownl.out.own.lt _ e.symm).2; omega
      go_wp2_with (at_builtin; refine wpList_append_has rfl (.tmp 16) (.tmp 19) _ rfl 22 bs_elem1 Try.underlying33 rfl (own_below Hownl.out.own (Hbel.out _ _)) rfl (one_row (w1.alloc _) _ (World.size_alloc _ _) _ _) (one_slice _ ⟨_, _, _, rfl⟩) (by have := Hrk.out; simp only [maxLen]; omega) (by have := Hrk.out; omega) (le_alloc (le_alloc Hb1.out.size _) _) ?_; intro v' w2 hown2 hg2 hz2; have hbx2 := (((Box.made w1 30 #[.slice A1 S c1, .int .i64 (8 + (S : Int)), .int .i64 0]).alloc _).grown hg2 Hnb.out).cell 1)
      have Hlt : Hid (∀ r ∈ rs, ∀ g h, r.1.ownBlock = some g → (Value.slice A1 S c1).ownBlock = some h → g < h) := Lib.hid fun r hr g h hg hh => by
        have h1 := ((Hown.out.rows r hr).lt g hg).2
        have h2 := (Hlb.out.lt h hh).1
        omega
      have Hrow1 : Hid (((w1.alloc (.cells #[.slice A1 S c1, .int .i64 (8 + (S : Int)), .int .i64 0] 30)).alloc (.cells #[.slice A1 S c1] 22)).ownsRow w.heap.size 5 1 (.slice A1 S c1) (payAt (l.drop k)).length (byteCells (payAt (l.drop k)))) := Lib.hid (by
        rw [Hpl.out]
        exact own_below Hown1.out (Hbel.out _ _))
      have Hown2 := Lib.hid ((Hownl.out.below (Hbel.out (.cells #[.slice A1 S c1, .int .i64 (8 + (S : Int)), .int .i64 0] 30) (.cells #[.slice A1 S c1] 22))).snoc Hrow1.out Hlt.out hown2 hg2)
      have Hb2 : Hid (Below w.heap.size w w2) := Lib.hid (below_own (Hb1.out.trans ((Hbel.out _ _).mono Hb1.out.size)) (own_below Hownl.out.own (Hbel.out _ _)) hg2 (le_alloc (le_alloc Hb1.out.size _) _))
      clear hown2 hg2 hz2
      go_roundw
      case rel => exact ⟨k + (8 + S), _, by go_num, by omega, Hown2.out, Hs, by rw [List.length_append]; have := Hrk.out; simp; omega, Hb2.out⟩
      case measure => simp [intOf]; omega

end Go.Proofs.Yteegnohfmonakaa
