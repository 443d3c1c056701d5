/- The document's places of ranges. Condition: few ranges, in memory. -/
import Derived.Test.YtijcaefpainhcaaRngG
namespace Go.Proofs.Ytijcaefpainhcaa
open Go.RowKit
open Go.Lib (strCells compareBytes)

theorem keep_call {wr wx w' : World} (h : Below wr.heap.size wr wx) (hb : Below wx.heap.size wx w') : Below wr.heap.size wr w' := h.trans (hb.mono h.size)
theorem places_snoc {l : List Rg} {k : Nat} {r : Rg} (h : l[k]? = some r) : placesL (l.take (k + 1)) = putT r.hi (putT r.lo (placesL (l.take k))) := by
  rw [List.take_add_one, h]
  unfold placesL
  rw [List.foldl_append]
  rfl
theorem HasTx.belowOf {w w' : World} {B n C : Nat} {A : Option Addr} {l : List ByteArray} (h : HasTx w B A n l) (hb : Below C w w') (hC : B ≤ C) : HasTx w' B A n l := Has.belowOf h hb hC
theorem placesN (l : List Rg) (k : Nat) : (placesL (l.take k)).length ≤ 1 + 2 * l.length := by
  have h1 := places_len (l.take k) [⟨#[]⟩]
  have h2 : (l.take k).length ≤ l.length := by rw [List.length_take]; omega
  unfold placesL
  simp only [List.length_cons, List.length_nil] at h1
  omega

set_option maxRecDepth 100000 in
set_option maxHeartbeats 3200000 in
theorem places_any (A : Option Addr) (n c C : Nat) (l : List Rg) (w : World) (h : HasRgs w C A n l) (hC : C ≤ w.heap.size) (hn : n ≤ 400000) :
    Calls Try.prog 45 #[.slice A n c] w (GivesT w.heap.size (placesL l) w) := by
  have H := Lib.hid h
  have Hl := Lib.hid h.1
  have HC := Lib.hid hC
  clear h hC
  have Hst : Hid (OwnTx (w.alloc (.cells #[.string ⟨#[]⟩] 9)) w.heap.size (.slice (some ⟨w.heap.size, 0, none⟩) 1 1) [⟨#[]⟩] ∧ Below w.heap.size w (w.alloc (.cells #[.string ⟨#[]⟩] 9))) := Lib.hid ⟨⟨rfl, .inr ⟨w.heap.size, 1, #[.string ⟨#[]⟩], rfl, Nat.le_refl _, heap_alloc_new w _, Nat.le_refl _, by simp [maxLen], rfl, rfl⟩⟩, below_box _⟩
  go_enter Try.func45, Try.ntmps45
  go_wp2
  go_loopw [3, 4] (fun o iv wr => ∃ k : Nat, k ≤ n ∧ iv = .int .i64 (k : Int) ∧ OwnTx wr w.heap.size o (placesL (l.take k)) ∧ Below w.heap.size w wr) (fun _ iv _ => n - (intOf iv).toNat)
  case atStart => exact ⟨0, by omega, rfl, Hst.out.1, Hst.out.2⟩
  case round =>
    obtain ⟨k, hk, rfl, ho, hb⟩ := hrel
    have Hb := Lib.hid hb
    have hsz := hb.size
    clear Hst
    by_cases hlt : k < n
    · obtain ⟨a, y, rfl, hab, hy, c0, c1⟩ := (H.out.belowOf hb HC.out).at_ hlt
      have Hts := Lib.hid (places_snoc hy)
      have Hpn := Lib.hid (placesN l k)
      obtain ⟨L, hL⟩ : ∃ L, placesL (l.take k) = L := ⟨_, rfl⟩
      rw [hL] at ho Hts Hpn
      obtain ⟨yk, yv⟩ := y
      simp only at c0 c1 Hts
      obtain ⟨Ao, co, rfl, ho1, ho2, ho3⟩ := ho.slice
      obtain ⟨N, hN⟩ : ∃ N, L.length = N := ⟨_, rfl⟩
      rw [hN] at Hpn ho1 ho3 ⊢
      have Hrow := Lib.hid ho3
      have HNc := Lib.hid ho1
      have Hlen := Lib.hid (And.intro (putT_len yk L).2 hN)
      have hk0 : (0 : Int) ≤ (k : Int) := by omega
      have hk1 : (k : Int) < (n : Int) := by omega
      have HK : Hid (∀ wx, Below wr.heap.size wr wx → (wx.cell? (a.add (k * 2)) = some (.string yk) ∧ wx.cell? ⟨(a.add (k * 2)).block, (a.add (k * 2)).off + 1, none⟩ = some (.string yv)) ∧ Below wr.heap.size wr wx) := Lib.hid fun wx hx => by
        have := HC.out
        have hbl : a.block < wr.heap.size := by omega
        exact ⟨⟨below_cell hx (by rw [addr_block]; exact hbl) c0, below_cell hx (by show (a.add (k * 2)).block < _; rw [addr_block]; exact hbl) c1⟩, hx⟩
      clear hy hL hN ho ho1 ho2 ho3 hb c0 c1
      go_wp2
      go_region_held3 (fun wx => (wx.cell? (a.add (k * 2)) = some (.string yk) ∧ wx.cell? ⟨(a.add (k * 2)).block, (a.add (k * 2)).off + 1, none⟩ = some (.string yv)) ∧ Below wr.heap.size wr wx)
        (first | exact HK.out _ (Below.refl _ _).drew | exact HK.out _ (keep_call (And.right (by assumption)) b1) | exact HK.out _ (keep_call (And.right (by assumption)) b2))
        (first
          | (go_at_call_of 69 (Value.slice Ao N co); refine (putT_any Ao N co wr.heap.size L yk wr.drew (Hrow.out.belowOf (Below.refl _ _).drew (Nat.le_refl _)) (Nat.le_refl _) (by have := Hpn.out; have := Hl.out; omega) HNc.out).mono ?_; rintro e w1 ⟨v1, rfl, o1, b1⟩; obtain ⟨A1, c1, rfl, hc1, -, x1⟩ := o1.slice; obtain ⟨N1, hN1⟩ : ∃ N1, (putT yk L).length = N1 := ⟨_, rfl⟩; rw [hN1] at hc1 x1 ⊢)
          | (go_at_call_of 69 (Value.slice A1 N1 c1); refine (putT_any A1 N1 c1 w1.heap.size (putT yk L) yv w1 x1 (Nat.le_refl _) (by have := Hpn.out; have := Hl.out; have := Hlen.out; omega) hc1).mono ?_; rintro e w2 ⟨v2, rfl, o2, b2⟩))
      all_goals
        have hw2 : Below wr.heap.size wr w2 := And.right (by assumption)
        have HoE : Hid (OwnTx w2 w.heap.size v2 (placesL (l.take (k + 1)))) := Lib.hid (by
          rw [Hts.out]
          refine own_baseN o2 ?_
          have h1 : wr.heap.size ≤ w1.heap.size := b1.size
          omega)
        have HbE : Hid (Below w.heap.size w w2) := Lib.hid (Hb.out.trans (hw2.mono hsz))
        clear b1 b2 o1 o2 x1 hN1 hw2
        clear ‹_ ∧ Below wr.heap.size wr w2›
        go_wp2
        go_roundw
        case rel => exact ⟨k + 1, by omega, by go_num, HoE.out, HbE.out⟩
        case measure => simp [intOf]; omega
    · obtain rfl : k = n := by omega
      have E : Hid (l.take k = l) := Lib.hid (List.take_of_length_le (by have := Hl.out; omega))
      rw [E.out] at ho
      have Ho := Lib.hid ho
      clear ho hb
      go_wp2
      go_ret
      exact ⟨_, rfl, Ho.out, Hb.out⟩

end Go.Proofs.Ytijcaefpainhcaa
