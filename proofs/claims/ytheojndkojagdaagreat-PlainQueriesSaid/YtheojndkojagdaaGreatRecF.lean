/- The document's Shows gives what the plain text (SpecRec) gives. Condition: the record and the numbers are in memory. -/
import Derived.Test.YtheojndkojagdaaGreatRecE
namespace Go.Proofs.YtheojndkojagdaaGreat
open Go.RowKit
open Go.Lib (strCells compareBytes)

set_option maxHeartbeats 1600000 in
set_option maxRecDepth 100000 in
theorem refShows_any (id : Int) (A A' : Option Addr) (n c n' c' B : Nat) (fs : List Int) (r : List TVal) (w : World) (h : HasInts w B A n fs) (h' : HasVals w B A' n' r) (hn : n ≤ maxLen) (hn' : n' ≤ maxLen) (hw : B ≤ w.heap.size) :
    Calls Tryz.prog 24 #[.agg #[.int .i64 id, .slice A n c], .slice A' n' c'] w (ShowsPost (showT id fs r) w) := by
  have H := Lib.hid h
  have H' := Lib.hid h'
  clear h h'
  have Hl := Lib.hid H.out.1
  have Hl' := Lib.hid H'.out.1
  obtain ⟨w1, hw1⟩ : ∃ w1, w.alloc (.cells #[.int .i64 id, .slice A n c] 56) = w1 := ⟨_, rfl⟩
  have Hb1 : Hid (Below w.heap.size w w1) := Lib.hid (by rw [← hw1]; exact below_box _)
  have hz1 : w1.heap.size = w.heap.size + 1 := by rw [← hw1]; simp
  have Hz1 := Lib.hid hz1
  have Hbox : Hid (∀ wx, Below w1.heap.size w1 wx → wx.cell? ⟨w.heap.size, 0, none⟩ = some (.int .i64 id) ∧ wx.cell? ⟨w.heap.size, 1, none⟩ = some (.slice A n c)) := Lib.hid (by
    subst hw1
    exact fun wx hx => box2 hx)
  obtain ⟨q0, q1⟩ := Hbox.out w1 (Below.refl _ _)
  clear hz1
  have Hci := Lib.hid (refCheckIndex_any id A n c B fs w1 (H.out.belowOf Hb1.out hw) hn (Nat.le_trans hw Hb1.out.size))
  by_cases hx : idxErr id fs = 0
  · rw [hx] at Hci
    have Hcr := Lib.hid (fun (wx : World) (hb : Below w.heap.size w wx) => refRecCheck_any A' n' c' B r wx (H'.out.belowOf hb hw) hn' (Nat.le_trans hw hb.size))
    have Ei := Lib.hid hx
    clear hx
    by_cases hr : recErr r = 0
    · have Es := Lib.hid (showT_ok Ei.out hr)
      rw [hr] at Hcr
      clear hr
      have Hin := Lib.hid (okFs_in (idxErr_ok Ei.out).2.2.2)
      have hn2 : n ≤ 2 := by have := (idxErr_ok Ei.out).2.2.1; have := Hl.out; omega
      go_enter Tryz.func24, Tryz.ntmps24
      go_wp2_with fail
      clear hw1 q0 q1
      refine Hci.out.mono ?_
      rintro e w2 ⟨rfl, hb2⟩
      have Hb12 := Lib.hid hb2
      have Hb2 := Lib.hid (Hb1.out.trans (hb2.mono Hb1.out.size))
      clear hb2
      go_wp2_with fail
      refine (Hcr.out w2 Hb2.out).mono ?_
      rintro e w3 ⟨rfl, hb3⟩
      have Hb13 := Lib.hid (Hb12.out.trans (hb3.mono Hb12.out.size))
      have Hb3 := Lib.hid (Hb2.out.trans (hb3.mono Hb2.out.size))
      clear hb3
      go_wp2
      go_loopw [6, 7, 8] (fun lv i _ wr => ∃ (k : Nat) (m : List TVal), k ≤ n ∧ i = .int .i64 (k : Int) ∧ m.length = k ∧ wr.ownsRow w1.heap.size 67 3 lv m.length (valCells m) ∧ Below w1.heap.size w1 wr ∧ Hid (showL r (fs.take k) = some m)) (fun _ i _ _ => n - (intOf i).toNat)
      case atStart => exact ⟨0, [], by omega, rfl, rfl, World.ownsRow_nil _ _ _ _, Hb13.out, Lib.hid rfl⟩
      case round =>
        obtain ⟨k, m, hk, rfl, hmk, hown, hb, Hm⟩ := hrel
        have hsz := hb.size
        have Hown := Lib.hid hown
        have Hb1r := Lib.hid hb
        have Hb := Lib.hid (Hb1.out.trans (hb.mono Hb1.out.size))
        clear hb hown
        obtain ⟨q0, q1⟩ := Hbox.out _ Hb1r.out
        by_cases hlt : k < n
        · have H1 := Lib.hid (H.out.belowOf Hb.out hw)
          obtain ⟨a, x, rfl, _, hx, hc⟩ := H1.out.at_ hlt
          have hxr := Hin.out x (List.mem_of_getElem? hx)
          obtain ⟨j, rfl⟩ : ∃ j : Nat, x = (j : Int) := ⟨x.toNat, by omega⟩
          have hst := showL_take r hx Hm.out
          rw [Int.toNat_natCast] at hst
          have Hst := Lib.hid hst
          clear hx hst
          have hj0 : (0 : Int) ≤ (j : Int) := by omega
          by_cases hj : j < n'
          · have H1' := Lib.hid (H'.out.belowOf Hb.out hw)
            obtain ⟨a', v, rfl, _, hv, c0, c1, c2⟩ := H1'.out.at_ hj
            have Hst2 : Hid (showL r (fs.take (k + 1)) = if v.k = 0 then none else some (m ++ [v])) := Lib.hid (by rw [Hst.out, hv])
            clear Hst hv
            obtain ⟨vk, vn, vs⟩ := v
            simp only at Hst2 c0 c1 c2
            cases hk0 : vk == 0 with
            | true =>
              have E : Hid (showT id fs r = none) := Lib.hid (by rw [Es.out]; exact showL_none_take r fs (k + 1) (by rw [Hst2.out, if_pos (by simpa using hk0)]))
              go_wp2
              go_ret2
              exact shows_none E.out rfl Hb.out
            | false =>
              have E : Hid (showL r (fs.take (k + 1)) = some (m ++ [⟨vk, vn, vs⟩])) := Lib.hid (by rw [Hst2.out, if_neg (by simpa using hk0)])
              go_wp2_with (at_builtin; refine wpList_append_hasN rfl (.tmp 41) (.tmp 46) _ rfl 67 val_elem (by omega) Tryz.underlying31 rfl (Hown.out.alloc _) rfl (vals_lit _ vk vn vs) (valCells_one _) (by simp only [maxLen]; omega) (by omega) (le_alloc hsz _) ?_; intro v8 w8 hown8 hg8 hz8; have Hb8 : Hid (Below w1.heap.size w1 w8) := Lib.hid (below_ownN (Hb1r.out.alloc hsz _) (Hown.out.alloc _) hg8 (le_alloc hsz _)); clear hg8 hz8)
              go_roundw
              case rel =>
                refine ⟨k + 1, m ++ [⟨vk, vn, vs⟩], by omega, by go_num, by rw [List.length_append, List.length_singleton, hmk], ?_, Hb8.out, E⟩
                rw [List.length_append, List.length_singleton, valCells_app]
                exact hown8
              case measure => simp [intOf]; omega
          · have E : Hid (showT id fs r = none) := Lib.hid (by rw [Es.out]; exact showL_none_take r fs (k + 1) (by rw [Hst.out, List.getElem?_eq_none (by have := Hl'.out; omega)]))
            go_wp2
            go_ret2
            exact shows_none E.out rfl Hb.out
        · obtain rfl : k = n := by omega
          have E : Hid (showT id fs r = some m) := Lib.hid (by rw [Es.out, ← Hm.out, List.take_of_length_le (by have := Hl.out; omega)])
          go_wp2
          go_ret2
          exact shows_some E.out rfl (own_baseN Hown.out Hb1.out.size) Hb.out
    · have E : Hid (showT id fs r = none) := Lib.hid (showT_err (.inr hr))
      obtain ⟨hz1, hz2⟩ := num_ne hr
      clear hr
      go_enter Tryz.func24, Tryz.ntmps24
      go_wp2_with fail
      clear hw1 q0 q1
      refine Hci.out.mono ?_
      rintro e w2 ⟨rfl, hb2⟩
      have Hb2 := Lib.hid (Hb1.out.trans (hb2.mono Hb1.out.size))
      clear hb2
      go_wp2_with fail
      refine (Hcr.out w2 Hb2.out).mono ?_
      rintro e w3 ⟨rfl, hb3⟩
      have Hb3 := Lib.hid (Hb2.out.trans (hb3.mono Hb2.out.size))
      clear hb3
      go_wp2
      go_ret2
      exact shows_none E.out rfl Hb3.out
  · have E : Hid (showT id fs r = none) := Lib.hid (showT_err (.inl hx))
    obtain ⟨hz1, hz2⟩ := num_ne hx
    clear hx
    go_enter Tryz.func24, Tryz.ntmps24
    go_wp2_with fail
    clear hw1 q0 q1
    refine Hci.out.mono ?_
    rintro e w2 ⟨rfl, hb2⟩
    have Hb2 := Lib.hid (Hb1.out.trans (hb2.mono Hb1.out.size))
    clear hb2
    go_wp2
    go_ret2
    exact shows_none E.out rfl Hb2.out

end Go.Proofs.YtheojndkojagdaaGreat
