/- Shows of the program gives what the plain text (SpecRec) gives. Condition: the record and the numbers are in memory. -/
import Derived.Test.YtknfjajmnlpfjaaGreatRecD
import Derived.Test.YtknfjajmnlpfjaaGreatBoxes
import Derived.Test.YtknfjajmnlpfjaaGreatClone
namespace Go.Proofs.YtknfjajmnlpfjaaGreat
open Go.RowKit
open Go.Lib (strCells compareBytes)

/-- what is shown, in a row of the call's own -/
def ShowsPost (o : Option (List TVal)) (w : World) (e : Ending) (w' : World) : Prop :=
  match o with
  | none => e = .returned (.tuple #[.slice none 0 0, .bool false]) ∧ Below w.heap.size w w'
  | some l => ∃ v, e = .returned (.tuple #[v, .bool true]) ∧ w'.ownsRow w.heap.size 53 3 v l.length (valCells l) ∧ Below w.heap.size w w'
theorem shows_none {o : Option (List TVal)} {w w' : World} {e : Ending} (h : o = none) (he : e = .returned (.tuple #[.slice none 0 0, .bool false])) (hb : Below w.heap.size w w') : ShowsPost o w e w' := by
  subst h
  exact ⟨he, hb⟩
theorem shows_some {o : Option (List TVal)} {l : List TVal} {w w' : World} {e : Ending} {v : Value} (h : o = some l) (he : e = .returned (.tuple #[v, .bool true])) (ho : w'.ownsRow w.heap.size 53 3 v l.length (valCells l)) (hb : Below w.heap.size w w') : ShowsPost o w e w' := by
  subst h
  exact ⟨v, he, ho, hb⟩
theorem showT_err {id : Int} {fs : List Int} {r : List TVal} (h : idxErr id fs ≠ 0 ∨ recErr r ≠ 0) : showT id fs r = none := by
  unfold showT
  rw [if_neg (by omega)]
theorem showT_ok {id : Int} {fs : List Int} {r : List TVal} (h : idxErr id fs = 0) (h' : recErr r = 0) : showT id fs r = showL r fs := by
  unfold showT
  rw [if_pos ⟨h, h'⟩]
theorem num_ne {e : Nat} (h : e ≠ 0) : ((e : Int) == 0) = false ∧ ((e : Int) != 0) = true := by
  constructor <;> simp <;> omega
theorem firstI_two (x y : Nat) : (x = 0 ∧ y = 0) ∨ ∃ z : Nat, z ≠ 0 ∧ firstI [(x : Int), (y : Int)] = (z : Int) ∧ (x ≠ 0 ∨ y ≠ 0) := by
  by_cases hx : x = 0
  · by_cases hy : y = 0
    · exact .inl ⟨hx, hy⟩
    · refine .inr ⟨y, hy, ?_, .inr hy⟩
      simp [firstI, hx]
      omega
  · refine .inr ⟨x, hx, ?_, .inl hx⟩
    simp [firstI]
    omega

theorem recErr_ok {r : List TVal} (h : recErr r = 0) : rowErr r = 0 := by
  unfold recErr at h
  split at h
  · omega
  · exact h
theorem good_size {v : TVal} (h : goodV v = true) : v.s.size ≤ 32 := by
  rw [goodV_iff] at h
  rw [Lib.size_eq]
  unfold TVal.t at h
  rcases h with ⟨_, _, h⟩ | ⟨_, h⟩ | ⟨_, _, h⟩
  · rw [h]; simp
  · rw [h]; simp
  · exact h

set_option maxHeartbeats 1600000 in
set_option maxRecDepth 100000 in
theorem shows_any (id : Int) (A A' : Option Addr) (n c n' c' B : Nat) (fs : List Int) (r : List TVal) (w : World) (h : HasInts w B A n fs) (h' : HasVals w B A' n' r) (hn : n ≤ maxLen) (hn' : n' ≤ maxLen) (hw : B ≤ w.heap.size)
    (hi : ∀ u ∈ r, InI64 u.n) :
    Calls Tryz.prog 37 #[.agg #[.int .i64 id, .slice A n c], .slice A' n' c'] w (ShowsPost (showT id fs r) w) := by
  have H := Lib.hid h
  have H' := Lib.hid h'
  have Hi := Lib.hid hi
  clear h h' hi
  have Hl := Lib.hid H.out.1
  have Hl' := Lib.hid H'.out.1
  obtain ⟨w1, hw1⟩ : ∃ w1, w.alloc (.cells #[.int .i64 id, .slice A n c] 74) = w1 := ⟨_, rfl⟩
  have Hb1 : Hid (Below w.heap.size w w1) := Lib.hid (by rw [← hw1]; exact below_box _)
  have hz1 : w1.heap.size = w.heap.size + 1 := by rw [← hw1]; simp
  have Hz1 := Lib.hid hz1
  have Hbox : Hid (∀ wx, Below w1.heap.size w1 wx → wx.cell? ⟨w.heap.size, 0, none⟩ = some (.int .i64 id) ∧ wx.cell? ⟨w.heap.size, 1, none⟩ = some (.slice A n c)) := Lib.hid (by
    subst hw1
    exact fun wx hx => box2 hx)
  obtain ⟨q0, q1⟩ := Hbox.out w1 (Below.refl _ _)
  clear hz1
  go_enter Tryz.func37, Tryz.ntmps37
  go_wp2_with fail
  clear hw1 q0 q1
  refine (checkIndex_any id A n c B fs w1 (H.out.belowOf Hb1.out hw) hn (Nat.le_trans hw Hb1.out.size)).mono ?_
  rintro e w2 ⟨rfl, hb2⟩
  have Hb12 := Lib.hid hb2
  have Hb2 := Lib.hid (Hb1.out.trans (hb2.mono Hb1.out.size))
  clear hb2
  go_wp2_with fail
  refine (recCheck_any A' n' c' B r w2 (H'.out.belowOf Hb2.out hw) hn' (Nat.le_trans hw Hb2.out.size) Hi.out).mono ?_
  rintro e w3 ⟨rfl, hb3⟩
  have Hb13 := Lib.hid (Hb12.out.trans (hb3.mono Hb12.out.size))
  have Hb3 := Lib.hid (Hb2.out.trans (hb3.mono Hb2.out.size))
  clear hb3
  rcases firstI_two (idxErr id fs) (recErr r) with ⟨hx, hr⟩ | ⟨z, hz, hf, hor⟩
  · have Ei := Lib.hid hx
    have Er := Lib.hid hr
    have Es := Lib.hid (showT_ok hx hr)
    rw [hx, hr]
    clear hx hr
    go_wp2_with fail
    refine (first_lit _ #[.int .i64 0, .int .i64 0] _ [0, 0] 2 2 0 rfl rfl (by omega) rfl).mono ?_
    rintro e w4 ⟨rfl, rfl⟩
    have Hb14 := Lib.hid (Hb13.out.alloc Hb13.out.size (.cells #[.int .i64 0, .int .i64 0] 30))
    have Hb4 := Lib.hid (Hb3.out.alloc Hb3.out.size (.cells #[.int .i64 0, .int .i64 0] 30))
    obtain ⟨w4, hw4⟩ : ∃ w4, w3.alloc (.cells #[.int .i64 0, .int .i64 0] 30) = w4 := ⟨_, rfl⟩
    rw [hw4] at Hb14 Hb4 ⊢
    clear hw4
    obtain ⟨q0, q1⟩ := Hbox.out w4 Hb14.out
    go_wp2
    clear q0 q1
    have Hin := Lib.hid (okFs_in (idxErr_ok Ei.out).2.2.2)
    have hn2 : n ≤ 2 := by have := (idxErr_ok Ei.out).2.2.1; have := Hl.out; omega
    go_loopw [6, 8, 9, 20] (fun lv _ _ i wr => ∃ (k : Nat) (m : List TVal), k ≤ n ∧ i = .int .i64 (k : Int) ∧ m.length = k ∧ wr.ownsRow w.heap.size 53 3 lv m.length (valCells m) ∧ Below w.heap.size w wr ∧ Hid (showL r (fs.take k) = some m)) (fun _ _ _ i _ => n - (intOf i).toNat)
    case atStart => exact ⟨0, [], by omega, rfl, rfl, World.ownsRow_nil _ _ _ _, Hb4.out, Lib.hid rfl⟩
    case round =>
      obtain ⟨k, m, hk, rfl, hmk, hown, hb, Hm⟩ := hrel
      have hsz := hb.size
      have Hown := Lib.hid hown
      have Hb := Lib.hid hb
      clear hb hown
      by_cases hlt : k < n
      · have H1 := Lib.hid (H.out.belowOf Hb.out hw)
        obtain ⟨a, x, rfl, _, hx, hc⟩ := H1.out.at_ hlt
        have hxr := Hin.out x (List.mem_of_getElem? hx)
        obtain ⟨j, rfl⟩ : ∃ j : Nat, x = (j : Int) := ⟨x.toNat, by omega⟩
        have hst := showL_take r hx Hm.out
        rw [Int.toNat_natCast] at hst
        have Hst := Lib.hid hst
        clear hx hst
        have hj0 : (0 : Int) ≤ (j : Int) := by omega
        by_cases hj : j < n'
        · have H1' := Lib.hid (H'.out.belowOf Hb.out hw)
          obtain ⟨a', v, rfl, _, hv, c0, c1, c2⟩ := H1'.out.at_ hj
          have hvs := good_size ((rowErr_ok.1 (recErr_ok Er.out)).2 v (List.mem_of_getElem? hv))
          have Hst2 : Hid (showL r (fs.take (k + 1)) = if v.k = 0 then none else some (m ++ [v])) := Lib.hid (by rw [Hst.out, hv])
          clear Hst hv
          obtain ⟨vk, vn, vs⟩ := v
          simp only at Hst2 c0 c1 c2 hvs
          cases hk0 : vk == 0 with
          | true =>
            have E : Hid (showT id fs r = none) := Lib.hid (by rw [Es.out]; exact showL_none_take r fs (k + 1) (by rw [Hst2.out, if_pos (by simpa using hk0)]))
            go_wp2_with fail
            refine (isNull_any _ _ _ _).mono ?_
            rintro e w5 ⟨rfl, hb5⟩
            have Hb5 := Lib.hid (Hb.out.trans (hb5.mono hsz))
            clear hb5
            go_wp2
            go_ret2
            exact shows_none E.out rfl Hb5.out
          | false =>
            have E : Hid (showL r (fs.take (k + 1)) = some (m ++ [⟨vk, vn, vs⟩])) := Lib.hid (by rw [Hst2.out, if_neg (by simpa using hk0)])
            go_wp2_with fail
            refine (isNull_any _ _ _ _).mono ?_
            rintro e w5 ⟨rfl, hb5⟩
            have Hb5 := Lib.hid (Hb.out.trans (hb5.mono hsz))
            have Hown5 := Lib.hid (own_belowN Hown.out hb5)
            have hz5 := hb5.size
            have d0 := (hb5.cell (World.block_lt_of_cell? wr _ c0)).trans c0
            have d1 := (hb5.cell (World.block_lt_of_cell? wr _ c1)).trans c1
            have d2 := (hb5.cell (World.block_lt_of_cell? wr _ c2)).trans c2
            clear hb5 c0 c1 c2
            obtain ⟨g, hg⟩ : ∃ g, w5.heap.size = g := ⟨_, rfl⟩
            go_wp2_with fail
            obtain ⟨W3, hW3⟩ : ∃ W3, w5.alloc (.cells #[.int .i64 vk, .int .i64 vn, .string vs] 53) = W3 := ⟨_, rfl⟩
            have hbx3 : Box W3 g 53 #[.int .i64 vk, .int .i64 vn, .string vs] := by
              rw [← hW3, ← hg]
              exact Box.made _ _ _
            have hb3 : Below w5.heap.size w5 W3 := by
              rw [← hW3]
              exact below_box _
            have hz3 : W3.heap.size = g + 1 := by rw [← hW3]; simp [hg]
            rw [hW3]
            clear hW3
            refine (clone_any vs W3 (by omega)).mono ?_
            rintro e w6 ⟨rfl, hb6⟩
            have hbx6 := hbx3.below hb6 (by omega)
            obtain ⟨s0, s1, s2, f2⟩ : w6.cell? ⟨g, 0, none⟩ = some (.int .i64 vk) ∧ w6.cell? ⟨g, 1, none⟩ = some (.int .i64 vn) ∧ w6.cell? ⟨g, 2, none⟩ = some (.string vs) ∧ w6.frozen? ⟨g, 2, none⟩ = false := ⟨hbx6.cell 0, hbx6.cell 1, hbx6.cell 2, hbx6.frozen 2⟩
            obtain ⟨W7, hW7⟩ : ∃ W7, w6.setCell ⟨g, 2, none⟩ (.string vs) = W7 := ⟨_, rfl⟩
            have hbx7 : Box W7 g 53 #[.int .i64 vk, .int .i64 vn, .string vs] := by
              rw [← hW7]
              exact hbx6.set_ 2 _
            obtain ⟨p0, p1, p2⟩ : W7.cell? ⟨g, 0, none⟩ = some (.int .i64 vk) ∧ W7.cell? ⟨g, 1, none⟩ = some (.int .i64 vn) ∧ W7.cell? ⟨g, 2, none⟩ = some (.string vs) := ⟨hbx7.cell 0, hbx7.cell 1, hbx7.cell 2⟩
            have hb57 : Below w5.heap.size w5 W7 := by
              rw [← hW7]
              exact (hb3.trans (hb6.mono (by omega))).setCell (by rw [hg]; exact Nat.le_refl g) _
            have Hown7 := Lib.hid (own_belowN Hown5.out hb57)
            have Hb7 := Lib.hid (Hb5.out.trans (hb57.mono (Nat.le_trans hsz hz5)))
            have hB7 := Hb7.out.size
            clear hbx3 hb3 hz3 hb6 hbx6 hbx7 hb57 d0 d1 d2
            go_wp2_with (at_builtin; refine wpList_append_hasN rfl (.tmp 43) (.tmp 45) _ rfl 53 val_elem (by omega) Tryz.underlying31 rfl (Hown7.out.alloc _) rfl (vals_lit W7 vk vn vs) (valCells_one _) (by simp only [maxLen]; omega) (by omega) (le_alloc hB7 _) ?_; intro v8 w8 hown8 hg8 hz8; have Hb8 : Hid (Below w.heap.size w w8) := Lib.hid (below_ownN (Hb7.out.alloc hB7 _) (Hown7.out.alloc _) hg8 (le_alloc hB7 _)); clear hg8 hz8)
            go_roundw
            case rel =>
              refine ⟨k + 1, m ++ [⟨vk, vn, vs⟩], by omega, by go_num, by rw [List.length_append, List.length_singleton, hmk], ?_, Hb8.out, E⟩
              rw [List.length_append, List.length_singleton, valCells_app]
              exact hown8
            case measure => simp [intOf]; omega
        · have E : Hid (showT id fs r = none) := Lib.hid (by rw [Es.out]; exact showL_none_take r fs (k + 1) (by rw [Hst.out, List.getElem?_eq_none (by have := Hl'.out; omega)]))
          go_wp2
          go_ret2
          exact shows_none E.out rfl Hb.out
      · obtain rfl : k = n := by omega
        have E : Hid (showT id fs r = some m) := Lib.hid (by rw [Es.out, ← Hm.out, List.take_of_length_le (by have := Hl.out; omega)])
        go_wp2
        go_ret2
        exact shows_some E.out rfl Hown.out Hb.out
  · have E : Hid (showT id fs r = none) := Lib.hid (showT_err hor)
    obtain ⟨hz1, hz2⟩ := num_ne hz
    clear hor hz
    go_wp2_with fail
    refine (first_lit _ #[.int .i64 (idxErr id fs : Int), .int .i64 (recErr r : Int)] _ [(idxErr id fs : Int), (recErr r : Int)] 2 2 z rfl rfl (by omega) hf).mono ?_
    rintro e w4 ⟨rfl, rfl⟩
    have Hb4 := Lib.hid (Hb3.out.alloc Hb3.out.size (.cells #[.int .i64 (idxErr id fs : Int), .int .i64 (recErr r : Int)] 30))
    clear hf
    go_wp2
    go_ret2
    exact shows_none E.out rfl Hb4.out

end Go.Proofs.YtknfjajmnlpfjaaGreat
