/- The document's Pack and Unpack of layer 9 give what the plain text (SpecPk) gives. Condition: sixty changes with short texts at most; four thousand bytes at most; in memory. -/
import Derived.Test.YtmbolempigbkdaaPckD
import Derived.Test.YtmbolempigbkdaaPakG
import Derived.Test.YtmbolempigbkdaaPakJ
namespace Go.Proofs.Ytmbolempigbkdaa
open Go.RowKit
open Go.Lib (strCells compareBytes)

theorem bodyL_succ {l : List Chg} {k : Nat} {c : Chg} (h : l[k]? = some c) : bodyL (l.take (k + 1)) = bodyL (l.take k) ++ (textForm c.k.data.toList ++ ([if c.g then 1 else 0] ++ textForm c.v.data.toList)) := by
  rw [take_snocC h, bodyL_app]
  simp [bodyL, chgForm, goneN_one]
theorem own_eqB {w : World} {B m m' : Nat} {v : Value} {xs xs' : List Value} (h : w.ownsRow B 5 1 v m xs) (hm : m = m') (hx : xs = xs') : w.ownsRow B 5 1 v m' xs' := by
  subst hm
  subst hx
  exact h
/-- bytes that the call owns -/
def OwnBs (w : World) (B : Nat) (v : Value) (l : List UInt8) : Prop := w.ownsRow B 5 1 v l.length (byteCells l)
theorem OwnBs.app {w' : World} {B m : Nat} {v : Value} {a b : List UInt8} (h : w'.ownsRow B 5 1 v (a.length + m) (byteCells a ++ byteCells b)) (hm : m = b.length) : OwnBs w' B v (a ++ b) := by
  subst hm
  unfold OwnBs
  rw [List.length_append, byteCells_app]
  exact h
set_option maxRecDepth 100000 in
set_option maxHeartbeats 3200000 in
theorem refPack_any (A : Option Addr) (n ca C : Nat) (l : List Chg) (w : World) (h : HasChs w C A n l) (hC : C ≤ w.heap.size) (hn : n ≤ 60) (hs : ∀ x ∈ l, x.k.size ≤ 4000 ∧ x.v.size ≤ 4000) :
    Calls Try.prog 27 #[.slice A n ca] w (PackPost w.heap.size l w) := by
  have Hw := Lib.hid (refRight_any A n ca C l w h (by unfold maxLen; omega) hC)
  have H := Lib.hid h
  have HC := Lib.hid hC
  have Hs := Lib.hid hs
  have Hl := Lib.hid h.1
  clear h hC hs
  by_cases hr : Run l
  · have Hr := Lib.hid hr
    rw [runB_true hr] at Hw
    clear hr
    have Hbl : Hid (∀ k, (bodyL (l.take k)).length ≤ 540000) := Lib.hid fun k => by
      have h1 := bodyL_le (l := l.take k) fun x hx => Hs.out x (List.mem_of_mem_take hx)
      rw [List.length_take, Hl.out] at h1
      omega
    have Hnl : Hid ((numForm n).length ≤ 9) := Lib.hid (numForm_len9 (by omega))
    go_enter Try.func27, Try.ntmps27
    go_wp2_with fail
    refine Hw.out.mono ?_
    rintro e w1 ⟨rfl, hb1⟩
    have Hb1 := Lib.hid hb1
    clear hb1
    go_wp2_with fail
    refine (refPutNum_any (n : Int) w1 (by omega)).mono ?_
    rintro e w2 ⟨v2, rfl, ho2, hb2⟩
    rw [if_neg (by omega), Int.toNat_natCast] at ho2
    have Ho2 : Hid (OwnBs w2 w.heap.size v2 (numForm n ++ bodyL (l.take 0))) := Lib.hid (by simp [bodyL]; exact own_base ho2 Hb1.out.size)
    have Hb2 := Lib.hid (Hb1.out.trans (hb2.mono Hb1.out.size))
    clear ho2 hb2
    go_wp2
    go_loopw [4, 5] (fun o i wr => ∃ k : Nat, k ≤ n ∧ i = .int .i64 (k : Int) ∧ OwnBs wr w.heap.size o (numForm n ++ bodyL (l.take k)) ∧ Below w.heap.size w wr) (fun _ i _ => n - (intOf i).toNat)
    case atStart => exact ⟨0, by omega, rfl, Ho2.out, Hb2.out⟩
    case round =>
      clear Ho2 Hb2
      obtain ⟨k, hk, rfl, ho, hb⟩ := hrel
      have Ho := Lib.hid ho
      have Hb := Lib.hid hb
      have hsz := hb.size
      clear hb ho
      by_cases hlt : k < n
      · obtain ⟨a, y, rfl, hab, hy, c0, c1, c2⟩ := (H.out.belowOf Hb.out HC.out).at_ hlt
        have Hbs := Lib.hid (bodyL_succ hy)
        have hys := Hs.out y (List.mem_of_getElem? hy)
        have Hy := Lib.hid hy
        have Hlen : Hid ((numForm n ++ bodyL (l.take k)).length ≤ 540009) := Lib.hid (by rw [List.length_append]; have := Hbl.out k; have := Hnl.out; omega)
        clear hy
        obtain ⟨yk, yv, yg⟩ := y
        simp only at c0 c1 c2 hys Hbs
        have hlk := textForm_le (s := yk.data.toList) (by rw [← Lib.size_eq]; exact hys.1)
        have hlv := textForm_le (s := yv.data.toList) (by rw [← Lib.size_eq]; exact hys.2)
        cases yg with
        | false =>
          go_wp2_with fail
          refine (refPutText_any yk wr (by omega)).mono ?_
          rintro e w3 ⟨v3, rfl, o3, b3⟩
          obtain ⟨A3, m3, rfl, -, -, x3⟩ := own_slice o3
          have X3 := Lib.hid x3
          have Ho3 := Lib.hid (own_below Ho.out b3)
          have Hb3 := Lib.hid (Hb.out.trans (b3.mono hsz))
          have hsz3 : w.heap.size ≤ w3.heap.size := Nat.le_trans hsz b3.size
          have Hr3 := Lib.hid (b3.mono hsz)
          clear o3 x3 b3
          have Hpost4 : Hid (∀ v4 w4, w4.ownsRow w.heap.size 5 1 v4 ((numForm n ++ bodyL (l.take k)).length + (textForm yk.data.toList).length) (byteCells (numForm n ++ bodyL (l.take k)) ++ byteCells (textForm yk.data.toList)) → w3.grownBy w4 _ →
              OwnBs w4 w.heap.size v4 ((numForm n ++ bodyL (l.take k)) ++ textForm yk.data.toList) ∧ Below w.heap.size w w4 ∧ w.heap.size ≤ w4.heap.size ∧ w4.cell? ⟨(a.add (k * 3)).block, (a.add (k * 3)).off + 2, none⟩ = some (.bool false) ∧ w4.cell? ⟨(a.add (k * 3)).block, (a.add (k * 3)).off + 1, none⟩ = some (.string yv)) := Lib.hid fun v4 w4 o4 g4 => by
            have hbB : Below w.heap.size w3 w4 := (Below.refl _ _).grown g4 hsz3 fun g e => (Ho3.out.lt g e).1
            exact ⟨OwnBs.app o4 rfl, Hb3.out.trans hbB, (Hb3.out.trans hbB).size, ((Hr3.out.trans hbB).cell (p := ⟨(a.add (k * 3)).block, (a.add (k * 3)).off + 2, none⟩) (by show (a.add (k * 3)).block < _; rw [addr_block]; exact Nat.lt_of_lt_of_le hab HC.out)).trans c2, ((Hr3.out.trans hbB).cell (p := ⟨(a.add (k * 3)).block, (a.add (k * 3)).off + 1, none⟩) (by show (a.add (k * 3)).block < _; rw [addr_block]; exact Nat.lt_of_lt_of_le hab HC.out)).trans c1⟩
          have Hlen4 : Hid (((numForm n ++ bodyL (l.take k)) ++ textForm yk.data.toList).length ≤ 545000) := Lib.hid (by rw [List.length_append]; have := Hlen.out; omega)
          clear c0 c1 c2
          go_wp2_with (first
            | (at_builtin; refine wpList_append_has rfl (.tmp 18) (.tmp 24) _ rfl 5 u8_elem Try.underlying46 rfl Ho3.out rfl X3.out (byteCells_one _) (by have := Hlen.out; simp only [maxLen]; omega) (by have := Hlen.out; omega) hsz3 ?_; intro v4 w4 o4 g4 _; obtain ⟨ho4, hb4, hsz4, hcg, hcv⟩ := Hpost4.out v4 w4 o4 g4; have Ho4 := Lib.hid ho4; have Hb4 := Lib.hid hb4; clear ho4 hb4; have hszL : w.heap.size ≤ (w4.alloc (Obj.cells #[.int .u8 0] 5)).heap.size := (by simp only [World.size_alloc]; omega))
            | (at_builtin; refine wpList_append_has rfl (.tmp 34) (.tmp 35) _ rfl 5 u8_elem Try.underlying46 rfl (own_below Ho4.out (below_box (Obj.cells #[.int .u8 0] 5))) rfl (Has.lit w4 #[.int .u8 0] 5) (fun u hu => by simp at hu; subst hu; rfl) (by have := Hlen4.out; simp only [maxLen]; omega) (by have := Hlen4.out; omega) hszL ?_; intro v5 w5 o5 g5 _; have hbA : Below w.heap.size w4 w5 := ((Below.refl _ w4).alloc hsz4 (Obj.cells #[.int .u8 0] 5)).trans ((Below.refl _ _).grown g5 hszL fun g e => (Ho4.out.lt g e).1); have hcv5 : w5.cell? ⟨(a.add (k * 3)).block, (a.add (k * 3)).off + 1, none⟩ = some (.string yv) := (hbA.cell (p := ⟨(a.add (k * 3)).block, (a.add (k * 3)).off + 1, none⟩) (by show (a.add (k * 3)).block < _; rw [addr_block]; exact Nat.lt_of_lt_of_le hab HC.out)).trans hcv))
          have Ho5 : Hid (OwnBs w5 w.heap.size v5 ((numForm n ++ bodyL (l.take k)) ++ textForm yk.data.toList ++ [0])) := Lib.hid (OwnBs.app (b := [0]) (m := 1) o5 rfl)
          have Hb5 := Lib.hid (Hb4.out.trans hbA)
          have hsz5 : w.heap.size ≤ w5.heap.size := Hb5.out.size
          clear o5 g5 hbA
          refine (refPutText_any yv w5 (by omega)).mono ?_
          rintro e w6 ⟨v6, rfl, o6, b6⟩
          obtain ⟨A6, m6, rfl, -, -, x6⟩ := own_slice o6
          have X6 := Lib.hid x6
          have Ho6 := Lib.hid (own_below Ho5.out b6)
          have Hb6 := Lib.hid (Hb5.out.trans (b6.mono hsz5))
          have hsz6 : w.heap.size ≤ w6.heap.size := Nat.le_trans hsz5 b6.size
          have Hlen6 : Hid (((numForm n ++ bodyL (l.take k)) ++ textForm yk.data.toList ++ [0]).length ≤ 550000) := Lib.hid (by rw [List.length_append]; have := Hlen4.out; simp only [List.length_cons, List.length_nil]; omega)
          clear o6 x6 b6
          go_wp2_with (at_builtin; refine wpList_append_has rfl (.tmp 37) (.tmp 43) _ rfl 5 u8_elem Try.underlying46 rfl Ho6.out rfl X6.out (byteCells_one _) (by have := Hlen6.out; simp only [maxLen]; omega) (by have := Hlen6.out; omega) hsz6 ?_; intro v7 w7 o7 g7 _)
          have Ho7 : Hid (OwnBs w7 w.heap.size v7 (numForm n ++ bodyL (l.take (k + 1)))) := Lib.hid (by
            have h1 := OwnBs.app (a := (numForm n ++ bodyL (l.take k)) ++ textForm yk.data.toList ++ [0]) (b := textForm yv.data.toList) o7 rfl
            rw [Hbs.out]
            simpa [List.append_assoc] using h1)
          have Hb7 := Lib.hid (Hb6.out.trans ((Below.refl _ _).grown g7 hsz6 fun g e => (Ho6.out.lt g e).1))
          clear o7 g7
          go_wp2
          go_roundw
          case rel => exact ⟨k + 1, by omega, by go_num, Ho7.out, Hb7.out⟩
          case measure => simp [intOf]; omega
        | true =>
          go_wp2_with fail
          refine (refPutText_any yk wr (by omega)).mono ?_
          rintro e w3 ⟨v3, rfl, o3, b3⟩
          obtain ⟨A3, m3, rfl, -, -, x3⟩ := own_slice o3
          have X3 := Lib.hid x3
          have Ho3 := Lib.hid (own_below Ho.out b3)
          have Hb3 := Lib.hid (Hb.out.trans (b3.mono hsz))
          have hsz3 : w.heap.size ≤ w3.heap.size := Nat.le_trans hsz b3.size
          have Hr3 := Lib.hid (b3.mono hsz)
          clear o3 x3 b3
          have Hpost4 : Hid (∀ v4 w4, w4.ownsRow w.heap.size 5 1 v4 ((numForm n ++ bodyL (l.take k)).length + (textForm yk.data.toList).length) (byteCells (numForm n ++ bodyL (l.take k)) ++ byteCells (textForm yk.data.toList)) → w3.grownBy w4 _ →
              OwnBs w4 w.heap.size v4 ((numForm n ++ bodyL (l.take k)) ++ textForm yk.data.toList) ∧ Below w.heap.size w w4 ∧ w.heap.size ≤ w4.heap.size ∧ w4.cell? ⟨(a.add (k * 3)).block, (a.add (k * 3)).off + 2, none⟩ = some (.bool true) ∧ w4.cell? ⟨(a.add (k * 3)).block, (a.add (k * 3)).off + 1, none⟩ = some (.string yv)) := Lib.hid fun v4 w4 o4 g4 => by
            have hbB : Below w.heap.size w3 w4 := (Below.refl _ _).grown g4 hsz3 fun g e => (Ho3.out.lt g e).1
            exact ⟨OwnBs.app o4 rfl, Hb3.out.trans hbB, (Hb3.out.trans hbB).size, ((Hr3.out.trans hbB).cell (p := ⟨(a.add (k * 3)).block, (a.add (k * 3)).off + 2, none⟩) (by show (a.add (k * 3)).block < _; rw [addr_block]; exact Nat.lt_of_lt_of_le hab HC.out)).trans c2, ((Hr3.out.trans hbB).cell (p := ⟨(a.add (k * 3)).block, (a.add (k * 3)).off + 1, none⟩) (by show (a.add (k * 3)).block < _; rw [addr_block]; exact Nat.lt_of_lt_of_le hab HC.out)).trans c1⟩
          have Hlen4 : Hid (((numForm n ++ bodyL (l.take k)) ++ textForm yk.data.toList).length ≤ 545000) := Lib.hid (by rw [List.length_append]; have := Hlen.out; omega)
          clear c0 c1 c2
          go_wp2_with (first
            | (at_builtin; refine wpList_append_has rfl (.tmp 18) (.tmp 24) _ rfl 5 u8_elem Try.underlying46 rfl Ho3.out rfl X3.out (byteCells_one _) (by have := Hlen.out; simp only [maxLen]; omega) (by have := Hlen.out; omega) hsz3 ?_; intro v4 w4 o4 g4 _; obtain ⟨ho4, hb4, hsz4, hcg, hcv⟩ := Hpost4.out v4 w4 o4 g4; have Ho4 := Lib.hid ho4; have Hb4 := Lib.hid hb4; clear ho4 hb4; have hszL : w.heap.size ≤ (w4.alloc (Obj.cells #[.int .u8 1] 5)).heap.size := (by simp only [World.size_alloc]; omega))
            | (at_builtin; refine wpList_append_has rfl (.tmp 31) (.tmp 32) _ rfl 5 u8_elem Try.underlying46 rfl (own_below Ho4.out (below_box (Obj.cells #[.int .u8 1] 5))) rfl (Has.lit w4 #[.int .u8 1] 5) (fun u hu => by simp at hu; subst hu; rfl) (by have := Hlen4.out; simp only [maxLen]; omega) (by have := Hlen4.out; omega) hszL ?_; intro v5 w5 o5 g5 _; have hbA : Below w.heap.size w4 w5 := ((Below.refl _ w4).alloc hsz4 (Obj.cells #[.int .u8 1] 5)).trans ((Below.refl _ _).grown g5 hszL fun g e => (Ho4.out.lt g e).1); have hcv5 : w5.cell? ⟨(a.add (k * 3)).block, (a.add (k * 3)).off + 1, none⟩ = some (.string yv) := (hbA.cell (p := ⟨(a.add (k * 3)).block, (a.add (k * 3)).off + 1, none⟩) (by show (a.add (k * 3)).block < _; rw [addr_block]; exact Nat.lt_of_lt_of_le hab HC.out)).trans hcv))
          have Ho5 : Hid (OwnBs w5 w.heap.size v5 ((numForm n ++ bodyL (l.take k)) ++ textForm yk.data.toList ++ [1])) := Lib.hid (OwnBs.app (b := [1]) (m := 1) o5 rfl)
          have Hb5 := Lib.hid (Hb4.out.trans hbA)
          have hsz5 : w.heap.size ≤ w5.heap.size := Hb5.out.size
          clear o5 g5 hbA
          refine (refPutText_any yv w5 (by omega)).mono ?_
          rintro e w6 ⟨v6, rfl, o6, b6⟩
          obtain ⟨A6, m6, rfl, -, -, x6⟩ := own_slice o6
          have X6 := Lib.hid x6
          have Ho6 := Lib.hid (own_below Ho5.out b6)
          have Hb6 := Lib.hid (Hb5.out.trans (b6.mono hsz5))
          have hsz6 : w.heap.size ≤ w6.heap.size := Nat.le_trans hsz5 b6.size
          have Hlen6 : Hid (((numForm n ++ bodyL (l.take k)) ++ textForm yk.data.toList ++ [1]).length ≤ 550000) := Lib.hid (by rw [List.length_append]; have := Hlen4.out; simp only [List.length_cons, List.length_nil]; omega)
          clear o6 x6 b6
          go_wp2_with (at_builtin; refine wpList_append_has rfl (.tmp 37) (.tmp 43) _ rfl 5 u8_elem Try.underlying46 rfl Ho6.out rfl X6.out (byteCells_one _) (by have := Hlen6.out; simp only [maxLen]; omega) (by have := Hlen6.out; omega) hsz6 ?_; intro v7 w7 o7 g7 _)
          have Ho7 : Hid (OwnBs w7 w.heap.size v7 (numForm n ++ bodyL (l.take (k + 1)))) := Lib.hid (by
            have h1 := OwnBs.app (a := (numForm n ++ bodyL (l.take k)) ++ textForm yk.data.toList ++ [1]) (b := textForm yv.data.toList) o7 rfl
            rw [Hbs.out]
            simpa [List.append_assoc] using h1)
          have Hb7 := Lib.hid (Hb6.out.trans ((Below.refl _ _).grown g7 hsz6 fun g e => (Ho6.out.lt g e).1))
          clear o7 g7
          go_wp2
          go_roundw
          case rel => exact ⟨k + 1, by omega, by go_num, Ho7.out, Hb7.out⟩
          case measure => simp [intOf]; omega
      · obtain rfl : k = n := by omega
        have E : Hid (l.take k = l) := Lib.hid (List.take_of_length_le (by have := Hl.out; omega))
        have HE : Hid (numForm k ++ bodyL (l.take k) = packL l) := Lib.hid (by rw [E.out]; unfold packL; rw [Hl.out])
        rw [HE.out] at Ho
        go_wp2
        go_ret2
        exact ⟨Hb.out, .inl ⟨Hr.out, _, rfl, Ho.out⟩⟩
  · have Hr := Lib.hid hr
    rw [runB_false hr] at Hw
    clear hr
    go_enter Try.func27, Try.ntmps27
    go_wp2_with fail
    refine Hw.out.mono ?_
    rintro e w1 ⟨rfl, hb1⟩
    have Hb1 := Lib.hid hb1
    clear hb1
    go_wp2
    go_ret2
    exact ⟨Hb1.out, .inr ⟨Hr.out, rfl⟩⟩
end Go.Proofs.Ytmbolempigbkdaa
