/- EngineCursors: a cursor goes over the pairs as they stood when it was made. No condition. -/
import Derived.Test.YteioopcacpihpaaMExD
import Derived.Test.YteioopcacpihpaaMExG
import Derived.Test.YteioopcacpihpaaMExJ
import Derived.Test.YteioopcacpihpaaMExA
import Derived.Test.YteioopcacpihpaaMExC
import Derived.Deep.RegionHeld3
import Derived.Test.YteioopcacpihpaaMExB
import Derived.Test.YteioopcacpihpaaMBchB
import Derived.Deep.RegionWith
import Derived.Test.YteioopcacpihpaaMBchD
import Derived.Test.YteioopcacpihpaaMBchC
import Derived.Test.YteioopcacpihpaaMExO
namespace Go.Proofs.Yteioopcacpihpaa
open Go.RowKit
open Go.Lib (strCells compareBytes)

theorem bodyL_succ {l : List Chg} {k : Nat} {c : Chg} (h : l[k]? = some c) : bodyL (l.take (k + 1)) = bodyL (l.take k) ++ (textForm c.k.data.toList ++ ([if c.g then 1 else 0] ++ textForm c.v.data.toList)) := by
  rw [take_snocC h, bodyL_app]
  simp [bodyL, chgForm, goneN_one]
theorem own_eqB {w : World} {B m m' : Nat} {v : Value} {xs xs' : List Value} (h : w.ownsRow B 5 1 v m xs) (hm : m = m') (hx : xs = xs') : w.ownsRow B 5 1 v m' xs' := by
  subst hm
  subst hx
  exact h
/-- bytes that the call owns -/
def OwnBs (w : World) (B : Nat) (v : Value) (l : List UInt8) : Prop := w.ownsRow B 5 1 v l.length (byteCells l)
theorem OwnBs.app {w' : World} {B m : Nat} {v : Value} {a b : List UInt8} (h : w'.ownsRow B 5 1 v (a.length + m) (byteCells a ++ byteCells b)) (hm : m = b.length) : OwnBs w' B v (a ++ b) := by
  subst hm
  unfold OwnBs
  rw [List.length_append, byteCells_app]
  exact h
set_option maxRecDepth 100000 in
set_option maxHeartbeats 3200000 in
theorem refPack_any (A : Option Addr) (n ca C : Nat) (l : List Chg) (w : World) (h : HasChs w C A n l) (hC : C ≤ w.heap.size) (hn : n ≤ 1200) (hs : ∀ x ∈ l, x.k.size ≤ 4000 ∧ x.v.size ≤ 4000) :
    Calls Try.prog 64 #[.slice A n ca] w (PackPost w.heap.size l w) := by
  have Hw := Lib.hid (refRight_any A n ca C l w h (by unfold maxLen; omega) hC)
  have H := Lib.hid h
  have HC := Lib.hid hC
  have Hs := Lib.hid hs
  have Hl := Lib.hid h.1
  clear h hC hs
  by_cases hr : Run l
  · have Hr := Lib.hid hr
    rw [runB_true hr] at Hw
    clear hr
    have Hbl : Hid (∀ k, (bodyL (l.take k)).length ≤ 10800000) := Lib.hid fun k => by
      have h1 := bodyL_le (l := l.take k) fun x hx => Hs.out x (List.mem_of_mem_take hx)
      rw [List.length_take, Hl.out] at h1
      omega
    have Hnl : Hid ((numForm n).length ≤ 9) := Lib.hid (numForm_len9 (by omega))
    go_enter Try.func64, Try.ntmps64
    go_wp2_with fail
    refine Hw.out.mono ?_
    rintro e w1 ⟨rfl, hb1⟩
    have Hb1 := Lib.hid hb1
    clear hb1
    go_wp2_with fail
    refine (refPutNum_any (n : Int) w1 (by omega)).mono ?_
    rintro e w2 ⟨v2, rfl, ho2, hb2⟩
    rw [if_neg (by omega), Int.toNat_natCast] at ho2
    have Ho2 : Hid (OwnBs w2 w.heap.size v2 (numForm n ++ bodyL (l.take 0))) := Lib.hid (by simp [bodyL]; exact own_base ho2 Hb1.out.size)
    have Hb2 := Lib.hid (Hb1.out.trans (hb2.mono Hb1.out.size))
    clear ho2 hb2
    go_wp2
    go_loopw [4, 5] (fun o i wr => ∃ k : Nat, k ≤ n ∧ i = .int .i64 (k : Int) ∧ OwnBs wr w.heap.size o (numForm n ++ bodyL (l.take k)) ∧ Below w.heap.size w wr) (fun _ i _ => n - (intOf i).toNat)
    case atStart => exact ⟨0, by omega, rfl, Ho2.out, Hb2.out⟩
    case round =>
      clear Ho2 Hb2
      obtain ⟨k, hk, rfl, ho, hb⟩ := hrel
      have Ho := Lib.hid ho
      have Hb := Lib.hid hb
      have hsz := hb.size
      clear hb ho
      by_cases hlt : k < n
      · obtain ⟨a, y, rfl, hab, hy, c0, c1, c2⟩ := (H.out.belowOf Hb.out HC.out).at_ hlt
        have Hbs := Lib.hid (bodyL_succ hy)
        have hys := Hs.out y (List.mem_of_getElem? hy)
        have Hy := Lib.hid hy
        have Hlen : Hid ((numForm n ++ bodyL (l.take k)).length ≤ 10800009) := Lib.hid (by rw [List.length_append]; have := Hbl.out k; have := Hnl.out; omega)
        clear hy
        obtain ⟨yk, yv, yg⟩ := y
        simp only at c0 c1 c2 hys Hbs
        have hlk := textForm_le (s := yk.data.toList) (by rw [← Lib.size_eq]; exact hys.1)
        have hlv := textForm_le (s := yv.data.toList) (by rw [← Lib.size_eq]; exact hys.2)
        cases yg with
        | false =>
          go_wp2_with fail
          refine (refPutText_any yk wr (by omega)).mono ?_
          rintro e w3 ⟨v3, rfl, o3, b3⟩
          obtain ⟨A3, m3, rfl, -, -, x3⟩ := own_slice o3
          have X3 := Lib.hid x3
          have Ho3 := Lib.hid (own_below Ho.out b3)
          have Hb3 := Lib.hid (Hb.out.trans (b3.mono hsz))
          have hsz3 : w.heap.size ≤ w3.heap.size := Nat.le_trans hsz b3.size
          have Hr3 := Lib.hid (b3.mono hsz)
          clear o3 x3 b3
          have Hpost4 : Hid (∀ v4 w4, w4.ownsRow w.heap.size 5 1 v4 ((numForm n ++ bodyL (l.take k)).length + (textForm yk.data.toList).length) (byteCells (numForm n ++ bodyL (l.take k)) ++ byteCells (textForm yk.data.toList)) → w3.grownBy w4 _ →
              OwnBs w4 w.heap.size v4 ((numForm n ++ bodyL (l.take k)) ++ textForm yk.data.toList) ∧ Below w.heap.size w w4 ∧ w.heap.size ≤ w4.heap.size ∧ w4.cell? ⟨(a.add (k * 3)).block, (a.add (k * 3)).off + 2, none⟩ = some (.bool false) ∧ w4.cell? ⟨(a.add (k * 3)).block, (a.add (k * 3)).off + 1, none⟩ = some (.string yv)) := Lib.hid fun v4 w4 o4 g4 => by
            have hbB : Below w.heap.size w3 w4 := (Below.refl _ _).grown g4 hsz3 fun g e => (Ho3.out.lt g e).1
            exact ⟨OwnBs.app o4 rfl, Hb3.out.trans hbB, (Hb3.out.trans hbB).size, ((Hr3.out.trans hbB).cell (p := ⟨(a.add (k * 3)).block, (a.add (k * 3)).off + 2, none⟩) (by show (a.add (k * 3)).block < _; rw [addr_block]; exact Nat.lt_of_lt_of_le hab HC.out)).trans c2, ((Hr3.out.trans hbB).cell (p := ⟨(a.add (k * 3)).block, (a.add (k * 3)).off + 1, none⟩) (by show (a.add (k * 3)).block < _; rw [addr_block]; exact Nat.lt_of_lt_of_le hab HC.out)).trans c1⟩
          have Hlen4 : Hid (((numForm n ++ bodyL (l.take k)) ++ textForm yk.data.toList).length ≤ 10805000) := Lib.hid (by rw [List.length_append]; have := Hlen.out; omega)
          clear c0 c1 c2
          go_wp2_with (first
            | (at_builtin; refine wpList_append_has rfl (.tmp 18) (.tmp 24) _ rfl 5 u8_elem Try.underlying63 rfl Ho3.out rfl X3.out (byteCells_one _) (by have := Hlen.out; simp only [maxLen]; omega) (by have := Hlen.out; omega) hsz3 ?_; intro v4 w4 o4 g4 _; obtain ⟨ho4, hb4, hsz4, hcg, hcv⟩ := Hpost4.out v4 w4 o4 g4; have Ho4 := Lib.hid ho4; have Hb4 := Lib.hid hb4; clear ho4 hb4; have hszL : w.heap.size ≤ (w4.alloc (Obj.cells #[.int .u8 0] 5)).heap.size := (by simp only [World.size_alloc]; omega))
            | (at_builtin; refine wpList_append_has rfl (.tmp 34) (.tmp 35) _ rfl 5 u8_elem Try.underlying63 rfl (own_below Ho4.out (below_box (Obj.cells #[.int .u8 0] 5))) rfl (Has.lit w4 #[.int .u8 0] 5) (fun u hu => by simp at hu; subst hu; rfl) (by have := Hlen4.out; simp only [maxLen]; omega) (by have := Hlen4.out; omega) hszL ?_; intro v5 w5 o5 g5 _; have hbA : Below w.heap.size w4 w5 := ((Below.refl _ w4).alloc hsz4 (Obj.cells #[.int .u8 0] 5)).trans ((Below.refl _ _).grown g5 hszL fun g e => (Ho4.out.lt g e).1); have hcv5 : w5.cell? ⟨(a.add (k * 3)).block, (a.add (k * 3)).off + 1, none⟩ = some (.string yv) := (hbA.cell (p := ⟨(a.add (k * 3)).block, (a.add (k * 3)).off + 1, none⟩) (by show (a.add (k * 3)).block < _; rw [addr_block]; exact Nat.lt_of_lt_of_le hab HC.out)).trans hcv))
          have Ho5 : Hid (OwnBs w5 w.heap.size v5 ((numForm n ++ bodyL (l.take k)) ++ textForm yk.data.toList ++ [0])) := Lib.hid (OwnBs.app (b := [0]) (m := 1) o5 rfl)
          have Hb5 := Lib.hid (Hb4.out.trans hbA)
          have hsz5 : w.heap.size ≤ w5.heap.size := Hb5.out.size
          clear o5 g5 hbA
          refine (refPutText_any yv w5 (by omega)).mono ?_
          rintro e w6 ⟨v6, rfl, o6, b6⟩
          obtain ⟨A6, m6, rfl, -, -, x6⟩ := own_slice o6
          have X6 := Lib.hid x6
          have Ho6 := Lib.hid (own_below Ho5.out b6)
          have Hb6 := Lib.hid (Hb5.out.trans (b6.mono hsz5))
          have hsz6 : w.heap.size ≤ w6.heap.size := Nat.le_trans hsz5 b6.size
          have Hlen6 : Hid (((numForm n ++ bodyL (l.take k)) ++ textForm yk.data.toList ++ [0]).length ≤ 10810000) := Lib.hid (by rw [List.length_append]; have := Hlen4.out; simp only [List.length_cons, List.length_nil]; omega)
          clear o6 x6 b6
          go_wp2_with (at_builtin; refine wpList_append_has rfl (.tmp 37) (.tmp 43) _ rfl 5 u8_elem Try.underlying63 rfl Ho6.out rfl X6.out (byteCells_one _) (by have := Hlen6.out; simp only [maxLen]; omega) (by have := Hlen6.out; omega) hsz6 ?_; intro v7 w7 o7 g7 _)
          have Ho7 : Hid (OwnBs w7 w.heap.size v7 (numForm n ++ bodyL (l.take (k + 1)))) := Lib.hid (by
            have h1 := OwnBs.app (a := (numForm n ++ bodyL (l.take k)) ++ textForm yk.data.toList ++ [0]) (b := textForm yv.data.toList) o7 rfl
            rw [Hbs.out]
            simpa [List.append_assoc] using h1)
          have Hb7 := Lib.hid (Hb6.out.trans ((Below.refl _ _).grown g7 hsz6 fun g e => (Ho6.out.lt g e).1))
          clear o7 g7
          go_wp2
          go_roundw
          case rel => exact ⟨k + 1, by omega, by go_num, Ho7.out, Hb7.out⟩
          case measure => simp [intOf]; omega
        | true =>
          go_wp2_with fail
          refine (refPutText_any yk wr (by omega)).mono ?_
          rintro e w3 ⟨v3, rfl, o3, b3⟩
          obtain ⟨A3, m3, rfl, -, -, x3⟩ := own_slice o3
          have X3 := Lib.hid x3
          have Ho3 := Lib.hid (own_below Ho.out b3)
          have Hb3 := Lib.hid (Hb.out.trans (b3.mono hsz))
          have hsz3 : w.heap.size ≤ w3.heap.size := Nat.le_trans hsz b3.size
          have Hr3 := Lib.hid (b3.mono hsz)
          clear o3 x3 b3
          have Hpost4 : Hid (∀ v4 w4, w4.ownsRow w.heap.size 5 1 v4 ((numForm n ++ bodyL (l.take k)).length + (textForm yk.data.toList).length) (byteCells (numForm n ++ bodyL (l.take k)) ++ byteCells (textForm yk.data.toList)) → w3.grownBy w4 _ →
              OwnBs w4 w.heap.size v4 ((numForm n ++ bodyL (l.take k)) ++ textForm yk.data.toList) ∧ Below w.heap.size w w4 ∧ w.heap.size ≤ w4.heap.size ∧ w4.cell? ⟨(a.add (k * 3)).block, (a.add (k * 3)).off + 2, none⟩ = some (.bool true) ∧ w4.cell? ⟨(a.add (k * 3)).block, (a.add (k * 3)).off + 1, none⟩ = some (.string yv)) := Lib.hid fun v4 w4 o4 g4 => by
            have hbB : Below w.heap.size w3 w4 := (Below.refl _ _).grown g4 hsz3 fun g e => (Ho3.out.lt g e).1
            exact ⟨OwnBs.app o4 rfl, Hb3.out.trans hbB, (Hb3.out.trans hbB).size, ((Hr3.out.trans hbB).cell (p := ⟨(a.add (k * 3)).block, (a.add (k * 3)).off + 2, none⟩) (by show (a.add (k * 3)).block < _; rw [addr_block]; exact Nat.lt_of_lt_of_le hab HC.out)).trans c2, ((Hr3.out.trans hbB).cell (p := ⟨(a.add (k * 3)).block, (a.add (k * 3)).off + 1, none⟩) (by show (a.add (k * 3)).block < _; rw [addr_block]; exact Nat.lt_of_lt_of_le hab HC.out)).trans c1⟩
          have Hlen4 : Hid (((numForm n ++ bodyL (l.take k)) ++ textForm yk.data.toList).length ≤ 10805000) := Lib.hid (by rw [List.length_append]; have := Hlen.out; omega)
          clear c0 c1 c2
          go_wp2_with (first
            | (at_builtin; refine wpList_append_has rfl (.tmp 18) (.tmp 24) _ rfl 5 u8_elem Try.underlying63 rfl Ho3.out rfl X3.out (byteCells_one _) (by have := Hlen.out; simp only [maxLen]; omega) (by have := Hlen.out; omega) hsz3 ?_; intro v4 w4 o4 g4 _; obtain ⟨ho4, hb4, hsz4, hcg, hcv⟩ := Hpost4.out v4 w4 o4 g4; have Ho4 := Lib.hid ho4; have Hb4 := Lib.hid hb4; clear ho4 hb4; have hszL : w.heap.size ≤ (w4.alloc (Obj.cells #[.int .u8 1] 5)).heap.size := (by simp only [World.size_alloc]; omega))
            | (at_builtin; refine wpList_append_has rfl (.tmp 31) (.tmp 32) _ rfl 5 u8_elem Try.underlying63 rfl (own_below Ho4.out (below_box (Obj.cells #[.int .u8 1] 5))) rfl (Has.lit w4 #[.int .u8 1] 5) (fun u hu => by simp at hu; subst hu; rfl) (by have := Hlen4.out; simp only [maxLen]; omega) (by have := Hlen4.out; omega) hszL ?_; intro v5 w5 o5 g5 _; have hbA : Below w.heap.size w4 w5 := ((Below.refl _ w4).alloc hsz4 (Obj.cells #[.int .u8 1] 5)).trans ((Below.refl _ _).grown g5 hszL fun g e => (Ho4.out.lt g e).1); have hcv5 : w5.cell? ⟨(a.add (k * 3)).block, (a.add (k * 3)).off + 1, none⟩ = some (.string yv) := (hbA.cell (p := ⟨(a.add (k * 3)).block, (a.add (k * 3)).off + 1, none⟩) (by show (a.add (k * 3)).block < _; rw [addr_block]; exact Nat.lt_of_lt_of_le hab HC.out)).trans hcv))
          have Ho5 : Hid (OwnBs w5 w.heap.size v5 ((numForm n ++ bodyL (l.take k)) ++ textForm yk.data.toList ++ [1])) := Lib.hid (OwnBs.app (b := [1]) (m := 1) o5 rfl)
          have Hb5 := Lib.hid (Hb4.out.trans hbA)
          have hsz5 : w.heap.size ≤ w5.heap.size := Hb5.out.size
          clear o5 g5 hbA
          refine (refPutText_any yv w5 (by omega)).mono ?_
          rintro e w6 ⟨v6, rfl, o6, b6⟩
          obtain ⟨A6, m6, rfl, -, -, x6⟩ := own_slice o6
          have X6 := Lib.hid x6
          have Ho6 := Lib.hid (own_below Ho5.out b6)
          have Hb6 := Lib.hid (Hb5.out.trans (b6.mono hsz5))
          have hsz6 : w.heap.size ≤ w6.heap.size := Nat.le_trans hsz5 b6.size
          have Hlen6 : Hid (((numForm n ++ bodyL (l.take k)) ++ textForm yk.data.toList ++ [1]).length ≤ 10810000) := Lib.hid (by rw [List.length_append]; have := Hlen4.out; simp only [List.length_cons, List.length_nil]; omega)
          clear o6 x6 b6
          go_wp2_with (at_builtin; refine wpList_append_has rfl (.tmp 37) (.tmp 43) _ rfl 5 u8_elem Try.underlying63 rfl Ho6.out rfl X6.out (byteCells_one _) (by have := Hlen6.out; simp only [maxLen]; omega) (by have := Hlen6.out; omega) hsz6 ?_; intro v7 w7 o7 g7 _)
          have Ho7 : Hid (OwnBs w7 w.heap.size v7 (numForm n ++ bodyL (l.take (k + 1)))) := Lib.hid (by
            have h1 := OwnBs.app (a := (numForm n ++ bodyL (l.take k)) ++ textForm yk.data.toList ++ [1]) (b := textForm yv.data.toList) o7 rfl
            rw [Hbs.out]
            simpa [List.append_assoc] using h1)
          have Hb7 := Lib.hid (Hb6.out.trans ((Below.refl _ _).grown g7 hsz6 fun g e => (Ho6.out.lt g e).1))
          clear o7 g7
          go_wp2
          go_roundw
          case rel => exact ⟨k + 1, by omega, by go_num, Ho7.out, Hb7.out⟩
          case measure => simp [intOf]; omega
      · obtain rfl : k = n := by omega
        have E : Hid (l.take k = l) := Lib.hid (List.take_of_length_le (by have := Hl.out; omega))
        have HE : Hid (numForm k ++ bodyL (l.take k) = packL l) := Lib.hid (by rw [E.out]; unfold packL; rw [Hl.out])
        rw [HE.out] at Ho
        go_wp2
        go_ret2
        exact ⟨Hb.out, .inl ⟨Hr.out, _, rfl, Ho.out⟩⟩
  · have Hr := Lib.hid hr
    rw [runB_false hr] at Hw
    clear hr
    go_enter Try.func64, Try.ntmps64
    go_wp2_with fail
    refine Hw.out.mono ?_
    rintro e w1 ⟨rfl, hb1⟩
    have Hb1 := Lib.hid hb1
    clear hb1
    go_wp2
    go_ret2
    exact ⟨Hb1.out, .inr ⟨Hr.out, rfl⟩⟩
end Go.Proofs.Yteioopcacpihpaa

namespace Go.Proofs.Yteioopcacpihpaa
open Go.RowKit
open Go.Lib (strCells compareBytes)

theorem box5 {w wz : World} {a b c d e : Value} {t : TypeId} (hb : Below (w.heap.size + 1) (w.alloc (.cells #[a, b, c, d, e] t)) wz) :
    wz.cell? ⟨w.heap.size, 0, none⟩ = some a ∧ wz.cell? ⟨w.heap.size, 1, none⟩ = some b ∧ wz.cell? ⟨w.heap.size, 2, none⟩ = some c ∧ wz.cell? ⟨w.heap.size, 3, none⟩ = some d ∧ wz.cell? ⟨w.heap.size, 4, none⟩ = some e := by
  have hx := (Box.made w t #[a, b, c, d, e]).below hb (by simp)
  exact ⟨hx.cell 0, hx.cell 1, hx.cell 2, hx.cell 3, hx.cell 4⟩
set_option maxRecDepth 100000 in
set_option maxHeartbeats 6400000 in
theorem refUnpack_any (A : Option Addr) (n c C : Nat) (b : List UInt8) (w : World) (h : HasBytes w C A n b) (hC : C ≤ w.heap.size) (hn : n ≤ 1000000) (hnc : n ≤ c) :
    Calls Try.prog 40 #[.slice A n c] w (UnpackPost (unpackT b) w) := by
  obtain ⟨⟨x, u, ne⟩, hnn⟩ : ∃ r, getNum b 0 = r := ⟨_, rfl⟩
  have Hn := Lib.hid (refNum_any A n c C 0 b w h hC (by omega))
  rw [hnn] at Hn
  simp only [got] at Hn
  have HN := Lib.hid hnn
  have H := Lib.hid h
  have HC := Lib.hid hC
  have Hl := Lib.hid h.len
  have Hnum := Lib.hid (fun (p : Nat) wx (hx : Below w.heap.size w wx) => refNum_any A n c C (p : Int) b wx (Has.belowOf h hx hC) (Nat.le_trans hC hx.size) (by omega))
  have Htxt := Lib.hid (fun (p : Nat) wx (hx : Below w.heap.size w wx) => refText_any A n c C (p : Int) 9223372036854775807 b wx (Has.belowOf h hx hC) (Nat.le_trans hC hx.size) (by omega) hnc)
  have hbd : ne = 0 → x < 9223372036854775808 ∧ u ≤ n := fun e => by
    have := getNum_bound (l := b) (p := 0) (by rw [hnn]; exact e)
    rw [hnn, h.len] at this
    exact ⟨this.2.1, this.2.2.2⟩
  clear h hC hnn
  by_cases h1 : ne = 0
  · subst h1
    obtain ⟨hx, hu⟩ := hbd rfl
    have Hub := Lib.hid hu
    clear hbd hu
    go_enter Try.func40, Try.ntmps40
    go_wp2_with fail
    refine Hn.out.mono ?_
    rintro e w1 ⟨rfl, hb1⟩
    have Hb1 := Lib.hid hb1
    clear hb1
    go_wp2
    go_loopw [5, 6, 7, 8, 9, 10] (fun av o iv _ _ _ wr => ∃ (i q : Nat) (acc : List Chg), iv = .int .i64 (i : Int) ∧ av = .int .i64 (q : Int) ∧ Hid (i ≤ x) ∧ OwnChs wr (w1.heap.size + 1) o acc ∧ Hid (readC b i u = (0, acc, q)) ∧ Below (w1.heap.size + 1) (w1.alloc (Obj.cells #[.int .i64 (x : Int), .string ⟨#[]⟩, .slice none 0 0, .int .i64 (u : Int), .int .i64 (0 : Int)] 99)) wr) (fun _ _ iv _ _ _ _ => x - (intOf iv).toNat)
    case atStart => exact ⟨0, u, [], rfl, rfl, Lib.hid (by omega), OwnChs.nil _ _, Lib.hid rfl, Below.refl _ _⟩
    case round =>
      obtain ⟨i, q, acc, rfl, rfl, Hi, ho, Hrd, hb⟩ := hrel
      have Ho := Lib.hid ho
      have Hb := Lib.hid hb
      have hsz : w1.heap.size + 1 ≤ wr.heap.size := by have := hb.size; simpa using this
      obtain ⟨z0, -, -, -, -⟩ := box5 hb
      have hok := readC_ok (b := b) (m := i) (p := u) (by rw [Hrd.out]) (by rw [Hl.out]; exact Hub.out)
      rw [Hrd.out, Hl.out] at hok
      obtain ⟨k1, k2, k3, k4, -⟩ := hok
      simp only at k1 k2 k3 k4
      have Hwr := Lib.hid (Hb1.out.trans ((below_in hb (Nat.le_refl _)).mono Hb1.out.size))
      have hwsz : w.heap.size ≤ w1.heap.size := Hb1.out.size
      clear ho hb k1
      by_cases hlt : i < x
      · obtain ⟨⟨ts, tq, te⟩, ht⟩ : ∃ r, getText b q 9223372036854775807 = r := ⟨_, rfl⟩
        have Ht := Lib.hid (Htxt.out q wr Hwr.out)
        rw [ht] at Ht
        simp only [got] at Ht
        have HT := Lib.hid ht
        have hi63 : i < 4000000 := by omega
        clear ht
        by_cases h1 : te = 0
        · subst h1
          go_wp2_with fail
          refine Ht.out.mono ?_
          rintro e w2 ⟨rfl, hb2⟩
          have Hw2 := Lib.hid (Hwr.out.trans (hb2.mono Hwr.out.size))
          have hsz2 : wr.heap.size ≤ w2.heap.size := hb2.size
          have Hr2 := Lib.hid hb2
          have Hw3 := Lib.hid (Hw2.out.alloc Hw2.out.size (Obj.cells #[.int .i64 (0 : Int), .string ⟨ts.toArray⟩, .slice none 0 0, .int .i64 (tq : Int), .int .i64 (0 : Int)] 99))
          clear hb2
          obtain ⟨⟨nx, nu, ge⟩, hg⟩ : ∃ r, getNum b tq = r := ⟨_, rfl⟩
          have Hg := Lib.hid (Hnum.out tq _ Hw3.out)
          rw [hg] at Hg
          simp only [got] at Hg
          have HG := Lib.hid hg
          clear hg
          by_cases h2 : ge = 0
          · subst h2
            go_wp2_with fail
            refine Hg.out.mono ?_
            rintro e w4 ⟨rfl, hb4⟩
            have hb4' : Below (w2.heap.size + 1) (w2.alloc (Obj.cells #[.int .i64 (0 : Int), .string ⟨ts.toArray⟩, .slice none 0 0, .int .i64 (tq : Int), .int .i64 (0 : Int)] 99)) w4 := by simpa using hb4
            have Hk4 := Lib.hid hb4'
            have Hw4 := Lib.hid (Hw3.out.trans (hb4.mono Hw3.out.size))
            have hsz4 : w2.heap.size + 1 ≤ w4.heap.size := by have := hb4'.size; simpa using this
            have Hw5 := Lib.hid (Hw4.out.alloc Hw4.out.size (Obj.cells #[.int .i64 (nx : Int), .string ⟨#[]⟩, .slice none 0 0, .int .i64 (nu : Int), .int .i64 (0 : Int)] 99))
            clear hb4
            by_cases h3 : 1 < nx
            · have E := Lib.hid (unpackT_e2 HN.out (readC_err Hrd.out hlt (by rw [getChg_e3 HT.out HG.out h3]; simp)) (by rw [getChg_e3 HT.out HG.out h3]; simp))
              rw [getChg_e3 HT.out HG.out h3] at E
              clear hb4'
              go_wp2
              go_ret2
              exact ⟨_, by rw [E.out]; rfl, by rw [E.out]; exact OwnChs.nil _ _, Hw5.out⟩
            · obtain ⟨⟨vs, vq, ve⟩, hv⟩ : ∃ r, getText b nu 9223372036854775807 = r := ⟨_, rfl⟩
              have Hv := Lib.hid (Htxt.out nu _ Hw5.out)
              rw [hv] at Hv
              simp only [got] at Hv
              have HV := Lib.hid hv
              clear hv hb4'
              by_cases h4 : ve = 0
              · subst h4
                have Hc5 := Lib.hid (getChg_e5 HT.out HG.out h3 HV.out)
                have Hrd1 := Lib.hid (readC_step Hrd.out (by rw [Hc5.out]))
                rw [Hc5.out] at Hrd1
                have hx01 : nx = 0 ∨ nx = 1 := by omega
                clear h3
                rcases hx01 with rfl | rfl
                · go_wp2_with fail
                  refine Hv.out.mono ?_
                  rintro e w6 ⟨rfl, hb6⟩
                  have hb6' : Below (w4.heap.size + 1) (w4.alloc (Obj.cells #[.int .i64 (0 : Int), .string ⟨#[]⟩, .slice none 0 0, .int .i64 (nu : Int), .int .i64 (0 : Int)] 99)) w6 := by simpa using hb6
                  have Hw6 := Lib.hid (Hw5.out.trans (hb6.mono Hw5.out.size))
                  have hsz6 : w4.heap.size + 1 ≤ w6.heap.size := by have := hb6'.size; simpa using this
                  have hk7 : Below (w2.heap.size + 1) (w2.alloc (Obj.cells #[.int .i64 (0 : Int), .string ⟨ts.toArray⟩, .slice none 0 0, .int .i64 (tq : Int), .int .i64 (0 : Int)] 99)) (w6.alloc (Obj.cells #[.int .i64 (0 : Int), .string ⟨vs.toArray⟩, .slice none 0 0, .int .i64 (vq : Int), .int .i64 (0 : Int)] 99)) := (Hk4.out.trans ((((Below.refl _ w4).alloc (Nat.le_refl _) _).trans (hb6'.mono (by omega))).mono hsz4)).alloc (by omega) _
                  have hg7 : Below (w4.heap.size + 1) (w4.alloc (Obj.cells #[.int .i64 (0 : Int), .string ⟨#[]⟩, .slice none 0 0, .int .i64 (nu : Int), .int .i64 (0 : Int)] 99)) (w6.alloc (Obj.cells #[.int .i64 (0 : Int), .string ⟨vs.toArray⟩, .slice none 0 0, .int .i64 (vq : Int), .int .i64 (0 : Int)] 99)) := hb6'.alloc (by omega) _
                  obtain ⟨-, t1, -, -, -⟩ := box5 hk7
                  obtain ⟨g0, -, -, -, -⟩ := box5 hg7
                  have hr7 : Below wr.heap.size wr (w6.alloc (Obj.cells #[.int .i64 (0 : Int), .string ⟨vs.toArray⟩, .slice none 0 0, .int .i64 (vq : Int), .int .i64 (0 : Int)] 99)) := (Hr2.out.trans ((((Below.refl _ w2).alloc (Nat.le_refl _) (Obj.cells #[.int .i64 (0 : Int), .string ⟨ts.toArray⟩, .slice none 0 0, .int .i64 (tq : Int), .int .i64 (0 : Int)] 99)).trans (hk7.mono (by omega))).mono hsz2))
                  have Ho7 := Lib.hid (Ho.out.below hr7)
                  have Hb7 : Hid (Below (w1.heap.size + 1) (w1.alloc (Obj.cells #[.int .i64 (x : Int), .string ⟨#[]⟩, .slice none 0 0, .int .i64 (u : Int), .int .i64 (0 : Int)] 99)) (w6.alloc (Obj.cells #[.int .i64 (0 : Int), .string ⟨vs.toArray⟩, .slice none 0 0, .int .i64 (vq : Int), .int .i64 (0 : Int)] 99))) := Lib.hid (Hb.out.trans (hr7.mono hsz))
                  have hsz7 : w1.heap.size + 1 ≤ (w6.alloc (Obj.cells #[.int .i64 (0 : Int), .string ⟨vs.toArray⟩, .slice none 0 0, .int .i64 (vq : Int), .int .i64 (0 : Int)] 99)).heap.size := Nat.le_trans hsz hr7.size
                  have Hvb : Hid (Box (w6.alloc (Obj.cells #[.int .i64 (0 : Int), .string ⟨vs.toArray⟩, .slice none 0 0, .int .i64 (vq : Int), .int .i64 (0 : Int)] 99)) w6.heap.size 99 #[.int .i64 (0 : Int), .string ⟨vs.toArray⟩, .slice none 0 0, .int .i64 (vq : Int), .int .i64 (0 : Int)]) := Lib.hid (Box.made _ _ _)
                  have hszA : w1.heap.size + 1 ≤ ((w6.alloc (Obj.cells #[.int .i64 (0 : Int), .string ⟨vs.toArray⟩, .slice none 0 0, .int .i64 (vq : Int), .int .i64 (0 : Int)] 99)).alloc (Obj.cells #[.string ⟨ts.toArray⟩, .string ⟨vs.toArray⟩, .bool false] 38)).heap.size := by simp only [World.size_alloc] at hsz7 ⊢; omega
                  clear hb6 hb6' hk7 hg7 hr7
                  have Hlit : Hid (Has ((w6.alloc (Obj.cells #[.int .i64 (0 : Int), .string ⟨vs.toArray⟩, .slice none 0 0, .int .i64 (vq : Int), .int .i64 (0 : Int)] 99)).alloc (Obj.cells #[.string ⟨ts.toArray⟩, .string ⟨vs.toArray⟩, .bool false] 38)) (w6.heap.size + 1 + 1) (some ⟨w6.heap.size + 1, 0, none⟩) (1 * 3) (chgCells [⟨⟨ts.toArray⟩, ⟨vs.toArray⟩, false⟩])) := Lib.hid (by have h := chg_lit (w6.alloc (Obj.cells #[.int .i64 (0 : Int), .string ⟨vs.toArray⟩, .slice none 0 0, .int .i64 (vq : Int), .int .i64 (0 : Int)] 99)) ⟨⟨ts.toArray⟩, ⟨vs.toArray⟩, false⟩; simp only [World.size_alloc] at h; exact h)
                  go_wp2_with (at_builtin; refine wpList_append_hasN rfl (.tmp 55) (.tmp 64) _ rfl 38 chg_elem (by omega) Try.underlying22 rfl (own_drawn Ho7.out 0 _) rfl Hlit.out (chgCells_one _) (by simp only [maxLen]; omega) (by omega) hszA ?_; intro v8 w8 hown8 hg8 _; have hvn := ((Hvb.out.alloc (Obj.cells #[.string ⟨ts.toArray⟩, .string ⟨vs.toArray⟩, .bool false] 38)).grown hg8 (fun e => (by obtain ⟨cur, hc⟩ := own_typeP Ho7.out e.symm; have hbv := Hvb.out; unfold Box at hbv; rw [hbv] at hc; injection hc with hc; injection hc with _ hc _; exact absurd hc (by decide)))).cell 3)
                  have Hb8 := Lib.hid (below_app (k := 0) Hb7.out Ho7.out hg8 hsz7)
                  have Hown8 : Hid (OwnChs w8 (w1.heap.size + 1) v8 (acc ++ [⟨⟨ts.toArray⟩, ⟨vs.toArray⟩, false⟩])) := Lib.hid (by unfold OwnChs; rw [List.length_append, chgCells_app]; exact hown8)
                  clear hg8 hown8
                  go_wp2
                  go_roundw
                  case rel => exact ⟨i + 1, vq, _, by go_num, rfl, Lib.hid (by omega), Hown8.out, Hrd1, Hb8.out⟩
                  case measure => simp [intOf]; omega
                · go_wp2_with fail
                  refine Hv.out.mono ?_
                  rintro e w6 ⟨rfl, hb6⟩
                  have hb6' : Below (w4.heap.size + 1) (w4.alloc (Obj.cells #[.int .i64 (1 : Int), .string ⟨#[]⟩, .slice none 0 0, .int .i64 (nu : Int), .int .i64 (0 : Int)] 99)) w6 := by simpa using hb6
                  have Hw6 := Lib.hid (Hw5.out.trans (hb6.mono Hw5.out.size))
                  have hsz6 : w4.heap.size + 1 ≤ w6.heap.size := by have := hb6'.size; simpa using this
                  have hk7 : Below (w2.heap.size + 1) (w2.alloc (Obj.cells #[.int .i64 (0 : Int), .string ⟨ts.toArray⟩, .slice none 0 0, .int .i64 (tq : Int), .int .i64 (0 : Int)] 99)) (w6.alloc (Obj.cells #[.int .i64 (0 : Int), .string ⟨vs.toArray⟩, .slice none 0 0, .int .i64 (vq : Int), .int .i64 (0 : Int)] 99)) := (Hk4.out.trans ((((Below.refl _ w4).alloc (Nat.le_refl _) _).trans (hb6'.mono (by omega))).mono hsz4)).alloc (by omega) _
                  have hg7 : Below (w4.heap.size + 1) (w4.alloc (Obj.cells #[.int .i64 (1 : Int), .string ⟨#[]⟩, .slice none 0 0, .int .i64 (nu : Int), .int .i64 (0 : Int)] 99)) (w6.alloc (Obj.cells #[.int .i64 (0 : Int), .string ⟨vs.toArray⟩, .slice none 0 0, .int .i64 (vq : Int), .int .i64 (0 : Int)] 99)) := hb6'.alloc (by omega) _
                  obtain ⟨-, t1, -, -, -⟩ := box5 hk7
                  obtain ⟨g0, -, -, -, -⟩ := box5 hg7
                  have hr7 : Below wr.heap.size wr (w6.alloc (Obj.cells #[.int .i64 (0 : Int), .string ⟨vs.toArray⟩, .slice none 0 0, .int .i64 (vq : Int), .int .i64 (0 : Int)] 99)) := (Hr2.out.trans ((((Below.refl _ w2).alloc (Nat.le_refl _) (Obj.cells #[.int .i64 (0 : Int), .string ⟨ts.toArray⟩, .slice none 0 0, .int .i64 (tq : Int), .int .i64 (0 : Int)] 99)).trans (hk7.mono (by omega))).mono hsz2))
                  have Ho7 := Lib.hid (Ho.out.below hr7)
                  have Hb7 : Hid (Below (w1.heap.size + 1) (w1.alloc (Obj.cells #[.int .i64 (x : Int), .string ⟨#[]⟩, .slice none 0 0, .int .i64 (u : Int), .int .i64 (0 : Int)] 99)) (w6.alloc (Obj.cells #[.int .i64 (0 : Int), .string ⟨vs.toArray⟩, .slice none 0 0, .int .i64 (vq : Int), .int .i64 (0 : Int)] 99))) := Lib.hid (Hb.out.trans (hr7.mono hsz))
                  have hsz7 : w1.heap.size + 1 ≤ (w6.alloc (Obj.cells #[.int .i64 (0 : Int), .string ⟨vs.toArray⟩, .slice none 0 0, .int .i64 (vq : Int), .int .i64 (0 : Int)] 99)).heap.size := Nat.le_trans hsz hr7.size
                  have Hvb : Hid (Box (w6.alloc (Obj.cells #[.int .i64 (0 : Int), .string ⟨vs.toArray⟩, .slice none 0 0, .int .i64 (vq : Int), .int .i64 (0 : Int)] 99)) w6.heap.size 99 #[.int .i64 (0 : Int), .string ⟨vs.toArray⟩, .slice none 0 0, .int .i64 (vq : Int), .int .i64 (0 : Int)]) := Lib.hid (Box.made _ _ _)
                  have hszA : w1.heap.size + 1 ≤ ((w6.alloc (Obj.cells #[.int .i64 (0 : Int), .string ⟨vs.toArray⟩, .slice none 0 0, .int .i64 (vq : Int), .int .i64 (0 : Int)] 99)).alloc (Obj.cells #[.string ⟨ts.toArray⟩, .string ⟨vs.toArray⟩, .bool true] 38)).heap.size := by simp only [World.size_alloc] at hsz7 ⊢; omega
                  clear hb6 hb6' hk7 hg7 hr7
                  have Hlit : Hid (Has ((w6.alloc (Obj.cells #[.int .i64 (0 : Int), .string ⟨vs.toArray⟩, .slice none 0 0, .int .i64 (vq : Int), .int .i64 (0 : Int)] 99)).alloc (Obj.cells #[.string ⟨ts.toArray⟩, .string ⟨vs.toArray⟩, .bool true] 38)) (w6.heap.size + 1 + 1) (some ⟨w6.heap.size + 1, 0, none⟩) (1 * 3) (chgCells [⟨⟨ts.toArray⟩, ⟨vs.toArray⟩, true⟩])) := Lib.hid (by have h := chg_lit (w6.alloc (Obj.cells #[.int .i64 (0 : Int), .string ⟨vs.toArray⟩, .slice none 0 0, .int .i64 (vq : Int), .int .i64 (0 : Int)] 99)) ⟨⟨ts.toArray⟩, ⟨vs.toArray⟩, true⟩; simp only [World.size_alloc] at h; exact h)
                  go_wp2_with (at_builtin; refine wpList_append_hasN rfl (.tmp 55) (.tmp 64) _ rfl 38 chg_elem (by omega) Try.underlying22 rfl (own_drawn Ho7.out 0 _) rfl Hlit.out (chgCells_one _) (by simp only [maxLen]; omega) (by omega) hszA ?_; intro v8 w8 hown8 hg8 _; have hvn := ((Hvb.out.alloc (Obj.cells #[.string ⟨ts.toArray⟩, .string ⟨vs.toArray⟩, .bool true] 38)).grown hg8 (fun e => (by obtain ⟨cur, hc⟩ := own_typeP Ho7.out e.symm; have hbv := Hvb.out; unfold Box at hbv; rw [hbv] at hc; injection hc with hc; injection hc with _ hc _; exact absurd hc (by decide)))).cell 3)
                  have Hb8 := Lib.hid (below_app (k := 0) Hb7.out Ho7.out hg8 hsz7)
                  have Hown8 : Hid (OwnChs w8 (w1.heap.size + 1) v8 (acc ++ [⟨⟨ts.toArray⟩, ⟨vs.toArray⟩, true⟩])) := Lib.hid (by unfold OwnChs; rw [List.length_append, chgCells_app]; exact hown8)
                  clear hg8 hown8
                  go_wp2
                  go_roundw
                  case rel => exact ⟨i + 1, vq, _, by go_num, rfl, Lib.hid (by omega), Hown8.out, Hrd1, Hb8.out⟩
                  case measure => simp [intOf]; omega
              · have heb : ((ve : Int) != 0) = true := by simpa using h4
                have E := Lib.hid (unpackT_e2 HN.out (readC_err Hrd.out hlt (by rw [getChg_e4 HT.out HG.out h3 HV.out h4]; exact h4)) (by rw [getChg_e4 HT.out HG.out h3 HV.out h4]; exact h4))
                rw [getChg_e4 HT.out HG.out h3 HV.out h4] at E
                clear h4
                go_wp2_with fail
                refine Hv.out.mono ?_
                rintro e w6 ⟨rfl, hb6⟩
                have Hw6 := Lib.hid (Hw5.out.trans (hb6.mono Hw5.out.size))
                have Hw7 := Lib.hid (Hw6.out.alloc Hw6.out.size (Obj.cells #[.int .i64 (0 : Int), .string ⟨vs.toArray⟩, .slice none 0 0, .int .i64 (vq : Int), .int .i64 (ve : Int)] 99))
                clear hb6
                go_wp2
                go_quiet (fail)
                go_wp2
                go_ret2
                exact ⟨_, by rw [E.out]; rfl, by rw [E.out]; exact OwnChs.nil _ _, below_dr Hw7.out _⟩
          · have heb : ((ge : Int) != 0) = true := by simpa using h2
            have E := Lib.hid (unpackT_e2 HN.out (readC_err Hrd.out hlt (by rw [getChg_e2 HT.out HG.out h2]; exact h2)) (by rw [getChg_e2 HT.out HG.out h2]; exact h2))
            rw [getChg_e2 HT.out HG.out h2] at E
            clear h2
            go_wp2_with fail
            refine Hg.out.mono ?_
            rintro e w4 ⟨rfl, hb4⟩
            have Hw4 := Lib.hid (Hw3.out.trans (hb4.mono Hw3.out.size))
            have Hw5 := Lib.hid (Hw4.out.alloc Hw4.out.size (Obj.cells #[.int .i64 (nx : Int), .string ⟨#[]⟩, .slice none 0 0, .int .i64 (nu : Int), .int .i64 (ge : Int)] 99))
            clear hb4
            go_wp2
            go_quiet (fail)
            go_wp2
            go_ret2
            exact ⟨_, by rw [E.out]; rfl, by rw [E.out]; exact OwnChs.nil _ _, below_dr Hw5.out _⟩
        · have heb : ((te : Int) != 0) = true := by simpa using h1
          have E := Lib.hid (unpackT_e2 HN.out (readC_err Hrd.out hlt (by rw [getChg_e1 HT.out h1]; exact h1)) (by rw [getChg_e1 HT.out h1]; exact h1))
          rw [getChg_e1 HT.out h1] at E
          clear h1
          go_wp2_with fail
          refine Ht.out.mono ?_
          rintro e w2 ⟨rfl, hb2⟩
          have Hw2 := Lib.hid (Hwr.out.trans (hb2.mono Hwr.out.size))
          have Hw3 := Lib.hid (Hw2.out.alloc Hw2.out.size (Obj.cells #[.int .i64 (0 : Int), .string ⟨ts.toArray⟩, .slice none 0 0, .int .i64 (tq : Int), .int .i64 (te : Int)] 99))
          clear hb2
          go_wp2
          go_quiet (fail)
          go_wp2
          go_ret2
          exact ⟨_, by rw [E.out]; rfl, by rw [E.out]; exact OwnChs.nil _ _, below_dr Hw3.out _⟩
      · obtain rfl : i = x := by have := Hi.out; omega
        by_cases hq : q = n
        · obtain ⟨Ao, co, rfl, -, -, hv⟩ := Ho.out.slice
          have Hw := Lib.hid (refRight_any Ao acc.length co wr.heap.size acc wr hv (by unfold maxLen; omega) (Nat.le_refl _))
          rw [k3] at Hw
          subst hq
          clear hv
          by_cases hrun : Run acc
          · have E := Lib.hid (unpackT_ok HN.out Hrd.out ⟨Hl.out.symm, hrun⟩)
            rw [runB_true hrun] at Hw
            clear hrun
            go_wp2_with fail
            refine Hw.out.mono ?_
            rintro e w2 ⟨rfl, hb2⟩
            have Hb2 := Lib.hid (Hwr.out.trans (hb2.mono Hwr.out.size))
            have Ho2 := Lib.hid (Ho.out.below hb2)
            rw [k3] at Ho2
            clear hb2
            go_wp2
            go_ret2
            exact ⟨_, by rw [E.out]; rfl, by rw [E.out]; exact own_baseN Ho2.out (by omega), Hb2.out⟩
          · have E := Lib.hid (unpackT_e3 HN.out Hrd.out (fun e => hrun e.2))
            rw [runB_false hrun] at Hw
            clear hrun
            go_wp2_with fail
            refine Hw.out.mono ?_
            rintro e w2 ⟨rfl, hb2⟩
            have Hb2 := Lib.hid (Hwr.out.trans (hb2.mono Hwr.out.size))
            clear hb2
            go_wp2
            go_ret2
            exact ⟨_, by rw [E.out]; rfl, by rw [E.out]; exact OwnChs.nil _ _, Hb2.out⟩
        · have hqb : ((q : Int) != (n : Int)) = true := by simp; omega
          have E := Lib.hid (unpackT_e3 HN.out Hrd.out (fun e => by have h1 := Hl.out; have h2 := e.1; omega))
          clear hq
          go_wp2
          go_ret2
          exact ⟨_, by rw [E.out]; rfl, by rw [E.out]; exact OwnChs.nil _ _, Hwr.out⟩
  · have h1b : ((ne : Int) != 0) = true := by simpa using h1
    have E := Lib.hid (unpackT_e1 HN.out h1)
    clear h1 hbd
    go_enter Try.func40, Try.ntmps40
    go_wp2_with fail
    refine Hn.out.mono ?_
    rintro e w1 ⟨rfl, hb1⟩
    have Hb1 := Lib.hid (hb1.alloc hb1.size (Obj.cells #[.int .i64 (x : Int), .string ⟨#[]⟩, .slice none 0 0, .int .i64 (u : Int), .int .i64 (ne : Int)] 99))
    clear hb1
    go_wp2
    go_quiet (fail)
    go_wp2
    go_ret2
    exact ⟨_, by rw [E.out]; rfl, by rw [E.out]; exact OwnChs.nil _ _, below_dr Hb1.out _⟩
end Go.Proofs.Yteioopcacpihpaa

namespace Go.Proofs.Yteioopcacpihpaa
open Go.RowKit
open Go.Lib (strCells compareBytes)

theorem keep10 {wr wx w' : World} (h : Below wr.heap.size wr wx) (hb : Below wx.heap.size wx w') : Below wr.heap.size wr w' := h.trans (hb.mono h.size)
theorem slice_all10 (M : List Chg) : sliceL [] [] M = M := List.filter_eq_self.2 fun c _ => by simp [inR]
theorem live_all {M : List Chg} (h : ∀ c ∈ M, c.g = false) : livesL M = M.map prOf := by
  unfold livesL liveL
  rw [List.filter_eq_self.2 fun c hc => by simp [h c hc]]
set_option maxRecDepth 100000 in
set_option maxHeartbeats 6400000 in
theorem same_any {w : World} {e b H N c : Nat} {A : Option Addr} {lim pairs : Int} {tv rv : Value} {T : List Chg} {rs : Crs} {M : List Chg} (h : EngAt w e lim pairs tv rv T rs) (hp : EngP H lim pairs T (crLists rs)) (hH : H ≤ 9000) (hM : absL (T :: crLists rs) = M)
    (hbx : Box w b 44 #[.slice A N c]) (hr : HasChs w w.heap.size A N M) :
    Calls Try.prog 33 #[.pointer (some ⟨e, 0, none⟩), .pointer (some ⟨b, 0, none⟩)] w fun e' w' => e' = .returned (.bool true) ∧ Below w.heap.size w w' := by
  have hlt := hbx.lt
  have hPP : PairsP H M := hM ▸ PairsP.of hp
  have hlen : M.length ≤ 9000 := Nat.le_trans hPP.len hH
  have hpl : pairs = (N : Int) := by rw [hp.num, hM, hr.1]
  have hN9 : N ≤ 9000 := by rw [← hr.1]; exact hlen
  obtain ⟨P, hP⟩ : ∃ P, M.map prOf = P := ⟨_, rfl⟩
  have hPl : P.length ≤ 9000 := by rw [← hP, List.length_map]; exact hlen
  have HLen : Hid (∀ wx, Below w.heap.size w wx → _) := Lib.hid fun wx (hx : Below w.heap.size w wx) => len_eng (h.below hx)
  have HRan : Hid (∀ wx, Below w.heap.size w wx → Calls Try.prog 31 #[.pointer (some ⟨e, 0, none⟩), .agg #[.string ⟨#[]⟩, .string ⟨#[]⟩], .int .i64 1099511627776] wx (RangePost P wx)) := Lib.hid fun wx hx => by
    have h1 := engRange_any (h.below hx) hp hH ⟨#[]⟩ ⟨#[]⟩ 1099511627776
    rw [hM] at h1
    have e1 : ((sliceL (⟨#[]⟩ : ByteArray).data.toList (⟨#[]⟩ : ByteArray).data.toList M).map prOf).take (1099511627776 : Int).toNat = P := by
      have e2 : sliceL (⟨#[]⟩ : ByteArray).data.toList (⟨#[]⟩ : ByteArray).data.toList M = M := slice_all10 M
      rw [e2, hP]
      exact List.take_of_length_le (by omega)
    rw [e1] at h1
    exact h1
  have HLiv : Hid (∀ wx, Below w.heap.size w wx → Calls Try.prog 61 #[.slice A N c] wx (GivesP wx.heap.size P wx)) := Lib.hid fun wx hx => by
    have h1 := refLive_any A N c w.heap.size M wx (hr.belowOf hx (Nat.le_refl _)) hx.size hN9
    rw [livesT_run hPP.run, live_all hPP.live, hP] at h1
    exact h1
  have HK : Hid (∀ wx, Below w.heap.size w wx → wx.cell? ⟨b, 0, none⟩ = some (.slice A N c) ∧ Below w.heap.size w wx) := Lib.hid fun wx hx => ⟨(hbx.below hx hlt).cell 0, hx⟩
  rw [hpl] at HLen
  have d0 := (HK.out w (Below.refl _ _)).1
  clear h hp hM hbx hr hP hPP hlen hpl
  go_enter Try.func33, Try.ntmps33
  go_wp2
  go_region_held3 (fun wx => wx.cell? ⟨b, 0, none⟩ = some (.slice A N c) ∧ Below w.heap.size w wx)
    (first | exact HK.out _ (Below.refl _ _).drew | exact HK.out _ (keep10 (And.right (by assumption)) b1) | exact HK.out _ (keep10 (And.right (by assumption)) b2) | exact HK.out _ (keep10 (And.right (by assumption)) b3) | exact HK.out _ (keep10 (And.right (by assumption)) b4))
    (first
      | (go_at_call 42; refine (HLen.out _ (And.right (by assumption))).mono ?_; rintro e1 w11 ⟨rfl, b1⟩)
      | (go_at_call 31; refine (HRan.out _ (And.right (by assumption))).mono ?_; rintro e1 w12 ⟨v2, rfl, o2, b2⟩; obtain ⟨A2, c2, rfl, -, -, x2⟩ := o2.slice)
      | (go_at_call 61; refine (HLiv.out _ (And.right (by assumption))).mono ?_; rintro e1 w13 ⟨v3, rfl, o3, b3⟩; obtain ⟨A3, c3, rfl, -, -, x3⟩ := o3.slice; have x2' : HasPrs w13 w12.heap.size A2 P.length P := ⟨x2.1, x2.2.belowOf b3 (Nat.le_refl _)⟩)
      | (go_at_call 30; refine (samePairs_any A2 A3 P.length c2 c3 _ _ P w13 x2' x3 (by unfold maxLen; omega)).mono ?_; rintro e1 w14 ⟨rfl, b4⟩))
  all_goals
    have HE : Hid (Below w.heap.size w w14) := Lib.hid (And.right (by assumption))
    go_wp2
    go_ret
    exact ⟨rfl, HE.out⟩
set_option maxRecDepth 100000 in
theorem refExport_any {w : World} {b N c : Nat} {A : Option Addr} {M : List Chg} (hbx : Box w b 44 #[.slice A N c]) (hr : HasChs w w.heap.size A N M) (hR : Run M) (hN : N ≤ 1200) (hs : ∀ x ∈ M, x.k.size ≤ 4000 ∧ x.v.size ≤ 4000) :
    Calls Try.prog 38 #[.pointer (some ⟨b, 0, none⟩)] w fun e' w' => ∃ v, e' = .returned v ∧ w'.ownsRow w.heap.size 5 1 v (packL M).length (byteCells (packL M)) ∧ Below w.heap.size w w' := by
  have Hp := Lib.hid (refPack_any A N c w.heap.size M w hr (Nat.le_refl _) hN hs)
  have HR := Lib.hid hR
  have d0 : w.cell? ⟨b, 0, none⟩ = some (.slice A N c) := hbx.cell 0
  clear hbx hr hR hs
  go_enter Try.func38, Try.ntmps38
  go_wp2_with fail
  refine Hp.out.mono ?_
  rintro e1 w1 ⟨hb, hc⟩
  obtain ⟨v, rfl, ho⟩ : ∃ v, e1 = .returned (.tuple #[v, .int .i64 0]) ∧ w1.ownsRow w.heap.size 5 1 v (packL M).length (byteCells (packL M)) := by
    rcases hc with ⟨-, h1⟩ | ⟨h1, -⟩
    · exact h1
    · exact absurd HR.out h1
  have HO := Lib.hid (And.intro ho hb)
  clear hc ho hb
  go_wp2
  go_ret
  exact ⟨v, rfl, HO.out.1, HO.out.2⟩

end Go.Proofs.Yteioopcacpihpaa

namespace Go.Proofs.Yteioopcacpihpaa
open Go.RowKit
open Go.Lib (strCells compareBytes)

/-- a cursor over lists that no table is among -/
def CursorPost (rs : Crs) (Ls : List (List Chg)) (w : World) (e : Ending) (w' : World) : Prop :=
  ∃ c v rk, e = .returned (.pointer (some ⟨c, 0, none⟩)) ∧ CurAt w' c v rk ∧ crLists rk = Ls ∧ (∀ r' ∈ rk, ∀ g, r'.1.ownBlock = some g → (∃ r ∈ rs, r.1.ownBlock = some g) ∨ w.heap.size ≤ g) ∧ w.heap.size ≤ c ∧ (∀ g, v.ownBlock = some g → w.heap.size ≤ g) ∧ Below w.heap.size w w' ∧ ∀ r ∈ rk, KindOf w' r.1 38
/-- the lists of a cursor are of the type that the engine's are -/
theorem pt_kind {w : World} {e : Nat} {lim pairs : Int} {tv rv : Value} {T : List Chg} {rs rk : Crs} (h : EngAt w e lim pairs tv rv T rs) (hp : PtB tv rs rk) : ∀ r ∈ rk, KindOf w r.1 38 := by
  intro r hr g hg
  obtain ⟨i, hi⟩ := List.mem_iff_getElem?.1 hr
  have h1 := hp i r hi g hg
  cases i with
  | zero => exact own_kind h.tab g (by simpa using h1)
  | succ j =>
    rw [List.getElem?_cons_succ] at h1
    unfold crCells at h1
    rw [List.getElem?_map] at h1
    cases e1 : rs[j]? with
    | none => rw [e1] at h1; cases h1
    | some r0 =>
      rw [e1] at h1
      exact h.kindC r0 (List.mem_of_getElem? e1) g h1
theorem cursor_blocks {tv u : Value} {rs rk : Crs} {l : List Chg} {B : Nat} (h : PtB tv rs rk) {r' : Value × List Chg} (hr : r' ∈ rk.set 0 (u, l)) {q : Nat} (hq : r'.1.ownBlock = some q) (hu : ∀ q, u.ownBlock = some q → B ≤ q) : (∃ r ∈ rs, r.1.ownBlock = some q) ∨ B ≤ q := by
  obtain ⟨i, hi⟩ := List.mem_iff_getElem?.1 hr
  rw [List.getElem?_set] at hi
  split at hi
  · split at hi
    · injection hi with hi
      subst hi
      exact .inr (hu q hq)
    · cases hi
  · rename_i h0
    obtain ⟨j, rfl⟩ : ∃ j, i = j + 1 := ⟨i - 1, by omega⟩
    have h1 := h (j + 1) r' hi q hq
    rw [List.getElem?_cons_succ] at h1
    unfold crCells at h1
    rw [List.getElem?_map] at h1
    cases e : rs[j]? with
    | none => rw [e] at h1; cases h1
    | some r =>
      rw [e] at h1
      exact .inl ⟨r, List.mem_of_getElem? e, h1⟩
theorem crs_set0 {u : Value} {rk : Crs} {l : List Chg} (h : (crLists rk)[0]? = some l) : crLists (rk.set 0 (u, l)) = crLists rk := by
  cases rk with
  | nil => rfl
  | cons r t =>
    have h1 : r.2 = l := by simpa [crLists] using h
    simp [crLists, h1]
set_option maxRecDepth 100000 in
set_option maxHeartbeats 3200000 in
theorem cursor_any {w : World} {e H : Nat} {lim pairs : Int} {tv rv : Value} {T : List Chg} {rs : Crs} (h : EngAt w e lim pairs tv rv T rs) (hp : EngP H lim pairs T (crLists rs)) (hH : H ≤ 9000) (lo hi : ByteArray) :
    Calls Try.prog 35 #[.pointer (some ⟨e, 0, none⟩), .agg #[.string lo, .string hi]] w (CursorPost rs ((T :: crLists rs).map (sliceL lo.data.toList hi.data.toList)) w) := by
  have hb0 := below_box (w := w) (Obj.cells #[.string lo, .string hi] 35)
  have Hov := Lib.hid (over_any (h.below hb0) hp hH lo hi)
  have hT9 : (sliceL lo.data.toList hi.data.toList T).length ≤ 9000 := Nat.le_trans (slice_len _ _ _) (Nat.le_trans (hp.len (r := T) (by simp)) hH)
  obtain ⟨Ls, hLs⟩ : ∃ Ls, (T :: crLists rs).map (sliceL lo.data.toList hi.data.toList) = Ls := ⟨_, rfl⟩
  obtain ⟨l0, hl0⟩ : ∃ l0, sliceL lo.data.toList hi.data.toList T = l0 := ⟨_, rfl⟩
  have hL0 : Ls[0]? = some l0 := by rw [← hLs, ← hl0]; rfl
  rw [hl0] at hT9
  rw [hLs] at Hov ⊢
  have HL0 := Lib.hid hL0
  have HK0 := Lib.hid (fun rk (hpt : PtB tv rs rk) => pt_kind (h.below hb0) hpt)
  clear h hp hLs hl0 hL0
  go_enter Try.func35, Try.ntmps35
  go_wp2_with fail
  refine Hov.out.mono ?_
  rintro e' w2 ⟨c, v, rk, rfl, hc, hrk, hpt, hwc, hwv, hb2⟩
  have hn : 0 < rk.length := by
    have h1 := HL0.out
    rw [← hrk] at h1
    have h2 := (List.getElem?_eq_some_iff.1 h1).1
    rwa [crLists_len] at h2
  obtain ⟨A, k0, rfl, hk0, hkm, hx⟩ := hc.crs
  obtain ⟨a, A1, m1, c1, l, ea, hab, hg, h1, h2, h3, d0, hcell⟩ := hx.at_ hn
  rw [hrk, HL0.out] at hg
  injection hg with hg
  subst hg
  obtain ⟨g, rfl, hg0⟩ := own_head hc.row hn
  injection ea with ea
  subst ea
  rw [add0O] at d0
  obtain ⟨N, hN⟩ : ∃ N, rk.length = N := ⟨_, rfl⟩
  have HN := Lib.hid hN
  have hm1 : m1 ≤ 9000 := by rw [← h3.1]; exact hT9
  have hb2' : Below w.heap.size w w2 := hb0.trans (hb2.mono (by simp))
  have hcl := hc.box.lt
  have hgl : g < w2.heap.size := (hc.row.lt g rfl).2
  rw [hN] at hc hn
  have HC := Lib.hid hc
  have HCl := Lib.hid (fun wx (hx : Below w2.heap.size w2 wx) => slicesClone_any A1 m1 c1 w2.heap.size l0 wx (h3.belowOf hx (Nat.le_refl _)) (by omega) hx.size)
  have q0 : w2.cell? ⟨c, 0, none⟩ = some (.slice (some ⟨g, 0, none⟩) N k0) := hc.box.cell 0
  have HKd : Hid (∀ r ∈ rk, KindOf w2 r.1 38) := Lib.hid fun r hr => (HK0.out rk hpt r hr).below hb2
  have HF := Lib.hid (And.intro hrk (And.intro hpt (And.intro (show w.heap.size ≤ c by simp at hwc; omega) (And.intro (fun q hq => show w.heap.size ≤ q by have := hwv q hq; simp at this; omega) hb2'))))
  have hN0 : (0 : Int) < (N : Int) := by omega
  clear hc hrk hpt hwc hwv hb2 hb2' hx h1 h2 h3 hcell hg0 hN hb0 Hov
  go_wp2
  go_region_with (first
    | (go_at_call 45; refine (HCl.out _ ((Below.refl _ _).drew)).mono ?_; rintro e1 w5 ⟨v5, rfl, o5, b5⟩; obtain ⟨A5, c5, rfl, n5, m5, x5⟩ := o5.slice; have B5 : Hid (Below w2.heap.size w2 w5) := Lib.hid (((Below.refl _ w2).drew).trans b5); have HS : Hid (∃ gg, (some ⟨g, 0, none⟩ : Option Addr) = some ⟨gg, 0, none⟩ ∧ (∃ o, w5.cell? ⟨gg, 0, none⟩ = some o) ∧ w5.frozen? ⟨gg, 0, none⟩ = false ∧ CurAt (w5.setCell ⟨gg, 0, none⟩ (.slice A5 l0.length c5)) c (.slice (some ⟨g, 0, none⟩) N k0) (rk.set 0 (.slice A5 l0.length c5, l0)) ∧ Frm (fun j => j = gg) w5 (w5.setCell ⟨gg, 0, none⟩ (.slice A5 l0.length c5))) := Lib.hid ((HC.out.below B5.out).set HN.out hn n5 m5 x5 (fun a ea => by have h9 : w2.heap.size ≤ a.block := (o5.lt a.block (by rw [ea]; rfl)).1; exact ⟨by omega, (o5.lt a.block (by rw [ea]; rfl)).2, fun q hq => by have h8 := (HC.out.row.lt q hq).2; omega⟩)); have y0 : w5.cell? ⟨c, 0, none⟩ = some (.slice (some ⟨g, 0, none⟩) N k0) := (HC.out.below B5.out).box.cell 0; have hw5 : ∃ o, w5.cell? ⟨g, 0, none⟩ = some o := (by obtain ⟨gg, e1, e2, e3, e4⟩ := HS.out; injection e1 with e1; injection e1 with e1; subst e1; exact e2); have hz5 : w5.frozen? ⟨g, 0, none⟩ = false := (by obtain ⟨gg, e1, e2, e3, e4⟩ := HS.out; injection e1 with e1; injection e1 with e1; subst e1; exact e3); obtain ⟨o5v, ho5⟩ := hw5; have HO5 := Lib.hid o5; clear b5 x5 o5))
  all_goals
    obtain ⟨gg, e1, -, -, e4, e5⟩ := HS.out
    injection e1 with e1
    injection e1 with e1
    subst e1
    have hs2 : w.heap.size ≤ w2.heap.size := HF.out.2.2.2.2.size
    have hbS : Below w.heap.size w (w5.setCell ⟨g, 0, none⟩ (.slice A5 l0.length c5)) := (HF.out.2.2.2.2.trans (B5.out.mono hs2)).trans (e5.below (fun j hj => by
      have h8 : j = g := hj
      have h9 := HF.out.2.2.2.1 g rfl
      omega) (Nat.le_trans hs2 B5.out.size))
    have HE := Lib.hid (And.intro e4 hbS)
    have HB : Hid (∀ r' ∈ rk.set 0 (.slice A5 l0.length c5, l0), ∀ q, r'.1.ownBlock = some q → (∃ r ∈ rs, r.1.ownBlock = some q) ∨ w.heap.size ≤ q) := Lib.hid fun r' hr' q hq => cursor_blocks HF.out.2.1 hr' hq fun q' hq' => by
      have h9 : w2.heap.size ≤ q' := (HO5.out.lt q' hq').1
      omega
    have HLs : Hid (crLists (rk.set 0 (.slice A5 l0.length c5, l0)) = Ls) := Lib.hid (by rw [crs_set0 (by rw [HF.out.1]; exact HL0.out)]; exact HF.out.1)
    have HKE : Hid (∀ r' ∈ rk.set 0 (.slice A5 l0.length c5, l0), KindOf (w5.setCell ⟨g, 0, none⟩ (.slice A5 l0.length c5)) r'.1 38) := Lib.hid fun r' hr' => by
      have hk5 : KindOf w5 r'.1 38 := by
        rcases List.mem_or_eq_of_mem_set hr' with hr' | rfl
        · exact (HKd.out r' hr').below B5.out
        · exact own_kind HO5.out
      exact hk5.frm e5 fun q hq hi => by
        have h8 : q = g := hi
        subst h8
        exact (e4.offC r' hr').2 q rfl hq
    clear e4 e5 hbS y0 hz5 ho5
    go_wp2
    go_ret
    exact ⟨c, _, _, rfl, HE.out.1, HLs.out, HB.out, HF.out.2.2.1, HF.out.2.2.2.1, HE.out.2, HKE.out⟩
end Go.Proofs.Yteioopcacpihpaa

namespace Go.Proofs.Yteioopcacpihpaa
open Go.RowKit
open Go.Lib (strCells compareBytes)

theorem kind_ne {w : World} {v v' : Value} {t t' : TypeId} (h : KindOf w v t) (h' : KindOf w v' t') (hne : t ≠ t') {g : Nat} (hg : v.ownBlock = some g) (hg' : v'.ownBlock = some g) : False := by
  obtain ⟨cs, m, h1⟩ := h g hg
  obtain ⟨cs', m', h2⟩ := h' g hg'
  rw [h1] at h2
  injection h2 with h2
  injection h2 with _ h2
  exact hne h2
theorem kind_box {w : World} {v : Value} {t t' : TypeId} {g : Nat} {cs : Array Value} (h : KindOf w v t) (h' : Box w g t' cs) (hne : t ≠ t') (hg : v.ownBlock = some g) : False := by
  obtain ⟨cs', m, h1⟩ := h g hg
  unfold Box at h'
  rw [h1] at h'
  injection h' with h2
  injection h2 with _ h2
  exact hne h2
theorem box_box {w : World} {t t' : TypeId} {g : Nat} {cs cs' : Array Value} (h : Box w g t cs) (h' : Box w g t' cs') (hne : t ≠ t') : False := by
  unfold Box at h h'
  rw [h] at h'
  injection h' with h2
  injection h2 with _ h2
  exact hne h2
theorem OwnPrs.frm {S : Nat → Prop} {w w1 : World} {B : Nat} {v : Value} {l : List Pr} (h : OwnPrs w B v l) (hf : Frm S w w1) (ha : ∀ g, v.ownBlock = some g → ¬ S g) : OwnPrs w1 B v l := by
  unfold OwnPrs at h ⊢
  refine ⟨h.1, ?_⟩
  rcases h.2 with hn | ⟨g, cap, cur, hv, hB, hg, rest⟩
  · exact .inl hn
  · exact .inr ⟨g, cap, cur, hv, hB, (hf.block g (Array.getElem?_eq_some_iff.1 hg).1 (ha g (by rw [hv]; rfl))).trans hg, rest⟩
/-- rows of pairs rest -/
def KeepPr (W w' : World) : Prop := W.heap.size ≤ w'.heap.size ∧ ∀ B o Q, OwnPrs W B o Q → OwnPrs w' B o Q
/-- an engine and a cursor that began with the lists rk0 and has the pairs P before it -/
def EngCur (w : World) (e c H : Nat) (lim : Int) (v : Value) (rk0 : Crs) (P : List Pr) (W : World) : Prop :=
  ∃ pairs tv rv T rs rk, EngAt W e lim pairs tv rv T rs ∧ EngP H lim pairs T (crLists rs) ∧ CurAt W c v rk ∧ CurP rk0 rk ∧ (absL (crLists rk)).map prOf = P ∧
    w.heap.size ≤ e ∧ w.heap.size ≤ c ∧ (∀ g, v.ownBlock = some g → w.heap.size ≤ g ∧ rv.ownBlock ≠ some g) ∧ (∀ g, tv.ownBlock = some g → w.heap.size ≤ g ∧ ∀ r ∈ rk0, r.1.ownBlock ≠ some g) ∧
    (∀ r ∈ rk0, KindOf W r.1 38) ∧ Below w.heap.size w W
section
variable {w W W' : World} {e c H : Nat} {lim : Int} {v : Value} {rk0 : Crs} {P : List Pr}
theorem EngCur.below (h : EngCur w e c H lim v rk0 P W) : Below w.heap.size w W := by
  obtain ⟨pairs, tv, rv, T, rs, rk, -, -, -, -, -, -, -, -, -, -, hb⟩ := h
  exact hb
theorem EngCur.lt (h : EngCur w e c H lim v rk0 P W) : c < W.heap.size := by
  obtain ⟨pairs, tv, rv, T, rs, rk, -, -, hc, -⟩ := h
  exact hc.box.lt
theorem EngCur.next_ (h : EngCur w e c H lim v rk0 P W) (hb' : Below W.heap.size W W') : EngCur w e c H lim v rk0 P W' := by
  obtain ⟨pairs, tv, rv, T, rs, rk, hE, hP, hC, hp, hM, h1, h2, h3, h4, h5, hb⟩ := h
  exact ⟨pairs, tv, rv, T, rs, rk, hE.below hb', hP, hC.below hb', hp, hM, h1, h2, h3, h4, fun r hr => (h5 r hr).below hb', hb.trans (hb'.mono hb.size)⟩
theorem EngCur.up {H' : Nat} (h : EngCur w e c H lim v rk0 P W) (hH : H ≤ H') : EngCur w e c H' lim v rk0 P W := by
  obtain ⟨pairs, tv, rv, T, rs, rk, hE, hP, r⟩ := h
  exact ⟨pairs, tv, rv, T, rs, rk, hE, ⟨hP.lim1, hP.runs, hP.full, hP.num, Nat.le_trans hP.held hH, hP.small⟩, r⟩
theorem KeepPr.of (hb : Below W.heap.size W W') : KeepPr W W' := ⟨hb.size, fun _ _ _ h => h.below hb⟩
theorem KeepPr.trans {W2 : World} (h : KeepPr W W') (k : KeepPr W' W2) : KeepPr W W2 := ⟨Nat.le_trans h.1 k.1, fun B o Q hQ => k.2 B o Q (h.2 B o Q hQ)⟩
theorem EngCur.put (h : EngCur w e c H lim v rk0 P W) (A : Option Addr) (n k : Nat) (l : List Chg) (hx : HasChs W W.heap.size A n l) (hA : n ≠ 0 → ∀ q, A = some q → q.block < w.heap.size) (hH : H + n ≤ 8000) (hs : ∀ x ∈ l, x.k.size ≤ 4000 ∧ x.v.size ≤ 4000) :
    Calls Try.prog 23 #[.pointer (some ⟨e, 0, none⟩), .slice A n k] W fun e' w' => e' = .returned (.tuple #[]) ∧ EngCur w e c (H + n) lim v rk0 P w' ∧ KeepPr W w' := by
  obtain ⟨pairs, tv, rv, T, rs, rk, hE, hP, hC, hp, hM, h1, h2, h3, h4, h5, hb⟩ := h
  refine (batch_any hE hP A n k l hx (fun hn q eq => ⟨fun e1 => ?_, fun e1 => ?_⟩) hH hs).mono ?_
  · have := hA hn q eq; omega
  · have := (h4 _ e1).1; have := hA hn q eq; omega
  rintro e' w2 ⟨g1, p2, tv2, rv2, T2, rs2, hE2, hP2, -, hF2, ht2, -, hN⟩
  have hl : l.length = n := hx.1
  have kt := own_kind hE.tab
  have kv := own_kind hC.row
  have hS : ∀ g, (g = e ∨ tv.ownBlock = some g) → w.heap.size ≤ g := fun g hg => by
    rcases hg with rfl | hg
    · exact h1
    · exact (h4 g hg).1
  have hrk : ∀ r ∈ rk0, ∀ g, r.1.ownBlock = some g → ¬ (g = e ∨ tv.ownBlock = some g) := fun r hr g hg hi => by
    rcases hi with rfl | hi
    · exact kind_box (h5 r hr) hE.box (by decide) hg
    · exact (h4 g hi).2 r hr hg
  refine ⟨g1, ⟨p2, tv2, rv2, T2, rs2, rk, hE2, by rw [← hl]; exact hP2, hC.frm hF2 (fun hi => ?_) (fun g hg hi => ?_) (fun r hr g hg hi => ?_), hp, hM, h1, h2, fun g hg => ⟨(h3 g hg).1, fun hg2 => ?_⟩, fun g hg => ?_, fun r hr => (h5 r hr).frm hF2 (hrk r hr), hb.trans (hF2.below hS hb.size)⟩, hF2.size, fun B o Q hQ => hQ.frm hF2 fun g hg hi => ?_⟩
  · rcases hi with hi | hi
    · subst hi; exact box_box hC.box hE.box (by decide)
    · exact kind_box kt hC.box (by decide) hi
  · rcases hi with rfl | hi
    · exact kind_box kv hE.box (by decide) hg
    · exact kind_ne kv kt (by decide) hg hi
  · obtain ⟨r0, g3, g4⟩ := hp.blocks r hr g hg
    exact hrk r0 g3 g g4 hi
  · rcases hN.1 g hg2 with h8 | h8
    · exact (h3 g hg).2 h8
    · have := (hC.row.lt g hg).2; omega
  · rcases ht2 with h8 | h8
    · exact h4 g (h8 ▸ hg)
    · have h9 := h8 g hg
      have := hb.size
      refine ⟨by omega, fun r hr hg2 => ?_⟩
      have := (h5 r hr).lt hg2
      omega
  · rcases hi with rfl | hi
    · exact kind_box (own_kind hQ) hE.box (by decide) hg
    · exact kind_ne (own_kind hQ) kt (by decide) hg hi
theorem EngCur.compact (h : EngCur w e c H lim v rk0 P W) (hH : H ≤ 9000) :
    Calls Try.prog 25 #[.pointer (some ⟨e, 0, none⟩)] W fun e' w' => e' = .returned (.tuple #[]) ∧ EngCur w e c H lim v rk0 P w' ∧ KeepPr W w' := by
  obtain ⟨pairs, tv, rv, T, rs, rk, hE, hP, hC, hp, hM, h1, h2, h3, h4, h5, hb⟩ := h
  refine (compact_any hE hP hH).mono ?_
  rintro e' w2 ⟨g1, v', rv', hE2, hF2, hN⟩
  obtain ⟨M, hMM⟩ : ∃ M, absL (T :: crLists rs) = M := ⟨_, rfl⟩
  have hpp : PairsP H M := hMM ▸ PairsP.of hP
  rw [hMM] at hE2 hN
  have hPm : EngP H lim (M.length : Int) [] (aloneL M) := hpp.eng hP.lim1
  rw [← aloneR_lists v' M] at hPm
  have hpl : pairs = (M.length : Int) := by rw [hP.num, hMM]
  rw [hpl] at hE2
  have kv := own_kind hC.row
  refine ⟨g1, ⟨_, _, _, _, _, rk, hE2, hPm, hC.frm hF2 (fun hi => ?_) (fun g hg hi => ?_) (fun r hr g hg hi => ?_), hp, hM, h1, h2, fun g hg => ⟨(h3 g hg).1, fun hg2 => ?_⟩, fun g hg => (by cases hg), fun r hr => (h5 r hr).frm hF2 (fun g hg hi => ?_), hb.trans (hF2.below (fun i hi => hi ▸ h1) hb.size)⟩, hF2.size, fun B o Q hQ => hQ.frm hF2 fun g hg hi => ?_⟩
  · subst hi; exact box_box hC.box hE.box (by decide)
  · subst hi; exact kind_box kv hE.box (by decide) hg
  · subst hi
    obtain ⟨r0, g3, g4⟩ := hp.blocks r hr _ hg
    exact kind_box (h5 r0 g3) hE.box (by decide) g4
  · rcases hN.1 g hg2 with h8 | h8
    · exact (h3 g hg).2 h8
    · have := (hC.row.lt g hg).2; omega
  · subst hi; exact kind_box (h5 r hr) hE.box (by decide) hg
  · subst hi; exact kind_box (own_kind hQ) hE.box (by decide) hg
/-- what Next tells -/
def NextTold (w : World) (e c H : Nat) (lim : Int) (v : Value) (rk0 : Crs) (P : List Pr) (e' : Ending) (w' : World) : Prop :=
  (P = [] ∧ e' = .returned (.tuple #[.agg #[.string ⟨#[]⟩, .string ⟨#[]⟩], .bool false]) ∧ EngCur w e c H lim v rk0 [] w') ∨
    ∃ (xk xv : ByteArray) (t : List Pr), P = (xk, xv) :: t ∧ e' = .returned (.tuple #[.agg #[.string xk, .string xv], .bool true]) ∧ EngCur w e c H lim v rk0 t w'
theorem EngCur.next (h : EngCur w e c H lim v rk0 P W) (hN : rk0.length ≤ 100000) :
    Calls Try.prog 36 #[.pointer (some ⟨c, 0, none⟩)] W fun e' w' => NextTold w e c H lim v rk0 P e' w' ∧ KeepPr W w' := by
  obtain ⟨pairs, tv, rv, T, rs, rk, hE, hP, hC, hp, hM, h1, h2, h3, h4, h5, hb⟩ := h
  refine (next_any hC hp hN).mono ?_
  rintro e' w2 ⟨hF2, rk2, hC2, hp2, hcs⟩
  have kv := own_kind hC.row
  have hE2 : EngAt w2 e lim pairs tv rv T rs := hE.frm hF2 (fun hi => kind_box kv hE.box (by decide) hi) (fun g hg hi => kind_ne kv (own_kind hE.tab) (by decide) hi hg) (fun g hg hi => (h3 g hi).2 hg) (fun r hr g hg hi => kind_ne kv (hE.kindC r hr) (by decide) hi hg)
  have hall : ∀ Q, (absL (crLists rk2)).map prOf = Q → EngCur w e c H lim v rk0 Q w2 := fun Q hQ =>
    ⟨pairs, tv, rv, T, rs, rk2, hE2, hP, hC2, hp2, hQ, h1, h2, h3, h4, fun r hr => (h5 r hr).frm hF2 (fun g hg hi => kind_ne kv (h5 r hr) (by decide) hi hg), hb.trans (hF2.below (fun g hg => (h3 g hg).1) hb.size)⟩
  refine ⟨?_, hF2.size, fun B o Q hQ => hQ.frm hF2 fun g hg hi => kind_ne kv (own_kind hQ) (by decide) hi hg⟩
  rcases hcs with ⟨h6, h7, h8⟩ | ⟨x, h6, h7⟩
  · exact .inl ⟨by rw [← hM, h7]; rfl, h6, hall _ (by rw [h8]; rfl)⟩
  · exact .inr ⟨x.k, x.v, (absL (crLists rk2)).map prOf, by rw [← hM, h7]; rfl, h6, hall _ rfl⟩
/-- a row of pairs grows beside them -/
theorem EngCur.grown {B : Nat} {o : Value} {Q : List Pr} (h : EngCur w e c H lim v rk0 P W) (hQ : OwnPrs W B o Q) (hB : w.heap.size ≤ B) (hg : W.grownBy W' o.ownBlock) : EngCur w e c H lim v rk0 P W' := by
  obtain ⟨pairs, tv, rv, T, rs, rk, hE, hP, hC, hp, hM, h1, h2, h3, h4, h5, hb⟩ := h
  have hF := Frm.grown hg
  have ko := own_kind hQ
  exact ⟨pairs, tv, rv, T, rs, rk, hE.frm hF (fun hi => kind_box ko hE.box (by decide) hi) (fun g hg hi => kind_ne ko (own_kind hE.tab) (by decide) hi hg) (fun g hg hi => kind_ne ko hE.kindR (by decide) hi hg) (fun r hr g hg hi => kind_ne ko (hE.kindC r hr) (by decide) hi hg), hP,
    hC.frm hF (fun hi => kind_box ko hC.box (by decide) hi) (fun g hg hi => kind_ne ko (own_kind hC.row) (by decide) hi hg) (fun r hr g hg hi => by obtain ⟨r0, g3, g4⟩ := hp.blocks r hr g hg; exact kind_ne ko (h5 r0 g3) (by decide) hi g4), hp, hM, h1, h2, h3, h4,
    fun r hr => (h5 r hr).frm hF (fun g hg hi => kind_ne ko (h5 r hr) (by decide) hi hg), hb.trans (hF.below (fun g hg => Nat.le_trans hB (hQ.lt g hg).1) hb.size)⟩
end
end Go.Proofs.Yteioopcacpihpaa

namespace Go.Proofs.Yteioopcacpihpaa
open Go.RowKit
open Go.Lib (strCells compareBytes)

theorem crs_more {w : World} {B C n : Nat} {A : Option Addr} {rs : Crs} (h : HasCrs w B A n rs) (hB : B ≤ C) : HasCrs w C A n rs :=
  ⟨h.1.more hB, fun r hr => by
    obtain ⟨A', m, c, e, h1, h2, h3⟩ := h.2 r hr
    exact ⟨A', m, c, e, h1, h2, h3.more hB⟩⟩
theorem min_step {k nb : Nat} (h : k < nb) : 1200 + 30 * min k nb + 30 ≤ 1200 + 30 * min (k + 1) nb := by
  rw [Nat.min_eq_left (by omega), Nat.min_eq_left (by omega)]; omega
theorem min_stay {k nb : Nat} : 1200 + 30 * min k nb ≤ 1200 + 30 * min (k + 1) nb := by omega
theorem min_most {k nb : Nat} (h : nb ≤ 40) : 1200 + 30 * min k nb ≤ 2400 := by
  have := Nat.min_le_right k nb; omega
/-- the state of the loop -/
structure CurI (w w6 w8 : World) (e c H : Nat) (lim : Int) (v : Value) (rk0 : Crs) (all : List Pr) (want got : Value) (k : Nat) (wr : World) : Prop where
  ec : EngCur w e c H lim v rk0 (all.drop k) wr
  want : OwnPrs wr w6.heap.size want all
  got : OwnPrs wr w8.heap.size got (all.take k)
  size : w8.heap.size ≤ wr.heap.size
section
variable {w w6 w8 : World} {e c H : Nat} {lim : Int} {v : Value} {rk0 : Crs} {all : List Pr} {want got : Value} {k : Nat} {wr : World}
theorem CurI.up {H' : Nat} (h : CurI w w6 w8 e c H lim v rk0 all want got k wr) (hh : H ≤ H') : CurI w w6 w8 e c H' lim v rk0 all want got k wr := ⟨h.ec.up hh, h.want, h.got, h.size⟩
theorem CurI.put (h : CurI w w6 w8 e c H lim v rk0 all want got k wr) (A : Option Addr) (n q : Nat) (l : List Chg) (hx : HasChs w w.heap.size A n l) (hH : H + n ≤ 8000) (hs : ∀ x ∈ l, x.k.size ≤ 4000 ∧ x.v.size ≤ 4000) :
    Calls Try.prog 23 #[.pointer (some ⟨e, 0, none⟩), .slice A n q] wr fun e' w' => e' = .returned (.tuple #[]) ∧ CurI w w6 w8 e c (H + n) lim v rk0 all want got k w' := by
  refine (h.ec.put A n q l ((hx.belowOf h.ec.below (Nat.le_refl _)).more h.ec.below.size) (fun hn => chs_block hx hn) hH hs).mono ?_
  rintro e' w' ⟨rfl, h1, h2⟩
  exact ⟨rfl, h1, h2.2 _ _ _ h.want, h2.2 _ _ _ h.got, Nat.le_trans h.size h2.1⟩
theorem CurI.compact (h : CurI w w6 w8 e c H lim v rk0 all want got k wr) (hH : H ≤ 9000) :
    Calls Try.prog 25 #[.pointer (some ⟨e, 0, none⟩)] wr fun e' w' => e' = .returned (.tuple #[]) ∧ CurI w w6 w8 e c H lim v rk0 all want got k w' := by
  refine (h.ec.compact hH).mono ?_
  rintro e' w' ⟨rfl, h1, h2⟩
  exact ⟨rfl, h1, h2.2 _ _ _ h.want, h2.2 _ _ _ h.got, Nat.le_trans h.size h2.1⟩
theorem CurI.alloc (h : CurI w w6 w8 e c H lim v rk0 all want got k wr) (t : Obj) : CurI w w6 w8 e c H lim v rk0 all want got k (wr.alloc t) :=
  ⟨h.ec.next_ (below_box t), h.want.below (below_box t), h.got.below (below_box t), by have := h.size; simp only [World.size_alloc]; omega⟩
/-- what Next tells, and what is left -/
def CurTold (w w6 w8 : World) (e c H : Nat) (lim : Int) (v : Value) (rk0 : Crs) (all : List Pr) (want got : Value) (k : Nat) (e' : Ending) (w' : World) : Prop :=
  (all.drop k = [] ∧ e' = .returned (.tuple #[.agg #[.string ⟨#[]⟩, .string ⟨#[]⟩], .bool false]) ∧ CurI w w6 w8 e c H lim v rk0 all want got (k + 1) w') ∨
    ∃ (xk xv : ByteArray), all[k]? = some (xk, xv) ∧ e' = .returned (.tuple #[.agg #[.string xk, .string xv], .bool true]) ∧ EngCur w e c H lim v rk0 (all.drop (k + 1)) w' ∧ OwnPrs w' w6.heap.size want all ∧ OwnPrs w' w8.heap.size got (all.take k) ∧ w8.heap.size ≤ w'.heap.size
theorem CurI.next (h : CurI w w6 w8 e c H lim v rk0 all want got k wr) (hN : rk0.length ≤ 100000) :
    Calls Try.prog 36 #[.pointer (some ⟨c, 0, none⟩)] wr (CurTold w w6 w8 e c H lim v rk0 all want got k) := by
  refine (h.ec.next hN).mono ?_
  rintro e' w' ⟨h1, h2⟩
  rcases h1 with ⟨h3, h4, h5⟩ | ⟨xk, xv, t, h3, h4, h5⟩
  · have hl : all.length ≤ k := by
      rw [List.drop_eq_nil_iff] at h3
      exact h3
    refine .inl ⟨h3, h4, by rw [List.drop_of_length_le (by omega)]; exact h5, h2.2 _ _ _ h.want, ?_, Nat.le_trans h.size h2.1⟩
    have h6 := h2.2 _ _ _ h.got
    rw [List.take_of_length_le hl] at h6
    rw [List.take_of_length_le (by omega)]
    exact h6
  · have hk : k < all.length := by
      rcases Nat.lt_or_ge k all.length with h6 | h6
      · exact h6
      · rw [List.drop_of_length_le h6] at h3; cases h3
    rw [List.drop_eq_getElem_cons hk] at h3
    injection h3 with h7 h8
    exact .inr ⟨xk, xv, by rw [List.getElem?_eq_getElem hk, h7], h4, by rw [h8]; exact h5, h2.2 _ _ _ h.want, h2.2 _ _ _ h.got, Nat.le_trans h.size h2.1⟩
/-- what was told is laid behind -/
theorem CurI.app {xk xv : ByteArray} {t : Obj} {w7 : World} {got' : Value} (hk : all[k]? = some (xk, xv)) (hE : EngCur w e c H lim v rk0 (all.drop (k + 1)) wr) (hw : OwnPrs wr w6.heap.size want all) (ho : OwnPrs wr w8.heap.size got (all.take k)) (hs : w8.heap.size ≤ wr.heap.size) (hs68 : w.heap.size ≤ w8.heap.size) (hwl : ∀ g, want.ownBlock = some g → g < w8.heap.size)
    (o7 : w7.ownsRow w8.heap.size 59 2 got' ((all.take k).length + 1) (prCells (all.take k) ++ prCells [(xk, xv)])) (g7 : (wr.alloc t).grownBy w7 got.ownBlock) : CurI w w6 w8 e c H lim v rk0 all want got' (k + 1) w7 := by
  have hb := below_box (w := wr) t
  have ho' := ho.below hb
  refine ⟨(hE.next_ hb).grown ho' hs68 g7, (hw.below hb).frm (Frm.grown g7) (fun g hg hi => ?_), ?_, ?_⟩
  · have h1 := (ho.lt g hi).1
    have h2 := hwl g hg
    omega
  · unfold OwnPrs
    rw [List.take_add_one, hk]
    simp only [Option.toList, List.length_append, List.length_singleton]
    rw [prCells_app]
    exact o7
  · have := g7.size
    have := hb.size
    omega
end
set_option maxRecDepth 100000 in
set_option maxHeartbeats 12800000 in
theorem cursors_walk (A D : Option Addr) (n ca nb cb : Nat) (limit : Int) (rs rz : Crs) (lo hi : ByteArray) (w : World) (h : HasCrs w w.heap.size A n rs) (hnc : n ≤ ca) (hm : ca ≤ maxLen) (hs : ∀ l ∈ crLists rs, ∀ u ∈ l, u.k.size ≤ maxLen ∧ u.v.size ≤ maxLen)
    (h' : HasCrs w w.heap.size D nb rz) (hnc' : nb ≤ cb) (hm' : cb ≤ maxLen) (hs' : ∀ l ∈ crLists rz, ∀ u ∈ l, u.k.size ≤ maxLen ∧ u.v.size ≤ maxLen) (hsz : lo.size ≤ maxLen ∧ hi.size ≤ maxLen) :
    Calls Try.prog 7 #[.slice A n ca, .slice D nb cb, .int .i64 limit, .agg #[.string lo, .string hi]] w fun e w' => e = .returned (.bool true) ∧ Below w.heap.size w w' := by
  have hb0 := below_box (w := w) (Obj.cells #[.string lo, .string hi] 35)
  have H := Lib.hid h
  have H' := Lib.hid h'
  have Hlt := Lib.hid (fun wx (hx : Below w.heap.size w wx) => light10_any A n ca w.heap.size rs wx (h.belowOf hx (Nat.le_refl _)) (by omega) hs)
  have Hlt' := Lib.hid (fun wx (hx : Below w.heap.size w wx) => light10_any D nb cb w.heap.size rz wx (h'.belowOf hx (Nat.le_refl _)) (by omega) hs')
  obtain ⟨lim, hlim⟩ : ∃ lim, (if limit < 1 then 1 else limit) = lim := ⟨_, rfl⟩
  have Hlim := Lib.hid hlim
  have Hlim1 : Hid (1 ≤ lim) := Lib.hid (by rw [← hlim]; split <;> omega)
  have Hlz : Hid ((crLists rz).length = nb) := Lib.hid (by rw [crLists_len]; exact h'.len)
  have HWA : Hid (∀ wx, Below (w.alloc (.cells #[.string lo, .string hi] 35)).heap.size (w.alloc (.cells #[.string lo, .string hi] 35)) wx → (wx.cell? ⟨w.heap.size, 0, none⟩ = some (.string lo) ∧ wx.cell? ⟨w.heap.size, 1, none⟩ = some (.string hi)) ∧ Below w.heap.size w wx ∧ w.heap.size + 1 ≤ wx.heap.size) := Lib.hid fun wx hx => by
    have h1 := (Box.made w 35 #[.string lo, .string hi]).below hx (by simp)
    have h2 := hx.size
    simp only [World.size_alloc] at h2
    exact ⟨⟨h1.cell 0, h1.cell 1⟩, hb0.trans (hx.mono (by simp)), h2⟩
  unfold maxLen at hsz
  obtain ⟨z2, z3⟩ := hsz
  clear h h' hs hs' hlim hb0 hm hm'
  go_enter Try.func7, Try.ntmps7
  go_wp2_with fail
  refine (engAwake_any _).mono ?_
  rintro e w1 ⟨rfl, hb1⟩
  have Hb1 := Lib.hid hb1
  have Hlt1 := Lib.hid (Hlt.out w1 (HWA.out w1 hb1).2.1)
  clear hb1 Hlt
  go_wp2_with fail
  refine Hlt1.out.mono ?_
  rintro e w2 ⟨bl, rfl, hbl, q, rfl⟩
  have Hb2 := Lib.hid (below_dr Hb1.out q)
  have Hbl := Lib.hid hbl
  clear hbl Hlt1
  generalize w1.drewN q = w2 at *
  cases bl with
  | false =>
    have Hw2 := Lib.hid (HWA.out w2 Hb2.out).2.1
    go_wp2
    go_ret
    exact ⟨rfl, Hw2.out⟩
  | true =>
    have HL := Lib.hid (Hbl.out rfl)
    have Hlt2 := Lib.hid (Hlt'.out w2 (HWA.out w2 Hb2.out).2.1)
    clear Hbl Hlt'
    go_wp2_with fail
    refine Hlt2.out.mono ?_
    rintro e w3 ⟨bl, rfl, hbl, q, rfl⟩
    have Hb3 := Lib.hid (below_dr Hb2.out q)
    have Hbl := Lib.hid hbl
    clear hbl Hlt2
    generalize w2.drewN q = w3 at *
    obtain ⟨⟨d0, d1⟩, hw3, hsz3⟩ := HWA.out w3 Hb3.out
    have Hw3 := Lib.hid hw3
    have hsz30 : w.heap.size ≤ w3.heap.size := hw3.size
    have HBX : Hid (∀ wx, Below w3.heap.size w3 wx → wx.cell? ⟨w.heap.size, 0, none⟩ = some (.string lo) ∧ wx.cell? ⟨w.heap.size, 1, none⟩ = some (.string hi)) := Lib.hid fun wx hx => (HWA.out wx (Hb3.out.trans (hx.mono Hb3.out.size))).1
    clear hw3
    cases bl with
    | false =>
      go_wp2
      go_ret
      exact ⟨rfl, Hw3.out⟩
    | true =>
      have HLz := Lib.hid (Hbl.out rfl)
      have hnb40 : nb ≤ 40 := by have := Hlz.out; have := HLz.out.1; omega
      clear Hbl
      by_cases hq2 : 1000 < lo.size
      · go_wp2
        go_ret
        exact ⟨rfl, Hw3.out⟩
      · by_cases hq3 : 1000 < hi.size
        · go_wp2
          go_ret
          exact ⟨rfl, Hw3.out⟩
        · have Hf := Lib.hid (filled_any A n ca rs limit lim w3 (crs_more (H.out.belowOf Hw3.out (Nat.le_refl _)) hsz30) HL.out Hlim.out Hlim1.out)
          go_wp2_with fail
          refine Hf.out.mono ?_
          rintro e' w6 ⟨e, bm, rfl, hEM⟩
          have hMl := hEM.len
          obtain ⟨M, hM⟩ : ∃ M, mapAll (crLists rs).flatten [] = M := ⟨_, rfl⟩
          rw [hM] at hEM hMl
          obtain ⟨pairs, tv, rv, T, rse, mv, hE, hP, hMx, -, he3, -, -, htv, -, -, -, hb36⟩ := hEM
          have hb6 : Below w.heap.size w w6 := Hw3.out.trans (hb36.mono hsz30)
          have hRan := engRange_any hE hP (by omega) lo hi 1099511627776
          rw [hMx] at hRan
          obtain ⟨all, hal⟩ : ∃ all, (sliceL lo.data.toList hi.data.toList M).map prOf = all := ⟨_, rfl⟩
          have hall : all.length ≤ 1200 := by
            rw [← hal, List.length_map]
            exact Nat.le_trans (slice_len _ _ _) hMl
          rw [hal, List.take_of_length_le (by omega)] at hRan
          have HRan := Lib.hid hRan
          have HCr := Lib.hid (fun wx (hx : Below w6.heap.size w6 wx) => cursor_any (hE.below hx) hP (by omega) lo hi)
          have hor := over_runs hP.runs hP.small lo.data.toList hi.data.toList
          have hab := abs_slice hP.runs lo.data.toList hi.data.toList
          rw [hMx] at hab
          have hcnt : (T :: crLists rse).length ≤ 9001 := by have := hP.count; simp only [List.length_cons]; omega
          have HO := Lib.hid (And.intro hor (And.intro hab (And.intro hcnt hal)))
          have HE := Lib.hid hE
          have HP := Lib.hid hP
          have Htv := Lib.hid htv
          have Hb6 := Lib.hid hb6
          have hsz6 : w.heap.size ≤ w6.heap.size := hb6.size
          have hwe : w.heap.size ≤ e := by omega
          have HB6 := Lib.hid (fun wx (hx : Below w6.heap.size w6 wx) => HBX.out wx (hb36.trans (hx.mono hb36.size)))
          obtain ⟨q0, q1⟩ := HB6.out w6 (Below.refl _ _)
          clear hE hP hMx hM htv hb6 hb36 hRan hor hab hcnt hal Hf he3 d0 d1
          go_wp2_with fail
          refine HRan.out.mono ?_
          rintro e' w7 ⟨v7, rfl, o7, b7⟩
          obtain ⟨A7, c7, rfl, -, -, -⟩ := o7.slice
          have HO7 := Lib.hid o7
          have HB7 := Lib.hid b7
          have hs7 : w6.heap.size ≤ w7.heap.size := b7.size
          have HC7 := Lib.hid (HCr.out w7 b7)
          obtain ⟨q0, q1⟩ := HB6.out w7 b7
          clear o7 b7 HRan HCr
          go_wp2_with fail
          refine HC7.out.mono ?_
          rintro e' w8 ⟨c, v, rk0, rfl, hC, hrk, hbk, hc7, hv7, hb8, hkd⟩
          obtain ⟨NA, hNA⟩ : ∃ NA, all.length = NA := ⟨_, rfl⟩
          have HNA := Lib.hid hNA
          have hEC : EngCur w e c 1200 lim v rk0 (all.drop 0) w8 := by
            refine ⟨pairs, tv, rv, T, rse, rk0, (HE.out.below HB7.out).below hb8, HP.out, hC, ⟨by rw [hrk]; exact HO.out.1.1, by rw [hrk]; exact HO.out.1.2, rfl, fun r hr g hg => ⟨r, hr, hg⟩⟩, by rw [hrk, HO.out.2.1]; exact HO.out.2.2.2, hwe, by omega, fun g hg => ⟨?_, fun hg2 => ?_⟩, fun g hg => ⟨?_, fun r hr hg2 => ?_⟩, hkd, (Hb6.out.trans (HB7.out.mono hsz6)).trans (hb8.mono (by omega))⟩
            · have := hv7 g hg; omega
            · have := hv7 g hg; have := HE.out.oldR g hg2; omega
            · have := (Htv.out g hg).1; omega
            · rcases hbk r hr g hg2 with ⟨r1, h1, h2⟩ | h1
              · exact (HE.out.offC r1 h1).2 g hg h2
              · have := (HE.out.tab.lt g hg).2; omega
          have hs8 : w7.heap.size ≤ w8.heap.size := hb8.size
          have HI0 : Hid (CurI w w6 w8 e c (1200 + 30 * min 0 nb) lim v rk0 all (.slice A7 all.length c7) (.slice none 0 0) 0 w8) := Lib.hid ⟨hEC.up (by omega), HO7.out.below hb8, OwnPrs.nil _ _, Nat.le_refl _⟩
          have HN : Hid (rk0.length ≤ 100000) := Lib.hid (by
            have h1 := congrArg List.length hrk
            rw [crLists_len, List.length_map] at h1
            have := HO.out.2.2.1
            omega)
          have Hwl : Hid (w.heap.size ≤ w8.heap.size ∧ ∀ g, (Value.slice A7 NA c7).ownBlock = some g → g < w8.heap.size) := Lib.hid ⟨by omega, fun g hg => by rw [← hNA] at hg; have := (HO7.out.lt g hg).2; omega⟩
          rw [hNA] at HI0 hall ⊢
          clear hC hrk hbk hc7 hv7 hb8 hkd hNA hEC q0 q1 HC7
          go_wp2
          go_loopw [13, 14, 15, 16] (fun got iv _ _ wr => ∃ k : Nat, k ≤ NA + 1 ∧ iv = .int .i64 (k : Int) ∧ Hid (CurI w w6 w8 e c (1200 + 30 * min k nb) lim v rk0 all (.slice A7 NA c7) got k wr)) (fun _ iv _ _ _ => NA + 1 - (intOf iv).toNat)
          case atStart => exact ⟨0, by omega, rfl, HI0⟩
          case round =>
            obtain ⟨k, hk, rfl, HI⟩ := hrel
            have Hnx := Lib.hid (HI.out.next HN.out)
            obtain ⟨Ao, co, rfl, -, -, -⟩ := HI.out.got.slice
            obtain ⟨NO, hNO⟩ : ∃ NO, (all.take k).length = NO := ⟨_, rfl⟩
            have HNO := Lib.hid hNO
            have hno9 : NO ≤ 1200 := by rw [← hNO, List.length_take]; have := HNA.out; omega
            rw [hNO] at HI Hnx ⊢
            clear hNO HI0
            by_cases hle : k ≤ NA
            · have hk1 : (k : Int) ≤ (NA : Int) := by omega
              go_wp2_with fail
              refine Hnx.out.mono ?_
              rintro e' w5 (⟨-, rfl, hI5⟩ | ⟨xk, xv, hxk, rfl, hE5, hw5, ho5, hs5⟩)
              · have HT := Lib.hid (hI5.alloc (.cells #[.string ⟨#[]⟩, .string ⟨#[]⟩] 59))
                clear hI5 Hnx
                by_cases hjb : k < nb
                · obtain ⟨a, A1, m1, c1, l, rfl, hab, hg, g1, g2, g3, d0, -⟩ := H'.out.at_ hjb
                  have hll := HLz.out.2 l (List.mem_of_getElem? hg)
                  have hm1 : m1 ≤ 30 := by have h2 := g3.1; have := hll.1; omega
                  have HR : Hid (∀ wx, Below w.heap.size w wx → wx.cell? (a.add k) = some (.slice A1 m1 c1)) := Lib.hid fun wx hb => (hb.cell (p := a.add k) (by rw [addr_block]; exact hab)).trans d0
                  have Hpt := Lib.hid (fun wx (got : Value) (hI : CurI w w6 w8 e c (1200 + 30 * min k nb) lim v rk0 all (.slice A7 NA c7) got (k + 1) wx) => hI.put A1 m1 c1 l g3 (by have := min_most (k := k) hnb40; omega) (fun x hx => by have := hll.mem hx; omega))
                  have hk2 : (0 : Int) ≤ (k : Int) := by omega
                  have hk3 : (k : Int) < (nb : Int) := by omega
                  clear hll hg g1 g2 g3 d0
                  have Hq := Lib.hid (Hpt.out _ _ HT.out)
                  have d7 := HR.out _ HT.out.ec.below
                  clear Hpt
                  go_wp2_with fail
                  refine Hq.out.mono ?_
                  rintro e' w11 ⟨rfl, hI11⟩
                  have HY := Lib.hid (hI11.up (Nat.le_trans (Nat.add_le_add_left hm1 _) (min_step hjb)))
                  clear hI11 Hq
                  cases hr : ((k : Int) % 3 == 1) with
                  | true =>
                    have Hco := Lib.hid (HY.out.compact (by have := min_most (k := k + 1) hnb40; have := min_most (k := k) hnb40; omega))
                    go_wp2_with fail
                    refine Hco.out.mono ?_
                    rintro e' w12 ⟨rfl, hI12⟩
                    have HZ := Lib.hid (hI12.up (Nat.le_refl _))
                    clear hI12 Hco
                    go_wp2
                    go_roundw
                    case rel => exact ⟨k + 1, by omega, by go_num, HZ⟩
                    case measure => simp [intOf]; omega
                  | false =>
                    have HZ := Lib.hid (HY.out.up (Nat.le_refl _))
                    go_wp2
                    go_roundw
                    case rel => exact ⟨k + 1, by omega, by go_num, HZ⟩
                    case measure => simp [intOf]; omega
                · have hjb1 : ¬ (k : Int) < (nb : Int) := by omega
                  cases hr : ((k : Int) % 3 == 1) with
                  | true =>
                    have Hco := Lib.hid (HT.out.compact (by have := min_most (k := k + 1) hnb40; have := min_most (k := k) hnb40; omega))
                    go_wp2_with fail
                    refine Hco.out.mono ?_
                    rintro e' w12 ⟨rfl, hI12⟩
                    have HZ := Lib.hid (hI12.up min_stay)
                    clear hI12 Hco
                    go_wp2
                    go_roundw
                    case rel => exact ⟨k + 1, by omega, by go_num, HZ⟩
                    case measure => simp [intOf]; omega
                  | false =>
                    have HZ := Lib.hid (HT.out.up min_stay)
                    go_wp2
                    go_roundw
                    case rel => exact ⟨k + 1, by omega, by go_num, HZ⟩
                    case measure => simp [intOf]; omega
              · have hs6 : w8.heap.size ≤ (w5.alloc (.cells #[.string xk, .string xv] 59)).heap.size := le_alloc hs5 _
                have Ho6 : Hid ((w5.alloc (.cells #[.string xk, .string xv] 59)).ownsRow w8.heap.size 59 2 (.slice Ao NO co) NO (prCells (all.take k))) := Lib.hid (by have h9 := ho5.below (below_box (w := w5) (.cells #[.string xk, .string xv] 59)); unfold OwnPrs at h9; rw [HNO.out] at h9; exact h9)
                have HAP : Hid (∀ got' w10, w10.ownsRow w8.heap.size 59 2 got' (NO + 1) (prCells (all.take k) ++ prCells [(xk, xv)]) → ((w5.alloc (.cells #[.string xk, .string xv] 59)).alloc (.cells #[.string xk, .string xv] 59)).grownBy w10 (Value.slice Ao NO co).ownBlock → CurI w w6 w8 e c (1200 + 30 * min k nb) lim v rk0 all (.slice A7 NA c7) got' (k + 1) w10) := Lib.hid fun got' w10 o7 g7 => CurI.app hxk (hE5.next_ (below_box _)) (hw5.below (below_box _)) (ho5.below (below_box _)) hs6 Hwl.out.1 Hwl.out.2 (by rw [HNO.out]; exact o7) g7
                clear hxk hE5 hw5 ho5 Hnx
                by_cases hjb : k < nb
                · obtain ⟨a, A1, m1, c1, l, rfl, hab, hg, g1, g2, g3, d0, -⟩ := H'.out.at_ hjb
                  have hll := HLz.out.2 l (List.mem_of_getElem? hg)
                  have hm1 : m1 ≤ 30 := by have h2 := g3.1; have := hll.1; omega
                  have HR : Hid (∀ wx, Below w.heap.size w wx → wx.cell? (a.add k) = some (.slice A1 m1 c1)) := Lib.hid fun wx hb => (hb.cell (p := a.add k) (by rw [addr_block]; exact hab)).trans d0
                  have Hpt := Lib.hid (fun wx (got : Value) (hI : CurI w w6 w8 e c (1200 + 30 * min k nb) lim v rk0 all (.slice A7 NA c7) got (k + 1) wx) => hI.put A1 m1 c1 l g3 (by have := min_most (k := k) hnb40; omega) (fun x hx => by have := hll.mem hx; omega))
                  have hk2 : (0 : Int) ≤ (k : Int) := by omega
                  have hk3 : (k : Int) < (nb : Int) := by omega
                  clear hll hg g1 g2 g3 d0
                  go_wp2_with (at_builtin; refine wpList_append_hasN rfl (.tmp 69) (.tmp 71) _ rfl 59 pr_elem (by omega) Try.underlying50 rfl (own_belowN Ho6.out (below_box _)) rfl (pr_lit_at (w5.alloc (.cells #[.string xk, .string xv] 59)) (w5.heap.size + 1) (by simp only [World.size_alloc]) (xk, xv)) (prCells_one _) (by simp only [maxLen]; omega) (by omega) (le_alloc hs6 _) ?_; intro v7 w10 o7 g7 z7; obtain ⟨A9, c9, rfl, -, -, -⟩ := own_sliceN o7; have HT : Hid (CurI w w6 w8 e c (1200 + 30 * min k nb) lim v rk0 all (.slice A7 NA c7) (.slice A9 (NO + 1) c9) (k + 1) w10) := Lib.hid (HAP.out _ _ o7 g7); clear o7 g7 z7; have d7 := HR.out _ HT.out.ec.below)
                  have Hq := Lib.hid (Hpt.out _ _ HT.out)
                  clear Hpt
                  refine Hq.out.mono ?_
                  rintro e' w11 ⟨rfl, hI11⟩
                  have HY := Lib.hid (hI11.up (Nat.le_trans (Nat.add_le_add_left hm1 _) (min_step hjb)))
                  clear hI11 Hq
                  cases hr : ((k : Int) % 3 == 1) with
                  | true =>
                    have Hco := Lib.hid (HY.out.compact (by have := min_most (k := k + 1) hnb40; have := min_most (k := k) hnb40; omega))
                    go_wp2_with fail
                    refine Hco.out.mono ?_
                    rintro e' w12 ⟨rfl, hI12⟩
                    have HZ := Lib.hid (hI12.up (Nat.le_refl _))
                    clear hI12 Hco
                    go_wp2
                    go_roundw
                    case rel => exact ⟨k + 1, by omega, by go_num, HZ⟩
                    case measure => simp [intOf]; omega
                  | false =>
                    have HZ := Lib.hid (HY.out.up (Nat.le_refl _))
                    go_wp2
                    go_roundw
                    case rel => exact ⟨k + 1, by omega, by go_num, HZ⟩
                    case measure => simp [intOf]; omega
                · have hjb1 : ¬ (k : Int) < (nb : Int) := by omega
                  cases hr : ((k : Int) % 3 == 1) with
                  | true =>
                    go_wp2_with (at_builtin; refine wpList_append_hasN rfl (.tmp 69) (.tmp 71) _ rfl 59 pr_elem (by omega) Try.underlying50 rfl (own_belowN Ho6.out (below_box _)) rfl (pr_lit_at (w5.alloc (.cells #[.string xk, .string xv] 59)) (w5.heap.size + 1) (by simp only [World.size_alloc]) (xk, xv)) (prCells_one _) (by simp only [maxLen]; omega) (by omega) (le_alloc hs6 _) ?_; intro v7 w10 o7 g7 z7; obtain ⟨A9, c9, rfl, -, -, -⟩ := own_sliceN o7; have HT : Hid (CurI w w6 w8 e c (1200 + 30 * min k nb) lim v rk0 all (.slice A7 NA c7) (.slice A9 (NO + 1) c9) (k + 1) w10) := Lib.hid (HAP.out _ _ o7 g7); clear o7 g7 z7)
                    have Hco := Lib.hid (HT.out.compact (by have := min_most (k := k + 1) hnb40; have := min_most (k := k) hnb40; omega))
                    refine Hco.out.mono ?_
                    rintro e' w12 ⟨rfl, hI12⟩
                    have HZ := Lib.hid (hI12.up min_stay)
                    clear hI12 Hco
                    go_wp2
                    go_roundw
                    case rel => exact ⟨k + 1, by omega, by go_num, HZ⟩
                    case measure => simp [intOf]; omega
                  | false =>
                    go_wp2_with (at_builtin; refine wpList_append_hasN rfl (.tmp 69) (.tmp 71) _ rfl 59 pr_elem (by omega) Try.underlying50 rfl (own_belowN Ho6.out (below_box _)) rfl (pr_lit_at (w5.alloc (.cells #[.string xk, .string xv] 59)) (w5.heap.size + 1) (by simp only [World.size_alloc]) (xk, xv)) (prCells_one _) (by simp only [maxLen]; omega) (by omega) (le_alloc hs6 _) ?_; intro v7 w10 o7 g7 z7; obtain ⟨A9, c9, rfl, -, -, -⟩ := own_sliceN o7; have HT : Hid (CurI w w6 w8 e c (1200 + 30 * min k nb) lim v rk0 all (.slice A7 NA c7) (.slice A9 (NO + 1) c9) (k + 1) w10) := Lib.hid (HAP.out _ _ o7 g7); clear o7 g7 z7)
                    have HZ := Lib.hid (HT.out.up min_stay)
                    go_roundw
                    case rel => exact ⟨k + 1, by omega, by go_num, HZ⟩
                    case measure => simp [intOf]; omega
            · obtain rfl : k = NA + 1 := by omega
              have hE : all.drop (NA + 1) = [] := List.drop_of_length_le (by have := HNA.out; omega)
              have hT : all.take (NA + 1) = all := List.take_of_length_le (by have := HNA.out; omega)
              have HET := Lib.hid (And.intro hE hT)
              have hNN : NO = NA := by rw [← HNO.out, hT, HNA.out]
              subst hNN
              clear hE hT
              go_wp2_with fail
              refine Hnx.out.mono ?_
              rintro e' w5 (⟨-, rfl, hI5⟩ | ⟨xk, xv, hxk, rfl, -⟩)
              · have HT := Lib.hid (hI5.alloc (.cells #[.string ⟨#[]⟩, .string ⟨#[]⟩] 59))
                have hT2 : all.take (NO + 1 + 1) = all := List.take_of_length_le (by have := HNA.out; omega)
                obtain ⟨_, _, e1, -, -, xw⟩ := HT.out.want.slice
                obtain ⟨_, _, e2, -, -, xg⟩ := HT.out.got.slice
                rw [hT2] at xg e2
                rw [HNA.out] at xw e1 e2 xg
                injection e1 with e1 _ e3
                injection e2 with e2 _ e4
                subst e1 e3 e2 e4
                have HS := Lib.hid (fun wx (hx : Below (w5.alloc (.cells #[.string ⟨#[]⟩, .string ⟨#[]⟩] 59)).heap.size (w5.alloc (.cells #[.string ⟨#[]⟩, .string ⟨#[]⟩] 59)) wx) => samePairs_any Ao A7 NO co c7 (w5.alloc (.cells #[.string ⟨#[]⟩, .string ⟨#[]⟩] 59)).heap.size (w5.alloc (.cells #[.string ⟨#[]⟩, .string ⟨#[]⟩] 59)).heap.size all wx ⟨xg.1, xg.2.belowOf hx (Nat.le_refl _)⟩ ⟨xw.1, xw.2.belowOf hx (Nat.le_refl _)⟩ (by unfold maxLen; omega))
                have HB := Lib.hid HT.out.ec.below
                clear xw xg hT2 hI5 Hnx
                go_wp2_with fail
                refine (HS.out _ (Below.refl _ _)).mono ?_
                rintro e' w13 ⟨rfl, b13⟩
                have HZ := Lib.hid (HB.out.trans (b13.mono HB.out.size))
                clear b13
                go_wp2
                go_ret
                exact ⟨rfl, HZ.out⟩
              · exfalso
                have h1 := (List.getElem?_eq_some_iff.1 hxk).1
                have := HNA.out
                omega

namespace lawEngineCursors
open Go.ChangeShapes Go.WideShapes Go.ChangeAt

theorem own : ownKnob Try.prog.godebug = none := by kernel_rfl
theorem kids : Kids Try.prog (· < Try.prog.types.size) := kids_rows (by kernel_rfl) (by kernel_rfl)
theorem full : ∀ t e, t < Try.prog.types.size → Try.prog.underlying t = some (.slice e) → 0 < Try.prog.cellsOf e := slices_full_of Try.prog (by kernel_rfl)

set_option maxRecDepth 100000 in
theorem lifted (os : Os) (started : os.Started) (H : Type) (enc : TypeId × Value → H) :
    ReturnsInHanded {} Try.checked os 7 .any (Rows.engineCursorsSpec.pre6 enc Try.prog Try.f7 Rows.engineCursorsRow.domain false) (Rows.engineCursorsSpec.post enc Try.prog Try.f7 false true false false) := by
  refine returnsInHanded_of_change (C := Try.checked) own started (by kernel_rfl) Try.func7
    (ChangeSpec.witness6 (enc := enc) (C := Try.checked) false ⟨#[], #[.slice none 0 0, .slice none 0 0, .int .i64 0, .agg #[.string ⟨#[]⟩, .string ⟨#[]⟩]], []⟩ 8 (by kernel_rfl) (by kernel_rfl) (by kernel_rfl) (by kernel_rfl)) ?_
  intro W base args ds gs before hval0 hW _ _
  have hval : ∀ (j : Nat) t v, Try.f7.params[j]? = some t → args[j]? = some v → Value.okWide Try.prog W .any base t v := hval0
  have hW' := hW
  obtain ⟨p, q, hA0, hV, rfl, _, _⟩ := hW
  obtain ⟨rfl, rfl⟩ := trodVars_none hV
  have hA : DataW.TrodAll enc Try.prog W 0 (fun _ => true) true Try.f7.params.toList args.toList ds p := hA0
  rw [Try.params7] at hA hval
  obtain ⟨v0, vs0, d0, ds0, p0, q0, hargs, rfl, rfl, h0, r0⟩ := trodAll_cons hA
  obtain ⟨v1, vs1, d1, ds1, p1, q1, rfl, rfl, rfl, h1, r1⟩ := trodAll_cons r0
  obtain ⟨v2, vs2, d2, ds2, p2, q2, rfl, rfl, rfl, h2, r2⟩ := trodAll_cons r1
  obtain ⟨v3, vs3, d3, ds3, p3, q3, rfl, rfl, rfl, h3, r3⟩ := trodAll_cons r2
  obtain ⟨rfl, rfl, rfl⟩ := trodAll_nil r3
  obtain rfl : args = #[v0, v1, v2, v3] := by cases args; simp_all
  have hlt := hW'.lt
  obtain ⟨A0, n0, c0, l0, rfl, hnc0, hm0, hb0, hs0⟩ := open_crs Try.underlying29 (by kernel_rfl) Try.underlying22 Try.underlying38 (by kernel_rfl) ⟨rfl, rfl, rfl⟩ ⟨by kernel_rfl, by kernel_rfl, by kernel_rfl⟩ ⟨by kernel_rfl, by kernel_rfl, by kernel_rfl⟩ (hval 0 29 v0 rfl rfl) h0 (fun x hx => hlt x (by simp [hx]))
  obtain ⟨A1, n1, c1, l1, rfl, hnc1, hm1, hb1, hs1⟩ := open_crs Try.underlying29 (by kernel_rfl) Try.underlying22 Try.underlying38 (by kernel_rfl) ⟨rfl, rfl, rfl⟩ ⟨by kernel_rfl, by kernel_rfl, by kernel_rfl⟩ ⟨by kernel_rfl, by kernel_rfl, by kernel_rfl⟩ (hval 1 29 v1 rfl rfl) h1 (fun x hx => hlt x (by simp [hx]))
  obtain ⟨k2, rfl, _, _, _⟩ := open_int Try.underlying3 (hval 2 3 v2 rfl rfl) h2
  obtain ⟨x3, y3, rfl, wx3, wy3⟩ := open_range Try.underlying35 (by kernel_rfl) ⟨rfl, rfl⟩ ⟨by kernel_rfl, by kernel_rfl⟩ ⟨by kernel_rfl, by kernel_rfl⟩ (hval 3 35 v3 rfl rfl) h3
  refine (cursors_walk A0 A1 n0 c0 n1 c1 k2 l0 l1 x3 y3 W hb0 hnc0 hm0 hs0 hb1 hnc1 hm1 hs1 ⟨wx3, wy3⟩).mono fun e W' ⟨he, hbel⟩ => ?_
  subst he
  exact ⟨_, rfl, law_post kids full (of_decide_eq_true (by kernel_rfl)) Try.underlying4 rfl rfl rfl hW' hbel⟩

theorem proved : Rows.EngineCursorsSaid :=
  OpenClaim.holds_of_wide 7 Try.f7 rfl rfl rfl rfl rfl rfl rfl ⟨rfl, rfl, rfl, rfl, rfl⟩ rfl rfl rfl rfl rfl (by kernel_rfl) Try.func7 (by kernel_rfl)
    (of_decide_eq_true (by kernel_rfl)) (by unfold Func.isWrapper; first | (rw [if_pos (by decide +kernel)]; kernel_rfl) | (rw [if_neg (by decide +kernel)]; exact ⟨rfl, rfl⟩))
    (fun os started H enc _ => lifted os started H enc)
end lawEngineCursors

end Go.Proofs.Yteioopcacpihpaa
