/- EngineCuts: what is cut is put together again; the parts go their own ways. No condition. -/
import Derived.Test.YteioopcacpihpaaMExD
import Derived.Test.YteioopcacpihpaaMExG
import Derived.Test.YteioopcacpihpaaMExJ
import Derived.Test.YteioopcacpihpaaMExA
import Derived.Test.YteioopcacpihpaaMExC
import Derived.Deep.RegionHeld3
import Derived.Test.YteioopcacpihpaaMExB
import Derived.Deep.RegionWith
import Derived.Test.YteioopcacpihpaaMExO
namespace Go.Proofs.Yteioopcacpihpaa
open Go.RowKit
open Go.Lib (strCells compareBytes)

theorem bodyL_succ {l : List Chg} {k : Nat} {c : Chg} (h : l[k]? = some c) : bodyL (l.take (k + 1)) = bodyL (l.take k) ++ (textForm c.k.data.toList ++ ([if c.g then 1 else 0] ++ textForm c.v.data.toList)) := by
  rw [take_snocC h, bodyL_app]
  simp [bodyL, chgForm, goneN_one]
theorem own_eqB {w : World} {B m m' : Nat} {v : Value} {xs xs' : List Value} (h : w.ownsRow B 5 1 v m xs) (hm : m = m') (hx : xs = xs') : w.ownsRow B 5 1 v m' xs' := by
  subst hm
  subst hx
  exact h
/-- bytes that the call owns -/
def OwnBs (w : World) (B : Nat) (v : Value) (l : List UInt8) : Prop := w.ownsRow B 5 1 v l.length (byteCells l)
theorem OwnBs.app {w' : World} {B m : Nat} {v : Value} {a b : List UInt8} (h : w'.ownsRow B 5 1 v (a.length + m) (byteCells a ++ byteCells b)) (hm : m = b.length) : OwnBs w' B v (a ++ b) := by
  subst hm
  unfold OwnBs
  rw [List.length_append, byteCells_app]
  exact h
set_option maxRecDepth 100000 in
set_option maxHeartbeats 3200000 in
theorem refPack_any (A : Option Addr) (n ca C : Nat) (l : List Chg) (w : World) (h : HasChs w C A n l) (hC : C ≤ w.heap.size) (hn : n ≤ 1200) (hs : ∀ x ∈ l, x.k.size ≤ 4000 ∧ x.v.size ≤ 4000) :
    Calls Try.prog 64 #[.slice A n ca] w (PackPost w.heap.size l w) := by
  have Hw := Lib.hid (refRight_any A n ca C l w h (by unfold maxLen; omega) hC)
  have H := Lib.hid h
  have HC := Lib.hid hC
  have Hs := Lib.hid hs
  have Hl := Lib.hid h.1
  clear h hC hs
  by_cases hr : Run l
  · have Hr := Lib.hid hr
    rw [runB_true hr] at Hw
    clear hr
    have Hbl : Hid (∀ k, (bodyL (l.take k)).length ≤ 10800000) := Lib.hid fun k => by
      have h1 := bodyL_le (l := l.take k) fun x hx => Hs.out x (List.mem_of_mem_take hx)
      rw [List.length_take, Hl.out] at h1
      omega
    have Hnl : Hid ((numForm n).length ≤ 9) := Lib.hid (numForm_len9 (by omega))
    go_enter Try.func64, Try.ntmps64
    go_wp2_with fail
    refine Hw.out.mono ?_
    rintro e w1 ⟨rfl, hb1⟩
    have Hb1 := Lib.hid hb1
    clear hb1
    go_wp2_with fail
    refine (refPutNum_any (n : Int) w1 (by omega)).mono ?_
    rintro e w2 ⟨v2, rfl, ho2, hb2⟩
    rw [if_neg (by omega), Int.toNat_natCast] at ho2
    have Ho2 : Hid (OwnBs w2 w.heap.size v2 (numForm n ++ bodyL (l.take 0))) := Lib.hid (by simp [bodyL]; exact own_base ho2 Hb1.out.size)
    have Hb2 := Lib.hid (Hb1.out.trans (hb2.mono Hb1.out.size))
    clear ho2 hb2
    go_wp2
    go_loopw [4, 5] (fun o i wr => ∃ k : Nat, k ≤ n ∧ i = .int .i64 (k : Int) ∧ OwnBs wr w.heap.size o (numForm n ++ bodyL (l.take k)) ∧ Below w.heap.size w wr) (fun _ i _ => n - (intOf i).toNat)
    case atStart => exact ⟨0, by omega, rfl, Ho2.out, Hb2.out⟩
    case round =>
      clear Ho2 Hb2
      obtain ⟨k, hk, rfl, ho, hb⟩ := hrel
      have Ho := Lib.hid ho
      have Hb := Lib.hid hb
      have hsz := hb.size
      clear hb ho
      by_cases hlt : k < n
      · obtain ⟨a, y, rfl, hab, hy, c0, c1, c2⟩ := (H.out.belowOf Hb.out HC.out).at_ hlt
        have Hbs := Lib.hid (bodyL_succ hy)
        have hys := Hs.out y (List.mem_of_getElem? hy)
        have Hy := Lib.hid hy
        have Hlen : Hid ((numForm n ++ bodyL (l.take k)).length ≤ 10800009) := Lib.hid (by rw [List.length_append]; have := Hbl.out k; have := Hnl.out; omega)
        clear hy
        obtain ⟨yk, yv, yg⟩ := y
        simp only at c0 c1 c2 hys Hbs
        have hlk := textForm_le (s := yk.data.toList) (by rw [← Lib.size_eq]; exact hys.1)
        have hlv := textForm_le (s := yv.data.toList) (by rw [← Lib.size_eq]; exact hys.2)
        cases yg with
        | false =>
          go_wp2_with fail
          refine (refPutText_any yk wr (by omega)).mono ?_
          rintro e w3 ⟨v3, rfl, o3, b3⟩
          obtain ⟨A3, m3, rfl, -, -, x3⟩ := own_slice o3
          have X3 := Lib.hid x3
          have Ho3 := Lib.hid (own_below Ho.out b3)
          have Hb3 := Lib.hid (Hb.out.trans (b3.mono hsz))
          have hsz3 : w.heap.size ≤ w3.heap.size := Nat.le_trans hsz b3.size
          have Hr3 := Lib.hid (b3.mono hsz)
          clear o3 x3 b3
          have Hpost4 : Hid (∀ v4 w4, w4.ownsRow w.heap.size 5 1 v4 ((numForm n ++ bodyL (l.take k)).length + (textForm yk.data.toList).length) (byteCells (numForm n ++ bodyL (l.take k)) ++ byteCells (textForm yk.data.toList)) → w3.grownBy w4 _ →
              OwnBs w4 w.heap.size v4 ((numForm n ++ bodyL (l.take k)) ++ textForm yk.data.toList) ∧ Below w.heap.size w w4 ∧ w.heap.size ≤ w4.heap.size ∧ w4.cell? ⟨(a.add (k * 3)).block, (a.add (k * 3)).off + 2, none⟩ = some (.bool false) ∧ w4.cell? ⟨(a.add (k * 3)).block, (a.add (k * 3)).off + 1, none⟩ = some (.string yv)) := Lib.hid fun v4 w4 o4 g4 => by
            have hbB : Below w.heap.size w3 w4 := (Below.refl _ _).grown g4 hsz3 fun g e => (Ho3.out.lt g e).1
            exact ⟨OwnBs.app o4 rfl, Hb3.out.trans hbB, (Hb3.out.trans hbB).size, ((Hr3.out.trans hbB).cell (p := ⟨(a.add (k * 3)).block, (a.add (k * 3)).off + 2, none⟩) (by show (a.add (k * 3)).block < _; rw [addr_block]; exact Nat.lt_of_lt_of_le hab HC.out)).trans c2, ((Hr3.out.trans hbB).cell (p := ⟨(a.add (k * 3)).block, (a.add (k * 3)).off + 1, none⟩) (by show (a.add (k * 3)).block < _; rw [addr_block]; exact Nat.lt_of_lt_of_le hab HC.out)).trans c1⟩
          have Hlen4 : Hid (((numForm n ++ bodyL (l.take k)) ++ textForm yk.data.toList).length ≤ 10805000) := Lib.hid (by rw [List.length_append]; have := Hlen.out; omega)
          clear c0 c1 c2
          go_wp2_with (first
            | (at_builtin; refine wpList_append_has rfl (.tmp 18) (.tmp 24) _ rfl 5 u8_elem Try.underlying63 rfl Ho3.out rfl X3.out (byteCells_one _) (by have := Hlen.out; simp only [maxLen]; omega) (by have := Hlen.out; omega) hsz3 ?_; intro v4 w4 o4 g4 _; obtain ⟨ho4, hb4, hsz4, hcg, hcv⟩ := Hpost4.out v4 w4 o4 g4; have Ho4 := Lib.hid ho4; have Hb4 := Lib.hid hb4; clear ho4 hb4; have hszL : w.heap.size ≤ (w4.alloc (Obj.cells #[.int .u8 0] 5)).heap.size := (by simp only [World.size_alloc]; omega))
            | (at_builtin; refine wpList_append_has rfl (.tmp 34) (.tmp 35) _ rfl 5 u8_elem Try.underlying63 rfl (own_below Ho4.out (below_box (Obj.cells #[.int .u8 0] 5))) rfl (Has.lit w4 #[.int .u8 0] 5) (fun u hu => by simp at hu; subst hu; rfl) (by have := Hlen4.out; simp only [maxLen]; omega) (by have := Hlen4.out; omega) hszL ?_; intro v5 w5 o5 g5 _; have hbA : Below w.heap.size w4 w5 := ((Below.refl _ w4).alloc hsz4 (Obj.cells #[.int .u8 0] 5)).trans ((Below.refl _ _).grown g5 hszL fun g e => (Ho4.out.lt g e).1); have hcv5 : w5.cell? ⟨(a.add (k * 3)).block, (a.add (k * 3)).off + 1, none⟩ = some (.string yv) := (hbA.cell (p := ⟨(a.add (k * 3)).block, (a.add (k * 3)).off + 1, none⟩) (by show (a.add (k * 3)).block < _; rw [addr_block]; exact Nat.lt_of_lt_of_le hab HC.out)).trans hcv))
          have Ho5 : Hid (OwnBs w5 w.heap.size v5 ((numForm n ++ bodyL (l.take k)) ++ textForm yk.data.toList ++ [0])) := Lib.hid (OwnBs.app (b := [0]) (m := 1) o5 rfl)
          have Hb5 := Lib.hid (Hb4.out.trans hbA)
          have hsz5 : w.heap.size ≤ w5.heap.size := Hb5.out.size
          clear o5 g5 hbA
          refine (refPutText_any yv w5 (by omega)).mono ?_
          rintro e w6 ⟨v6, rfl, o6, b6⟩
          obtain ⟨A6, m6, rfl, -, -, x6⟩ := own_slice o6
          have X6 := Lib.hid x6
          have Ho6 := Lib.hid (own_below Ho5.out b6)
          have Hb6 := Lib.hid (Hb5.out.trans (b6.mono hsz5))
          have hsz6 : w.heap.size ≤ w6.heap.size := Nat.le_trans hsz5 b6.size
          have Hlen6 : Hid (((numForm n ++ bodyL (l.take k)) ++ textForm yk.data.toList ++ [0]).length ≤ 10810000) := Lib.hid (by rw [List.length_append]; have := Hlen4.out; simp only [List.length_cons, List.length_nil]; omega)
          clear o6 x6 b6
          go_wp2_with (at_builtin; refine wpList_append_has rfl (.tmp 37) (.tmp 43) _ rfl 5 u8_elem Try.underlying63 rfl Ho6.out rfl X6.out (byteCells_one _) (by have := Hlen6.out; simp only [maxLen]; omega) (by have := Hlen6.out; omega) hsz6 ?_; intro v7 w7 o7 g7 _)
          have Ho7 : Hid (OwnBs w7 w.heap.size v7 (numForm n ++ bodyL (l.take (k + 1)))) := Lib.hid (by
            have h1 := OwnBs.app (a := (numForm n ++ bodyL (l.take k)) ++ textForm yk.data.toList ++ [0]) (b := textForm yv.data.toList) o7 rfl
            rw [Hbs.out]
            simpa [List.append_assoc] using h1)
          have Hb7 := Lib.hid (Hb6.out.trans ((Below.refl _ _).grown g7 hsz6 fun g e => (Ho6.out.lt g e).1))
          clear o7 g7
          go_wp2
          go_roundw
          case rel => exact ⟨k + 1, by omega, by go_num, Ho7.out, Hb7.out⟩
          case measure => simp [intOf]; omega
        | true =>
          go_wp2_with fail
          refine (refPutText_any yk wr (by omega)).mono ?_
          rintro e w3 ⟨v3, rfl, o3, b3⟩
          obtain ⟨A3, m3, rfl, -, -, x3⟩ := own_slice o3
          have X3 := Lib.hid x3
          have Ho3 := Lib.hid (own_below Ho.out b3)
          have Hb3 := Lib.hid (Hb.out.trans (b3.mono hsz))
          have hsz3 : w.heap.size ≤ w3.heap.size := Nat.le_trans hsz b3.size
          have Hr3 := Lib.hid (b3.mono hsz)
          clear o3 x3 b3
          have Hpost4 : Hid (∀ v4 w4, w4.ownsRow w.heap.size 5 1 v4 ((numForm n ++ bodyL (l.take k)).length + (textForm yk.data.toList).length) (byteCells (numForm n ++ bodyL (l.take k)) ++ byteCells (textForm yk.data.toList)) → w3.grownBy w4 _ →
              OwnBs w4 w.heap.size v4 ((numForm n ++ bodyL (l.take k)) ++ textForm yk.data.toList) ∧ Below w.heap.size w w4 ∧ w.heap.size ≤ w4.heap.size ∧ w4.cell? ⟨(a.add (k * 3)).block, (a.add (k * 3)).off + 2, none⟩ = some (.bool true) ∧ w4.cell? ⟨(a.add (k * 3)).block, (a.add (k * 3)).off + 1, none⟩ = some (.string yv)) := Lib.hid fun v4 w4 o4 g4 => by
            have hbB : Below w.heap.size w3 w4 := (Below.refl _ _).grown g4 hsz3 fun g e => (Ho3.out.lt g e).1
            exact ⟨OwnBs.app o4 rfl, Hb3.out.trans hbB, (Hb3.out.trans hbB).size, ((Hr3.out.trans hbB).cell (p := ⟨(a.add (k * 3)).block, (a.add (k * 3)).off + 2, none⟩) (by show (a.add (k * 3)).block < _; rw [addr_block]; exact Nat.lt_of_lt_of_le hab HC.out)).trans c2, ((Hr3.out.trans hbB).cell (p := ⟨(a.add (k * 3)).block, (a.add (k * 3)).off + 1, none⟩) (by show (a.add (k * 3)).block < _; rw [addr_block]; exact Nat.lt_of_lt_of_le hab HC.out)).trans c1⟩
          have Hlen4 : Hid (((numForm n ++ bodyL (l.take k)) ++ textForm yk.data.toList).length ≤ 10805000) := Lib.hid (by rw [List.length_append]; have := Hlen.out; omega)
          clear c0 c1 c2
          go_wp2_with (first
            | (at_builtin; refine wpList_append_has rfl (.tmp 18) (.tmp 24) _ rfl 5 u8_elem Try.underlying63 rfl Ho3.out rfl X3.out (byteCells_one _) (by have := Hlen.out; simp only [maxLen]; omega) (by have := Hlen.out; omega) hsz3 ?_; intro v4 w4 o4 g4 _; obtain ⟨ho4, hb4, hsz4, hcg, hcv⟩ := Hpost4.out v4 w4 o4 g4; have Ho4 := Lib.hid ho4; have Hb4 := Lib.hid hb4; clear ho4 hb4; have hszL : w.heap.size ≤ (w4.alloc (Obj.cells #[.int .u8 1] 5)).heap.size := (by simp only [World.size_alloc]; omega))
            | (at_builtin; refine wpList_append_has rfl (.tmp 31) (.tmp 32) _ rfl 5 u8_elem Try.underlying63 rfl (own_below Ho4.out (below_box (Obj.cells #[.int .u8 1] 5))) rfl (Has.lit w4 #[.int .u8 1] 5) (fun u hu => by simp at hu; subst hu; rfl) (by have := Hlen4.out; simp only [maxLen]; omega) (by have := Hlen4.out; omega) hszL ?_; intro v5 w5 o5 g5 _; have hbA : Below w.heap.size w4 w5 := ((Below.refl _ w4).alloc hsz4 (Obj.cells #[.int .u8 1] 5)).trans ((Below.refl _ _).grown g5 hszL fun g e => (Ho4.out.lt g e).1); have hcv5 : w5.cell? ⟨(a.add (k * 3)).block, (a.add (k * 3)).off + 1, none⟩ = some (.string yv) := (hbA.cell (p := ⟨(a.add (k * 3)).block, (a.add (k * 3)).off + 1, none⟩) (by show (a.add (k * 3)).block < _; rw [addr_block]; exact Nat.lt_of_lt_of_le hab HC.out)).trans hcv))
          have Ho5 : Hid (OwnBs w5 w.heap.size v5 ((numForm n ++ bodyL (l.take k)) ++ textForm yk.data.toList ++ [1])) := Lib.hid (OwnBs.app (b := [1]) (m := 1) o5 rfl)
          have Hb5 := Lib.hid (Hb4.out.trans hbA)
          have hsz5 : w.heap.size ≤ w5.heap.size := Hb5.out.size
          clear o5 g5 hbA
          refine (refPutText_any yv w5 (by omega)).mono ?_
          rintro e w6 ⟨v6, rfl, o6, b6⟩
          obtain ⟨A6, m6, rfl, -, -, x6⟩ := own_slice o6
          have X6 := Lib.hid x6
          have Ho6 := Lib.hid (own_below Ho5.out b6)
          have Hb6 := Lib.hid (Hb5.out.trans (b6.mono hsz5))
          have hsz6 : w.heap.size ≤ w6.heap.size := Nat.le_trans hsz5 b6.size
          have Hlen6 : Hid (((numForm n ++ bodyL (l.take k)) ++ textForm yk.data.toList ++ [1]).length ≤ 10810000) := Lib.hid (by rw [List.length_append]; have := Hlen4.out; simp only [List.length_cons, List.length_nil]; omega)
          clear o6 x6 b6
          go_wp2_with (at_builtin; refine wpList_append_has rfl (.tmp 37) (.tmp 43) _ rfl 5 u8_elem Try.underlying63 rfl Ho6.out rfl X6.out (byteCells_one _) (by have := Hlen6.out; simp only [maxLen]; omega) (by have := Hlen6.out; omega) hsz6 ?_; intro v7 w7 o7 g7 _)
          have Ho7 : Hid (OwnBs w7 w.heap.size v7 (numForm n ++ bodyL (l.take (k + 1)))) := Lib.hid (by
            have h1 := OwnBs.app (a := (numForm n ++ bodyL (l.take k)) ++ textForm yk.data.toList ++ [1]) (b := textForm yv.data.toList) o7 rfl
            rw [Hbs.out]
            simpa [List.append_assoc] using h1)
          have Hb7 := Lib.hid (Hb6.out.trans ((Below.refl _ _).grown g7 hsz6 fun g e => (Ho6.out.lt g e).1))
          clear o7 g7
          go_wp2
          go_roundw
          case rel => exact ⟨k + 1, by omega, by go_num, Ho7.out, Hb7.out⟩
          case measure => simp [intOf]; omega
      · obtain rfl : k = n := by omega
        have E : Hid (l.take k = l) := Lib.hid (List.take_of_length_le (by have := Hl.out; omega))
        have HE : Hid (numForm k ++ bodyL (l.take k) = packL l) := Lib.hid (by rw [E.out]; unfold packL; rw [Hl.out])
        rw [HE.out] at Ho
        go_wp2
        go_ret2
        exact ⟨Hb.out, .inl ⟨Hr.out, _, rfl, Ho.out⟩⟩
  · have Hr := Lib.hid hr
    rw [runB_false hr] at Hw
    clear hr
    go_enter Try.func64, Try.ntmps64
    go_wp2_with fail
    refine Hw.out.mono ?_
    rintro e w1 ⟨rfl, hb1⟩
    have Hb1 := Lib.hid hb1
    clear hb1
    go_wp2
    go_ret2
    exact ⟨Hb1.out, .inr ⟨Hr.out, rfl⟩⟩
end Go.Proofs.Yteioopcacpihpaa

namespace Go.Proofs.Yteioopcacpihpaa
open Go.RowKit
open Go.Lib (strCells compareBytes)

theorem box5 {w wz : World} {a b c d e : Value} {t : TypeId} (hb : Below (w.heap.size + 1) (w.alloc (.cells #[a, b, c, d, e] t)) wz) :
    wz.cell? ⟨w.heap.size, 0, none⟩ = some a ∧ wz.cell? ⟨w.heap.size, 1, none⟩ = some b ∧ wz.cell? ⟨w.heap.size, 2, none⟩ = some c ∧ wz.cell? ⟨w.heap.size, 3, none⟩ = some d ∧ wz.cell? ⟨w.heap.size, 4, none⟩ = some e := by
  have hx := (Box.made w t #[a, b, c, d, e]).below hb (by simp)
  exact ⟨hx.cell 0, hx.cell 1, hx.cell 2, hx.cell 3, hx.cell 4⟩
set_option maxRecDepth 100000 in
set_option maxHeartbeats 6400000 in
theorem refUnpack_any (A : Option Addr) (n c C : Nat) (b : List UInt8) (w : World) (h : HasBytes w C A n b) (hC : C ≤ w.heap.size) (hn : n ≤ 1000000) (hnc : n ≤ c) :
    Calls Try.prog 40 #[.slice A n c] w (UnpackPost (unpackT b) w) := by
  obtain ⟨⟨x, u, ne⟩, hnn⟩ : ∃ r, getNum b 0 = r := ⟨_, rfl⟩
  have Hn := Lib.hid (refNum_any A n c C 0 b w h hC (by omega))
  rw [hnn] at Hn
  simp only [got] at Hn
  have HN := Lib.hid hnn
  have H := Lib.hid h
  have HC := Lib.hid hC
  have Hl := Lib.hid h.len
  have Hnum := Lib.hid (fun (p : Nat) wx (hx : Below w.heap.size w wx) => refNum_any A n c C (p : Int) b wx (Has.belowOf h hx hC) (Nat.le_trans hC hx.size) (by omega))
  have Htxt := Lib.hid (fun (p : Nat) wx (hx : Below w.heap.size w wx) => refText_any A n c C (p : Int) 9223372036854775807 b wx (Has.belowOf h hx hC) (Nat.le_trans hC hx.size) (by omega) hnc)
  have hbd : ne = 0 → x < 9223372036854775808 ∧ u ≤ n := fun e => by
    have := getNum_bound (l := b) (p := 0) (by rw [hnn]; exact e)
    rw [hnn, h.len] at this
    exact ⟨this.2.1, this.2.2.2⟩
  clear h hC hnn
  by_cases h1 : ne = 0
  · subst h1
    obtain ⟨hx, hu⟩ := hbd rfl
    have Hub := Lib.hid hu
    clear hbd hu
    go_enter Try.func40, Try.ntmps40
    go_wp2_with fail
    refine Hn.out.mono ?_
    rintro e w1 ⟨rfl, hb1⟩
    have Hb1 := Lib.hid hb1
    clear hb1
    go_wp2
    go_loopw [5, 6, 7, 8, 9, 10] (fun av o iv _ _ _ wr => ∃ (i q : Nat) (acc : List Chg), iv = .int .i64 (i : Int) ∧ av = .int .i64 (q : Int) ∧ Hid (i ≤ x) ∧ OwnChs wr (w1.heap.size + 1) o acc ∧ Hid (readC b i u = (0, acc, q)) ∧ Below (w1.heap.size + 1) (w1.alloc (Obj.cells #[.int .i64 (x : Int), .string ⟨#[]⟩, .slice none 0 0, .int .i64 (u : Int), .int .i64 (0 : Int)] 99)) wr) (fun _ _ iv _ _ _ _ => x - (intOf iv).toNat)
    case atStart => exact ⟨0, u, [], rfl, rfl, Lib.hid (by omega), OwnChs.nil _ _, Lib.hid rfl, Below.refl _ _⟩
    case round =>
      obtain ⟨i, q, acc, rfl, rfl, Hi, ho, Hrd, hb⟩ := hrel
      have Ho := Lib.hid ho
      have Hb := Lib.hid hb
      have hsz : w1.heap.size + 1 ≤ wr.heap.size := by have := hb.size; simpa using this
      obtain ⟨z0, -, -, -, -⟩ := box5 hb
      have hok := readC_ok (b := b) (m := i) (p := u) (by rw [Hrd.out]) (by rw [Hl.out]; exact Hub.out)
      rw [Hrd.out, Hl.out] at hok
      obtain ⟨k1, k2, k3, k4, -⟩ := hok
      simp only at k1 k2 k3 k4
      have Hwr := Lib.hid (Hb1.out.trans ((below_in hb (Nat.le_refl _)).mono Hb1.out.size))
      have hwsz : w.heap.size ≤ w1.heap.size := Hb1.out.size
      clear ho hb k1
      by_cases hlt : i < x
      · obtain ⟨⟨ts, tq, te⟩, ht⟩ : ∃ r, getText b q 9223372036854775807 = r := ⟨_, rfl⟩
        have Ht := Lib.hid (Htxt.out q wr Hwr.out)
        rw [ht] at Ht
        simp only [got] at Ht
        have HT := Lib.hid ht
        have hi63 : i < 4000000 := by omega
        clear ht
        by_cases h1 : te = 0
        · subst h1
          go_wp2_with fail
          refine Ht.out.mono ?_
          rintro e w2 ⟨rfl, hb2⟩
          have Hw2 := Lib.hid (Hwr.out.trans (hb2.mono Hwr.out.size))
          have hsz2 : wr.heap.size ≤ w2.heap.size := hb2.size
          have Hr2 := Lib.hid hb2
          have Hw3 := Lib.hid (Hw2.out.alloc Hw2.out.size (Obj.cells #[.int .i64 (0 : Int), .string ⟨ts.toArray⟩, .slice none 0 0, .int .i64 (tq : Int), .int .i64 (0 : Int)] 99))
          clear hb2
          obtain ⟨⟨nx, nu, ge⟩, hg⟩ : ∃ r, getNum b tq = r := ⟨_, rfl⟩
          have Hg := Lib.hid (Hnum.out tq _ Hw3.out)
          rw [hg] at Hg
          simp only [got] at Hg
          have HG := Lib.hid hg
          clear hg
          by_cases h2 : ge = 0
          · subst h2
            go_wp2_with fail
            refine Hg.out.mono ?_
            rintro e w4 ⟨rfl, hb4⟩
            have hb4' : Below (w2.heap.size + 1) (w2.alloc (Obj.cells #[.int .i64 (0 : Int), .string ⟨ts.toArray⟩, .slice none 0 0, .int .i64 (tq : Int), .int .i64 (0 : Int)] 99)) w4 := by simpa using hb4
            have Hk4 := Lib.hid hb4'
            have Hw4 := Lib.hid (Hw3.out.trans (hb4.mono Hw3.out.size))
            have hsz4 : w2.heap.size + 1 ≤ w4.heap.size := by have := hb4'.size; simpa using this
            have Hw5 := Lib.hid (Hw4.out.alloc Hw4.out.size (Obj.cells #[.int .i64 (nx : Int), .string ⟨#[]⟩, .slice none 0 0, .int .i64 (nu : Int), .int .i64 (0 : Int)] 99))
            clear hb4
            by_cases h3 : 1 < nx
            · have E := Lib.hid (unpackT_e2 HN.out (readC_err Hrd.out hlt (by rw [getChg_e3 HT.out HG.out h3]; simp)) (by rw [getChg_e3 HT.out HG.out h3]; simp))
              rw [getChg_e3 HT.out HG.out h3] at E
              clear hb4'
              go_wp2
              go_ret2
              exact ⟨_, by rw [E.out]; rfl, by rw [E.out]; exact OwnChs.nil _ _, Hw5.out⟩
            · obtain ⟨⟨vs, vq, ve⟩, hv⟩ : ∃ r, getText b nu 9223372036854775807 = r := ⟨_, rfl⟩
              have Hv := Lib.hid (Htxt.out nu _ Hw5.out)
              rw [hv] at Hv
              simp only [got] at Hv
              have HV := Lib.hid hv
              clear hv hb4'
              by_cases h4 : ve = 0
              · subst h4
                have Hc5 := Lib.hid (getChg_e5 HT.out HG.out h3 HV.out)
                have Hrd1 := Lib.hid (readC_step Hrd.out (by rw [Hc5.out]))
                rw [Hc5.out] at Hrd1
                have hx01 : nx = 0 ∨ nx = 1 := by omega
                clear h3
                rcases hx01 with rfl | rfl
                · go_wp2_with fail
                  refine Hv.out.mono ?_
                  rintro e w6 ⟨rfl, hb6⟩
                  have hb6' : Below (w4.heap.size + 1) (w4.alloc (Obj.cells #[.int .i64 (0 : Int), .string ⟨#[]⟩, .slice none 0 0, .int .i64 (nu : Int), .int .i64 (0 : Int)] 99)) w6 := by simpa using hb6
                  have Hw6 := Lib.hid (Hw5.out.trans (hb6.mono Hw5.out.size))
                  have hsz6 : w4.heap.size + 1 ≤ w6.heap.size := by have := hb6'.size; simpa using this
                  have hk7 : Below (w2.heap.size + 1) (w2.alloc (Obj.cells #[.int .i64 (0 : Int), .string ⟨ts.toArray⟩, .slice none 0 0, .int .i64 (tq : Int), .int .i64 (0 : Int)] 99)) (w6.alloc (Obj.cells #[.int .i64 (0 : Int), .string ⟨vs.toArray⟩, .slice none 0 0, .int .i64 (vq : Int), .int .i64 (0 : Int)] 99)) := (Hk4.out.trans ((((Below.refl _ w4).alloc (Nat.le_refl _) _).trans (hb6'.mono (by omega))).mono hsz4)).alloc (by omega) _
                  have hg7 : Below (w4.heap.size + 1) (w4.alloc (Obj.cells #[.int .i64 (0 : Int), .string ⟨#[]⟩, .slice none 0 0, .int .i64 (nu : Int), .int .i64 (0 : Int)] 99)) (w6.alloc (Obj.cells #[.int .i64 (0 : Int), .string ⟨vs.toArray⟩, .slice none 0 0, .int .i64 (vq : Int), .int .i64 (0 : Int)] 99)) := hb6'.alloc (by omega) _
                  obtain ⟨-, t1, -, -, -⟩ := box5 hk7
                  obtain ⟨g0, -, -, -, -⟩ := box5 hg7
                  have hr7 : Below wr.heap.size wr (w6.alloc (Obj.cells #[.int .i64 (0 : Int), .string ⟨vs.toArray⟩, .slice none 0 0, .int .i64 (vq : Int), .int .i64 (0 : Int)] 99)) := (Hr2.out.trans ((((Below.refl _ w2).alloc (Nat.le_refl _) (Obj.cells #[.int .i64 (0 : Int), .string ⟨ts.toArray⟩, .slice none 0 0, .int .i64 (tq : Int), .int .i64 (0 : Int)] 99)).trans (hk7.mono (by omega))).mono hsz2))
                  have Ho7 := Lib.hid (Ho.out.below hr7)
                  have Hb7 : Hid (Below (w1.heap.size + 1) (w1.alloc (Obj.cells #[.int .i64 (x : Int), .string ⟨#[]⟩, .slice none 0 0, .int .i64 (u : Int), .int .i64 (0 : Int)] 99)) (w6.alloc (Obj.cells #[.int .i64 (0 : Int), .string ⟨vs.toArray⟩, .slice none 0 0, .int .i64 (vq : Int), .int .i64 (0 : Int)] 99))) := Lib.hid (Hb.out.trans (hr7.mono hsz))
                  have hsz7 : w1.heap.size + 1 ≤ (w6.alloc (Obj.cells #[.int .i64 (0 : Int), .string ⟨vs.toArray⟩, .slice none 0 0, .int .i64 (vq : Int), .int .i64 (0 : Int)] 99)).heap.size := Nat.le_trans hsz hr7.size
                  have Hvb : Hid (Box (w6.alloc (Obj.cells #[.int .i64 (0 : Int), .string ⟨vs.toArray⟩, .slice none 0 0, .int .i64 (vq : Int), .int .i64 (0 : Int)] 99)) w6.heap.size 99 #[.int .i64 (0 : Int), .string ⟨vs.toArray⟩, .slice none 0 0, .int .i64 (vq : Int), .int .i64 (0 : Int)]) := Lib.hid (Box.made _ _ _)
                  have hszA : w1.heap.size + 1 ≤ ((w6.alloc (Obj.cells #[.int .i64 (0 : Int), .string ⟨vs.toArray⟩, .slice none 0 0, .int .i64 (vq : Int), .int .i64 (0 : Int)] 99)).alloc (Obj.cells #[.string ⟨ts.toArray⟩, .string ⟨vs.toArray⟩, .bool false] 38)).heap.size := by simp only [World.size_alloc] at hsz7 ⊢; omega
                  clear hb6 hb6' hk7 hg7 hr7
                  have Hlit : Hid (Has ((w6.alloc (Obj.cells #[.int .i64 (0 : Int), .string ⟨vs.toArray⟩, .slice none 0 0, .int .i64 (vq : Int), .int .i64 (0 : Int)] 99)).alloc (Obj.cells #[.string ⟨ts.toArray⟩, .string ⟨vs.toArray⟩, .bool false] 38)) (w6.heap.size + 1 + 1) (some ⟨w6.heap.size + 1, 0, none⟩) (1 * 3) (chgCells [⟨⟨ts.toArray⟩, ⟨vs.toArray⟩, false⟩])) := Lib.hid (by have h := chg_lit (w6.alloc (Obj.cells #[.int .i64 (0 : Int), .string ⟨vs.toArray⟩, .slice none 0 0, .int .i64 (vq : Int), .int .i64 (0 : Int)] 99)) ⟨⟨ts.toArray⟩, ⟨vs.toArray⟩, false⟩; simp only [World.size_alloc] at h; exact h)
                  go_wp2_with (at_builtin; refine wpList_append_hasN rfl (.tmp 55) (.tmp 64) _ rfl 38 chg_elem (by omega) Try.underlying22 rfl (own_drawn Ho7.out 0 _) rfl Hlit.out (chgCells_one _) (by simp only [maxLen]; omega) (by omega) hszA ?_; intro v8 w8 hown8 hg8 _; have hvn := ((Hvb.out.alloc (Obj.cells #[.string ⟨ts.toArray⟩, .string ⟨vs.toArray⟩, .bool false] 38)).grown hg8 (fun e => (by obtain ⟨cur, hc⟩ := own_typeP Ho7.out e.symm; have hbv := Hvb.out; unfold Box at hbv; rw [hbv] at hc; injection hc with hc; injection hc with _ hc _; exact absurd hc (by decide)))).cell 3)
                  have Hb8 := Lib.hid (below_app (k := 0) Hb7.out Ho7.out hg8 hsz7)
                  have Hown8 : Hid (OwnChs w8 (w1.heap.size + 1) v8 (acc ++ [⟨⟨ts.toArray⟩, ⟨vs.toArray⟩, false⟩])) := Lib.hid (by unfold OwnChs; rw [List.length_append, chgCells_app]; exact hown8)
                  clear hg8 hown8
                  go_wp2
                  go_roundw
                  case rel => exact ⟨i + 1, vq, _, by go_num, rfl, Lib.hid (by omega), Hown8.out, Hrd1, Hb8.out⟩
                  case measure => simp [intOf]; omega
                · go_wp2_with fail
                  refine Hv.out.mono ?_
                  rintro e w6 ⟨rfl, hb6⟩
                  have hb6' : Below (w4.heap.size + 1) (w4.alloc (Obj.cells #[.int .i64 (1 : Int), .string ⟨#[]⟩, .slice none 0 0, .int .i64 (nu : Int), .int .i64 (0 : Int)] 99)) w6 := by simpa using hb6
                  have Hw6 := Lib.hid (Hw5.out.trans (hb6.mono Hw5.out.size))
                  have hsz6 : w4.heap.size + 1 ≤ w6.heap.size := by have := hb6'.size; simpa using this
                  have hk7 : Below (w2.heap.size + 1) (w2.alloc (Obj.cells #[.int .i64 (0 : Int), .string ⟨ts.toArray⟩, .slice none 0 0, .int .i64 (tq : Int), .int .i64 (0 : Int)] 99)) (w6.alloc (Obj.cells #[.int .i64 (0 : Int), .string ⟨vs.toArray⟩, .slice none 0 0, .int .i64 (vq : Int), .int .i64 (0 : Int)] 99)) := (Hk4.out.trans ((((Below.refl _ w4).alloc (Nat.le_refl _) _).trans (hb6'.mono (by omega))).mono hsz4)).alloc (by omega) _
                  have hg7 : Below (w4.heap.size + 1) (w4.alloc (Obj.cells #[.int .i64 (1 : Int), .string ⟨#[]⟩, .slice none 0 0, .int .i64 (nu : Int), .int .i64 (0 : Int)] 99)) (w6.alloc (Obj.cells #[.int .i64 (0 : Int), .string ⟨vs.toArray⟩, .slice none 0 0, .int .i64 (vq : Int), .int .i64 (0 : Int)] 99)) := hb6'.alloc (by omega) _
                  obtain ⟨-, t1, -, -, -⟩ := box5 hk7
                  obtain ⟨g0, -, -, -, -⟩ := box5 hg7
                  have hr7 : Below wr.heap.size wr (w6.alloc (Obj.cells #[.int .i64 (0 : Int), .string ⟨vs.toArray⟩, .slice none 0 0, .int .i64 (vq : Int), .int .i64 (0 : Int)] 99)) := (Hr2.out.trans ((((Below.refl _ w2).alloc (Nat.le_refl _) (Obj.cells #[.int .i64 (0 : Int), .string ⟨ts.toArray⟩, .slice none 0 0, .int .i64 (tq : Int), .int .i64 (0 : Int)] 99)).trans (hk7.mono (by omega))).mono hsz2))
                  have Ho7 := Lib.hid (Ho.out.below hr7)
                  have Hb7 : Hid (Below (w1.heap.size + 1) (w1.alloc (Obj.cells #[.int .i64 (x : Int), .string ⟨#[]⟩, .slice none 0 0, .int .i64 (u : Int), .int .i64 (0 : Int)] 99)) (w6.alloc (Obj.cells #[.int .i64 (0 : Int), .string ⟨vs.toArray⟩, .slice none 0 0, .int .i64 (vq : Int), .int .i64 (0 : Int)] 99))) := Lib.hid (Hb.out.trans (hr7.mono hsz))
                  have hsz7 : w1.heap.size + 1 ≤ (w6.alloc (Obj.cells #[.int .i64 (0 : Int), .string ⟨vs.toArray⟩, .slice none 0 0, .int .i64 (vq : Int), .int .i64 (0 : Int)] 99)).heap.size := Nat.le_trans hsz hr7.size
                  have Hvb : Hid (Box (w6.alloc (Obj.cells #[.int .i64 (0 : Int), .string ⟨vs.toArray⟩, .slice none 0 0, .int .i64 (vq : Int), .int .i64 (0 : Int)] 99)) w6.heap.size 99 #[.int .i64 (0 : Int), .string ⟨vs.toArray⟩, .slice none 0 0, .int .i64 (vq : Int), .int .i64 (0 : Int)]) := Lib.hid (Box.made _ _ _)
                  have hszA : w1.heap.size + 1 ≤ ((w6.alloc (Obj.cells #[.int .i64 (0 : Int), .string ⟨vs.toArray⟩, .slice none 0 0, .int .i64 (vq : Int), .int .i64 (0 : Int)] 99)).alloc (Obj.cells #[.string ⟨ts.toArray⟩, .string ⟨vs.toArray⟩, .bool true] 38)).heap.size := by simp only [World.size_alloc] at hsz7 ⊢; omega
                  clear hb6 hb6' hk7 hg7 hr7
                  have Hlit : Hid (Has ((w6.alloc (Obj.cells #[.int .i64 (0 : Int), .string ⟨vs.toArray⟩, .slice none 0 0, .int .i64 (vq : Int), .int .i64 (0 : Int)] 99)).alloc (Obj.cells #[.string ⟨ts.toArray⟩, .string ⟨vs.toArray⟩, .bool true] 38)) (w6.heap.size + 1 + 1) (some ⟨w6.heap.size + 1, 0, none⟩) (1 * 3) (chgCells [⟨⟨ts.toArray⟩, ⟨vs.toArray⟩, true⟩])) := Lib.hid (by have h := chg_lit (w6.alloc (Obj.cells #[.int .i64 (0 : Int), .string ⟨vs.toArray⟩, .slice none 0 0, .int .i64 (vq : Int), .int .i64 (0 : Int)] 99)) ⟨⟨ts.toArray⟩, ⟨vs.toArray⟩, true⟩; simp only [World.size_alloc] at h; exact h)
                  go_wp2_with (at_builtin; refine wpList_append_hasN rfl (.tmp 55) (.tmp 64) _ rfl 38 chg_elem (by omega) Try.underlying22 rfl (own_drawn Ho7.out 0 _) rfl Hlit.out (chgCells_one _) (by simp only [maxLen]; omega) (by omega) hszA ?_; intro v8 w8 hown8 hg8 _; have hvn := ((Hvb.out.alloc (Obj.cells #[.string ⟨ts.toArray⟩, .string ⟨vs.toArray⟩, .bool true] 38)).grown hg8 (fun e => (by obtain ⟨cur, hc⟩ := own_typeP Ho7.out e.symm; have hbv := Hvb.out; unfold Box at hbv; rw [hbv] at hc; injection hc with hc; injection hc with _ hc _; exact absurd hc (by decide)))).cell 3)
                  have Hb8 := Lib.hid (below_app (k := 0) Hb7.out Ho7.out hg8 hsz7)
                  have Hown8 : Hid (OwnChs w8 (w1.heap.size + 1) v8 (acc ++ [⟨⟨ts.toArray⟩, ⟨vs.toArray⟩, true⟩])) := Lib.hid (by unfold OwnChs; rw [List.length_append, chgCells_app]; exact hown8)
                  clear hg8 hown8
                  go_wp2
                  go_roundw
                  case rel => exact ⟨i + 1, vq, _, by go_num, rfl, Lib.hid (by omega), Hown8.out, Hrd1, Hb8.out⟩
                  case measure => simp [intOf]; omega
              · have heb : ((ve : Int) != 0) = true := by simpa using h4
                have E := Lib.hid (unpackT_e2 HN.out (readC_err Hrd.out hlt (by rw [getChg_e4 HT.out HG.out h3 HV.out h4]; exact h4)) (by rw [getChg_e4 HT.out HG.out h3 HV.out h4]; exact h4))
                rw [getChg_e4 HT.out HG.out h3 HV.out h4] at E
                clear h4
                go_wp2_with fail
                refine Hv.out.mono ?_
                rintro e w6 ⟨rfl, hb6⟩
                have Hw6 := Lib.hid (Hw5.out.trans (hb6.mono Hw5.out.size))
                have Hw7 := Lib.hid (Hw6.out.alloc Hw6.out.size (Obj.cells #[.int .i64 (0 : Int), .string ⟨vs.toArray⟩, .slice none 0 0, .int .i64 (vq : Int), .int .i64 (ve : Int)] 99))
                clear hb6
                go_wp2
                go_quiet (fail)
                go_wp2
                go_ret2
                exact ⟨_, by rw [E.out]; rfl, by rw [E.out]; exact OwnChs.nil _ _, below_dr Hw7.out _⟩
          · have heb : ((ge : Int) != 0) = true := by simpa using h2
            have E := Lib.hid (unpackT_e2 HN.out (readC_err Hrd.out hlt (by rw [getChg_e2 HT.out HG.out h2]; exact h2)) (by rw [getChg_e2 HT.out HG.out h2]; exact h2))
            rw [getChg_e2 HT.out HG.out h2] at E
            clear h2
            go_wp2_with fail
            refine Hg.out.mono ?_
            rintro e w4 ⟨rfl, hb4⟩
            have Hw4 := Lib.hid (Hw3.out.trans (hb4.mono Hw3.out.size))
            have Hw5 := Lib.hid (Hw4.out.alloc Hw4.out.size (Obj.cells #[.int .i64 (nx : Int), .string ⟨#[]⟩, .slice none 0 0, .int .i64 (nu : Int), .int .i64 (ge : Int)] 99))
            clear hb4
            go_wp2
            go_quiet (fail)
            go_wp2
            go_ret2
            exact ⟨_, by rw [E.out]; rfl, by rw [E.out]; exact OwnChs.nil _ _, below_dr Hw5.out _⟩
        · have heb : ((te : Int) != 0) = true := by simpa using h1
          have E := Lib.hid (unpackT_e2 HN.out (readC_err Hrd.out hlt (by rw [getChg_e1 HT.out h1]; exact h1)) (by rw [getChg_e1 HT.out h1]; exact h1))
          rw [getChg_e1 HT.out h1] at E
          clear h1
          go_wp2_with fail
          refine Ht.out.mono ?_
          rintro e w2 ⟨rfl, hb2⟩
          have Hw2 := Lib.hid (Hwr.out.trans (hb2.mono Hwr.out.size))
          have Hw3 := Lib.hid (Hw2.out.alloc Hw2.out.size (Obj.cells #[.int .i64 (0 : Int), .string ⟨ts.toArray⟩, .slice none 0 0, .int .i64 (tq : Int), .int .i64 (te : Int)] 99))
          clear hb2
          go_wp2
          go_quiet (fail)
          go_wp2
          go_ret2
          exact ⟨_, by rw [E.out]; rfl, by rw [E.out]; exact OwnChs.nil _ _, below_dr Hw3.out _⟩
      · obtain rfl : i = x := by have := Hi.out; omega
        by_cases hq : q = n
        · obtain ⟨Ao, co, rfl, -, -, hv⟩ := Ho.out.slice
          have Hw := Lib.hid (refRight_any Ao acc.length co wr.heap.size acc wr hv (by unfold maxLen; omega) (Nat.le_refl _))
          rw [k3] at Hw
          subst hq
          clear hv
          by_cases hrun : Run acc
          · have E := Lib.hid (unpackT_ok HN.out Hrd.out ⟨Hl.out.symm, hrun⟩)
            rw [runB_true hrun] at Hw
            clear hrun
            go_wp2_with fail
            refine Hw.out.mono ?_
            rintro e w2 ⟨rfl, hb2⟩
            have Hb2 := Lib.hid (Hwr.out.trans (hb2.mono Hwr.out.size))
            have Ho2 := Lib.hid (Ho.out.below hb2)
            rw [k3] at Ho2
            clear hb2
            go_wp2
            go_ret2
            exact ⟨_, by rw [E.out]; rfl, by rw [E.out]; exact own_baseN Ho2.out (by omega), Hb2.out⟩
          · have E := Lib.hid (unpackT_e3 HN.out Hrd.out (fun e => hrun e.2))
            rw [runB_false hrun] at Hw
            clear hrun
            go_wp2_with fail
            refine Hw.out.mono ?_
            rintro e w2 ⟨rfl, hb2⟩
            have Hb2 := Lib.hid (Hwr.out.trans (hb2.mono Hwr.out.size))
            clear hb2
            go_wp2
            go_ret2
            exact ⟨_, by rw [E.out]; rfl, by rw [E.out]; exact OwnChs.nil _ _, Hb2.out⟩
        · have hqb : ((q : Int) != (n : Int)) = true := by simp; omega
          have E := Lib.hid (unpackT_e3 HN.out Hrd.out (fun e => by have h1 := Hl.out; have h2 := e.1; omega))
          clear hq
          go_wp2
          go_ret2
          exact ⟨_, by rw [E.out]; rfl, by rw [E.out]; exact OwnChs.nil _ _, Hwr.out⟩
  · have h1b : ((ne : Int) != 0) = true := by simpa using h1
    have E := Lib.hid (unpackT_e1 HN.out h1)
    clear h1 hbd
    go_enter Try.func40, Try.ntmps40
    go_wp2_with fail
    refine Hn.out.mono ?_
    rintro e w1 ⟨rfl, hb1⟩
    have Hb1 := Lib.hid (hb1.alloc hb1.size (Obj.cells #[.int .i64 (x : Int), .string ⟨#[]⟩, .slice none 0 0, .int .i64 (u : Int), .int .i64 (ne : Int)] 99))
    clear hb1
    go_wp2
    go_quiet (fail)
    go_wp2
    go_ret2
    exact ⟨_, by rw [E.out]; rfl, by rw [E.out]; exact OwnChs.nil _ _, below_dr Hb1.out _⟩
end Go.Proofs.Yteioopcacpihpaa

namespace Go.Proofs.Yteioopcacpihpaa
open Go.RowKit
open Go.Lib (strCells compareBytes)

theorem keep10 {wr wx w' : World} (h : Below wr.heap.size wr wx) (hb : Below wx.heap.size wx w') : Below wr.heap.size wr w' := h.trans (hb.mono h.size)
theorem slice_all10 (M : List Chg) : sliceL [] [] M = M := List.filter_eq_self.2 fun c _ => by simp [inR]
theorem live_all {M : List Chg} (h : ∀ c ∈ M, c.g = false) : livesL M = M.map prOf := by
  unfold livesL liveL
  rw [List.filter_eq_self.2 fun c hc => by simp [h c hc]]
set_option maxRecDepth 100000 in
set_option maxHeartbeats 6400000 in
theorem same_any {w : World} {e b H N c : Nat} {A : Option Addr} {lim pairs : Int} {tv rv : Value} {T : List Chg} {rs : Crs} {M : List Chg} (h : EngAt w e lim pairs tv rv T rs) (hp : EngP H lim pairs T (crLists rs)) (hH : H ≤ 9000) (hM : absL (T :: crLists rs) = M)
    (hbx : Box w b 44 #[.slice A N c]) (hr : HasChs w w.heap.size A N M) :
    Calls Try.prog 33 #[.pointer (some ⟨e, 0, none⟩), .pointer (some ⟨b, 0, none⟩)] w fun e' w' => e' = .returned (.bool true) ∧ Below w.heap.size w w' := by
  have hlt := hbx.lt
  have hPP : PairsP H M := hM ▸ PairsP.of hp
  have hlen : M.length ≤ 9000 := Nat.le_trans hPP.len hH
  have hpl : pairs = (N : Int) := by rw [hp.num, hM, hr.1]
  have hN9 : N ≤ 9000 := by rw [← hr.1]; exact hlen
  obtain ⟨P, hP⟩ : ∃ P, M.map prOf = P := ⟨_, rfl⟩
  have hPl : P.length ≤ 9000 := by rw [← hP, List.length_map]; exact hlen
  have HLen : Hid (∀ wx, Below w.heap.size w wx → _) := Lib.hid fun wx (hx : Below w.heap.size w wx) => len_eng (h.below hx)
  have HRan : Hid (∀ wx, Below w.heap.size w wx → Calls Try.prog 31 #[.pointer (some ⟨e, 0, none⟩), .agg #[.string ⟨#[]⟩, .string ⟨#[]⟩], .int .i64 1099511627776] wx (RangePost P wx)) := Lib.hid fun wx hx => by
    have h1 := engRange_any (h.below hx) hp hH ⟨#[]⟩ ⟨#[]⟩ 1099511627776
    rw [hM] at h1
    have e1 : ((sliceL (⟨#[]⟩ : ByteArray).data.toList (⟨#[]⟩ : ByteArray).data.toList M).map prOf).take (1099511627776 : Int).toNat = P := by
      have e2 : sliceL (⟨#[]⟩ : ByteArray).data.toList (⟨#[]⟩ : ByteArray).data.toList M = M := slice_all10 M
      rw [e2, hP]
      exact List.take_of_length_le (by omega)
    rw [e1] at h1
    exact h1
  have HLiv : Hid (∀ wx, Below w.heap.size w wx → Calls Try.prog 61 #[.slice A N c] wx (GivesP wx.heap.size P wx)) := Lib.hid fun wx hx => by
    have h1 := refLive_any A N c w.heap.size M wx (hr.belowOf hx (Nat.le_refl _)) hx.size hN9
    rw [livesT_run hPP.run, live_all hPP.live, hP] at h1
    exact h1
  have HK : Hid (∀ wx, Below w.heap.size w wx → wx.cell? ⟨b, 0, none⟩ = some (.slice A N c) ∧ Below w.heap.size w wx) := Lib.hid fun wx hx => ⟨(hbx.below hx hlt).cell 0, hx⟩
  rw [hpl] at HLen
  have d0 := (HK.out w (Below.refl _ _)).1
  clear h hp hM hbx hr hP hPP hlen hpl
  go_enter Try.func33, Try.ntmps33
  go_wp2
  go_region_held3 (fun wx => wx.cell? ⟨b, 0, none⟩ = some (.slice A N c) ∧ Below w.heap.size w wx)
    (first | exact HK.out _ (Below.refl _ _).drew | exact HK.out _ (keep10 (And.right (by assumption)) b1) | exact HK.out _ (keep10 (And.right (by assumption)) b2) | exact HK.out _ (keep10 (And.right (by assumption)) b3) | exact HK.out _ (keep10 (And.right (by assumption)) b4))
    (first
      | (go_at_call 42; refine (HLen.out _ (And.right (by assumption))).mono ?_; rintro e1 w11 ⟨rfl, b1⟩)
      | (go_at_call 31; refine (HRan.out _ (And.right (by assumption))).mono ?_; rintro e1 w12 ⟨v2, rfl, o2, b2⟩; obtain ⟨A2, c2, rfl, -, -, x2⟩ := o2.slice)
      | (go_at_call 61; refine (HLiv.out _ (And.right (by assumption))).mono ?_; rintro e1 w13 ⟨v3, rfl, o3, b3⟩; obtain ⟨A3, c3, rfl, -, -, x3⟩ := o3.slice; have x2' : HasPrs w13 w12.heap.size A2 P.length P := ⟨x2.1, x2.2.belowOf b3 (Nat.le_refl _)⟩)
      | (go_at_call 30; refine (samePairs_any A2 A3 P.length c2 c3 _ _ P w13 x2' x3 (by unfold maxLen; omega)).mono ?_; rintro e1 w14 ⟨rfl, b4⟩))
  all_goals
    have HE : Hid (Below w.heap.size w w14) := Lib.hid (And.right (by assumption))
    go_wp2
    go_ret
    exact ⟨rfl, HE.out⟩
set_option maxRecDepth 100000 in
theorem refExport_any {w : World} {b N c : Nat} {A : Option Addr} {M : List Chg} (hbx : Box w b 44 #[.slice A N c]) (hr : HasChs w w.heap.size A N M) (hR : Run M) (hN : N ≤ 1200) (hs : ∀ x ∈ M, x.k.size ≤ 4000 ∧ x.v.size ≤ 4000) :
    Calls Try.prog 38 #[.pointer (some ⟨b, 0, none⟩)] w fun e' w' => ∃ v, e' = .returned v ∧ w'.ownsRow w.heap.size 5 1 v (packL M).length (byteCells (packL M)) ∧ Below w.heap.size w w' := by
  have Hp := Lib.hid (refPack_any A N c w.heap.size M w hr (Nat.le_refl _) hN hs)
  have HR := Lib.hid hR
  have d0 : w.cell? ⟨b, 0, none⟩ = some (.slice A N c) := hbx.cell 0
  clear hbx hr hR hs
  go_enter Try.func38, Try.ntmps38
  go_wp2_with fail
  refine Hp.out.mono ?_
  rintro e1 w1 ⟨hb, hc⟩
  obtain ⟨v, rfl, ho⟩ : ∃ v, e1 = .returned (.tuple #[v, .int .i64 0]) ∧ w1.ownsRow w.heap.size 5 1 v (packL M).length (byteCells (packL M)) := by
    rcases hc with ⟨-, h1⟩ | ⟨h1, -⟩
    · exact h1
    · exact absurd HR.out h1
  have HO := Lib.hid (And.intro ho hb)
  clear hc ho hb
  go_wp2
  go_ret
  exact ⟨v, rfl, HO.out.1, HO.out.2⟩

end Go.Proofs.Yteioopcacpihpaa

namespace Go.Proofs.Yteioopcacpihpaa
open Go.RowKit
open Go.Lib (strCells compareBytes)

/-- two engines anew, over the two parts of one row v of the call's own -/
def CutPost (lim : Int) (M : List Chg) (key : List UInt8) (w : World) (e' : Ending) (w' : World) : Prop :=
  ∃ (i : Nat) (f : Bool) (ea eb : Nat) (rva rvb va vb : Value), e' = .returned (.tuple #[.pointer (some ⟨ea, 0, none⟩), .pointer (some ⟨eb, 0, none⟩)]) ∧ PlaceIs M key i f ∧
    EngAt w' ea lim ((M.take i).length : Int) (.slice none 0 0) rva [] (aloneR va (M.take i)) ∧ EngAt w' eb lim ((M.drop i).length : Int) (.slice none 0 0) rvb [] (aloneR vb (M.drop i)) ∧
    w.heap.size ≤ ea ∧ ea < eb ∧ (∀ g, rva.ownBlock = some g → w.heap.size ≤ g ∧ g < eb) ∧ (∀ g, rvb.ownBlock = some g → ea < g ∧ rva.ownBlock ≠ some g) ∧ (∀ g, va.ownBlock = some g → w.heap.size ≤ g ∧ g < ea) ∧ (∀ g, vb.ownBlock = some g → w.heap.size ≤ g ∧ g < ea) ∧ Below w.heap.size w w'
theorem own_len {A : Option Addr} {n m c k : Nat} {g : Nat} (h : (Value.slice A n c).ownBlock = some g) : (Value.slice A m k).ownBlock = some g := by
  cases A with
  | none => cases h
  | some a => exact h
theorem KindOf.part {w : World} {A : Option Addr} {n k m c i : Nat} {t : TypeId} (h : KindOf w (.slice A n k) t) : KindOf w (.slice (if k = i then A else A.map (·.add (i * 3))) m c) t := fun g hg => by
  cases e : (if k = i then A else A.map (·.add (i * 3))) with
  | none => rw [e] at hg; cases hg
  | some a =>
    obtain ⟨b, rfl, hb⟩ := part_block a e
    rw [e] at hg
    have h1 : a.block = g := by injection hg
    exact h g (by rw [← h1, hb]; rfl)
set_option maxRecDepth 100000 in
set_option maxHeartbeats 3200000 in
theorem cut_any {w : World} {e H : Nat} {lim pairs : Int} {tv rv : Value} {T : List Chg} {rs : Crs} (h : EngAt w e lim pairs tv rv T rs) (hp : EngP H lim pairs T (crLists rs)) (hH : H ≤ 9000) (key : ByteArray) :
    Calls Try.prog 41 #[.pointer (some ⟨e, 0, none⟩), .string key] w (CutPost lim (absL (T :: crLists rs)) key.data.toList w) := by
  have Ha := Lib.hid (all_any h hp hH)
  have H1 := Lib.hid h
  have hpp := PairsP.of hp
  have Hlim : Hid ((if lim < 1 then 1 else lim) = lim) := Lib.hid (if_neg (by have := hp.lim1; omega))
  obtain ⟨M, hM⟩ : ∃ M, absL (T :: crLists rs) = M := ⟨_, rfl⟩
  rw [hM] at Ha hpp ⊢
  have HPP := Lib.hid hpp
  clear h hp hM hpp
  go_enter Try.func41, Try.ntmps41
  go_wp2_with fail
  refine Ha.out.mono ?_
  rintro e' w1 ⟨v, rfl, ho, hb1⟩
  have Hk := Lib.hid (own_kind ho)
  have Hnew := Lib.hid (fun g hg => ho.lt g hg)
  obtain ⟨A, k0, rfl, hnk, hkm, hx⟩ := ho.slice
  have HX := Lib.hid hx
  obtain ⟨N, hN⟩ : ∃ N, M.length = N := ⟨_, rfl⟩
  have HNM := Lib.hid hN
  have hN9 : N ≤ 9000 := by have := HPP.out.len; omega
  have Hpl := Lib.hid (place_any A M.length k0 _ M key w1 hx (Nat.le_refl _) (by omega) HPP.out.run)
  rw [hN] at HX Hk Hnew Hpl hnk
  have hkm2 := hkm
  unfold maxLen at hkm2
  have Hb1 := Lib.hid hb1
  rw [hN]
  clear ho hx hb1 hN Ha
  go_wp2_with fail
  refine Hpl.out.mono ?_
  rintro e' w2 ⟨i, f, rfl, hb2, hpi⟩
  have HPI := Lib.hid hpi
  have hiN : i ≤ N := by have := hpi.1; have := HNM.out; omega
  have hX2 := HX.out.belowOf hb2 (Nat.le_refl _)
  have Hb2 := Lib.hid (Hb1.out.trans (hb2.mono Hb1.out.size))
  have hsz2 := Hb2.out.size
  have hsz12 := hb2.size
  have HE2 := Lib.hid (H1.out.below Hb2.out)
  have q0 : w2.cell? ⟨e, 0, none⟩ = some (.int .i64 lim) := HE2.out.box.cell 0
  have HM1 := Lib.hid (fun wx (hw : Below w2.heap.size w2 wx) => made_any A i k0 (M.take i) lim lim wx (((hX2.head hiN).belowOf hw hsz12).more (Nat.le_trans hsz12 hw.size)) (by omega) hkm (fun g hg => ((Hk.out.below hb2).below hw) g (own_len hg)) Hlim.out)
  obtain ⟨A', hA⟩ : ∃ A', (if k0 = i then A else A.map (·.add (i * 3))) = A' := ⟨_, rfl⟩
  have HM2 := Lib.hid (fun wx (hw : Below w2.heap.size w2 wx) => made_any (if k0 = i then A else A.map (·.add (i * 3))) (N - i) (k0 - i) (M.drop i) lim lim wx ((HasChs.belowOf ⟨by rw [List.length_drop, HNM.out], hX2.cut hiN hnk⟩ hw hsz12).more (Nat.le_trans hsz12 hw.size)) (by omega) (by unfold maxLen; omega) (((Hk.out.below hb2).below hw).part) Hlim.out)
  have HAb : Hid (∀ g, (Value.slice A' (N - i) (k0 - i)).ownBlock = some g → w.heap.size ≤ g ∧ g < w1.heap.size) := Lib.hid (fun g hg => by
    cases e3 : A' with
    | none => rw [e3] at hg; cases hg
    | some a =>
      obtain ⟨b, rfl, hb⟩ := part_block a (hA.trans e3)
      rw [e3] at hg
      have h1 : a.block = g := by injection hg
      exact Hnew.out g (by rw [← h1, hb]; rfl))
  have HAa : Hid (∀ g, (Value.slice A i k0).ownBlock = some g → w.heap.size ≤ g ∧ g < w1.heap.size) := Lib.hid (fun g hg => Hnew.out g (own_len hg))
  rw [hA] at HM2
  clear hX2 hb2 hpi Hpl HX Hk
  go_wp2
  go_region_with (first
    | (go_at_call 53; have hB3 := HB3.out; refine (HM2.out _ hB3).mono ?_; rintro e' w4 ⟨eb, rvb, rfl, h4⟩; have H4 := Lib.hid h4; have q4 : w4.cell? ⟨e, 0, none⟩ = some (.int .i64 lim) := ((HE2.out.below (hB3.trans (h4.2.2.2.mono hB3.size))).box).cell 0; clear h4)
    | (go_at_call 53; refine (HM1.out _ ((Below.refl _ _).drew)).mono ?_; rintro e' w3 ⟨ea, rva, rfl, h3⟩; have H3 := Lib.hid h3; have HB3 : Hid (Below w2.heap.size w2 w3) := Lib.hid (((Below.refl _ w2).drew).trans h3.2.2.2); have q3 : w3.cell? ⟨e, 0, none⟩ = some (.int .i64 lim) := ((HE2.out.below HB3.out).box).cell 0; clear h3))
  all_goals
    clear q0 q3 q4
    go_wp2
    go_ret2
    obtain ⟨h31, h32, h33, h34⟩ := H3.out
    obtain ⟨h41, h42, h43, h44⟩ := H4.out
    have h35 : w2.heap.size ≤ ea := h31
    have l3 := h32.box.lt
    refine ⟨i, f, ea, eb, rva, rvb, _, _, rfl, HPI.out, h32.below h44, h42, by omega, by omega, fun g hg => ⟨?_, ?_⟩, fun g hg => ⟨?_, ?_⟩, fun g hg => ?_, fun g hg => ?_, Hb2.out.trans ((HB3.out.trans (h44.mono HB3.out.size)).mono hsz2)⟩
    · have h5 : w2.heap.size ≤ g := h33 g hg
      omega
    · have := h32.oldR g hg
      omega
    · have := h43 g hg
      omega
    · intro e5
      have h6 := h32.oldR g e5
      have h7 := h43 g hg
      omega
    · have := HAa.out g hg
      omega
    · have := HAb.out g hg
      omega
end Go.Proofs.Yteioopcacpihpaa

namespace Go.Proofs.Yteioopcacpihpaa
open Go.RowKit
open Go.Lib (strCells compareBytes)

/-- what Join answers -/
def JoinPost (lim : Int) (L : List Chg) (w : World) (e' : Ending) (w' : World) : Prop :=
  Below w.heap.size w w' ∧ ((¬ Run L ∧ e' = .returned (.tuple #[.pointer none, .int .i64 14])) ∨ (Run L ∧ ∃ x rv v, e' = .returned (.tuple #[.pointer (some ⟨x, 0, none⟩), .int .i64 0]) ∧ w.heap.size ≤ x ∧ EngAt w' x lim (L.length : Int) (.slice none 0 0) rv [] (aloneR v L) ∧
    (∀ g, rv.ownBlock = some g → w.heap.size ≤ g) ∧ ∀ g, v.ownBlock = some g → w.heap.size ≤ g))
set_option maxRecDepth 100000 in
set_option maxHeartbeats 3200000 in
theorem engJoin_any {w : World} {a b Ha Hb : Nat} {lim pa limb pb : Int} {tva rva tvb rvb : Value} {Ta Tb : List Chg} {rsa rsb : Crs} (ha : EngAt w a lim pa tva rva Ta rsa) (hpa : EngP Ha lim pa Ta (crLists rsa)) (hb : EngAt w b limb pb tvb rvb Tb rsb) (hpb : EngP Hb limb pb Tb (crLists rsb)) (hHa : Ha ≤ 9000) (hHb : Hb ≤ 9000) :
    Calls Try.prog 43 #[.pointer (some ⟨a, 0, none⟩), .pointer (some ⟨b, 0, none⟩)] w (JoinPost lim (absL (Ta :: crLists rsa) ++ absL (Tb :: crLists rsb)) w) := by
  have Hca := Lib.hid (all_any ha hpa hHa)
  have Hcb := Lib.hid (fun wx (hx : Below w.heap.size w wx) => all_any (hb.below hx) hpb hHb)
  have hla := Nat.le_trans (PairsP.of hpa).len hHa
  have hlb := Nat.le_trans (PairsP.of hpb).len hHb
  have Hlim : Hid ((if lim < 1 then 1 else lim) = lim) := Lib.hid (by have := hpa.lim1; rw [if_neg (by omega)])
  have HEa := Lib.hid ha
  obtain ⟨L, hL⟩ : ∃ L, absL (Ta :: crLists rsa) = L := ⟨_, rfl⟩
  obtain ⟨R, hR⟩ : ∃ R, absL (Tb :: crLists rsb) = R := ⟨_, rfl⟩
  rw [hL] at hla Hca
  rw [hR] at hlb Hcb
  rw [hL, hR]
  clear ha hpa hb hpb hL hR
  go_enter Try.func43, Try.ntmps43
  go_wp2_with fail
  refine Hca.out.mono ?_
  rintro e' w1 ⟨v1, rfl, o1, b1⟩
  have Hcb1 := Lib.hid (Hcb.out w1 b1)
  have HB1 := Lib.hid b1
  have HO1 := Lib.hid o1
  obtain ⟨A1, c1, rfl, -, -, -⟩ := o1.slice
  clear o1 b1 Hca Hcb
  go_wp2_with fail
  refine Hcb1.out.mono ?_
  rintro e' w2 ⟨v2, rfl, o2, b2⟩
  obtain ⟨A2, c2, rfl, -, -, x2⟩ := o2.slice
  have HB2 : Hid (Below w.heap.size w w2) := Lib.hid (HB1.out.trans (b2.mono HB1.out.size))
  have HO2 : Hid (w2.ownsRow w.heap.size 38 3 (.slice A1 L.length c1) L.length (chgCells L)) := Lib.hid (HO1.out.below b2)
  have HX2 := Lib.hid x2.2
  have hs2 : w.heap.size ≤ w2.heap.size := HB2.out.size
  clear o2 b2 x2 Hcb1
  go_wp2_with (at_builtin; refine wpList_append_hasN rfl (.tmp 8) (.tmp 10) _ rfl 38 chg_elem (by omega) Try.underlying22 rfl HO2.out rfl HX2.out (chgCells_one _) (by simp only [maxLen]; omega) (by omega) hs2 ?_; intro v3 w3 o3 g3 _; have HB3 : Hid (Below w.heap.size w w3) := Lib.hid (HB2.out.grown g3 hs2 fun g hg => (HO2.out.lt g hg).1); have HO3 : Hid (OwnChs w3 w.heap.size v3 (L ++ R)) := Lib.hid (by unfold OwnChs; rw [List.length_append, chgCells_app]; exact o3); clear o3 g3)
  obtain ⟨A3, c3, rfl, hc3, hm3, x3⟩ := HO3.out.slice
  have Hk3 : Hid (KindOf w3 (.slice A3 (L ++ R).length c3) 38) := Lib.hid (own_kind HO3.out)
  have Hn3 : Hid (∀ g, (Value.slice A3 (L ++ R).length c3).ownBlock = some g → w.heap.size ≤ g) := Lib.hid fun g hg => (HO3.out.lt g hg).1
  have hLR : (L ++ R).length ≤ 18000 := by rw [List.length_append]; omega
  obtain ⟨N, hN⟩ : ∃ N, (L ++ R).length = N := ⟨_, rfl⟩
  have hN2 : L.length + R.length = N := by rw [← hN, List.length_append]
  obtain ⟨Z, hZ⟩ : ∃ Z, L ++ R = Z := ⟨_, rfl⟩
  rw [hZ] at hN x3 hLR Hk3 Hn3 hc3 ⊢
  rw [hN] at x3 hc3 hLR Hk3 Hn3 ⊢
  have Hri := Lib.hid (right_any A3 N c3 w3.heap.size Z w3 x3 (by unfold maxLen; omega) (Nat.le_refl _))
  have Hmk := Lib.hid (fun wx (hx : Below w3.heap.size w3 wx) => made_any A3 N c3 Z lim lim wx ((x3.belowOf hx (Nat.le_refl _)).more hx.size) hc3 hm3 (Hk3.out.below hx) Hlim.out)
  have hs3 : w.heap.size ≤ w3.heap.size := HB3.out.size
  have HZ := Lib.hid hZ
  clear x3 HO3 HX2 HO2 HO1 hm3 hN hZ
  refine Hri.out.mono ?_
  rintro e' w4 ⟨rfl, b4⟩
  have HB4 : Hid (Below w.heap.size w w4) := Lib.hid (HB3.out.trans (b4.mono hs3))
  have Hmk4 := Lib.hid (Hmk.out w4 b4)
  have hs4 : w.heap.size ≤ w4.heap.size := HB4.out.size
  have q0 : w4.cell? ⟨a, 0, none⟩ = some (.int .i64 lim) := (HEa.out.below HB4.out).box.cell 0
  clear b4 Hmk Hri
  by_cases hr : Run Z
  · rw [runB_true hr]
    have HR := Lib.hid hr
    clear hr
    go_wp2_with fail
    refine Hmk4.out.mono ?_
    rintro e' w5 ⟨x, rv, rfl, h1, h2, h3, h4⟩
    have HH := Lib.hid (And.intro h1 (And.intro h2 (And.intro h3 h4)))
    clear h1 h2 h3 h4
    go_wp2
    go_ret2
    rw [HZ.out]
    exact ⟨HB4.out.trans (HH.out.2.2.2.mono hs4), .inr ⟨HR.out, x, rv, _, rfl, Nat.le_trans hs4 HH.out.1, HH.out.2.1, fun g hg => Nat.le_trans hs4 (HH.out.2.2.1 g hg), fun g hg => Hn3.out g hg⟩⟩
  · rw [runB_false hr]
    have HR := Lib.hid hr
    clear hr
    go_wp2
    go_ret2
    rw [HZ.out]
    exact ⟨HB4.out, .inl ⟨HR.out, rfl⟩⟩

end Go.Proofs.Yteioopcacpihpaa

namespace Go.Proofs.Yteioopcacpihpaa
open Go.RowKit
open Go.Lib (strCells compareBytes)

theorem PairsP.take {H : Nat} {l : List Chg} (h : PairsP H l) (i : Nat) : PairsP H (l.take i) :=
  ⟨h.run.take i, fun c hc => h.live c (List.mem_of_mem_take hc), Nat.le_trans (by rw [List.length_take]; omega) h.len, fun x hx => h.small x (List.mem_of_mem_take hx)⟩
theorem PairsP.drop {H : Nat} {l : List Chg} (h : PairsP H l) (i : Nat) : PairsP H (l.drop i) :=
  ⟨h.run.drop i, fun c hc => h.live c (List.mem_of_mem_drop hc), Nat.le_trans (by rw [List.length_drop]; omega) h.len, fun x hx => h.small x (List.mem_of_mem_drop hx)⟩
theorem PairsP.more {H H' : Nat} {l : List Chg} (h : PairsP H l) (hh : H ≤ H') : PairsP H' l := ⟨h.run, h.live, Nat.le_trans h.len hh, h.small⟩
theorem not_run_back {M : List Chg} {i : Nat} (h : Run M) (h1 : 0 < (M.take i).length) (h2 : 0 < (M.drop i).length) : ¬ Run (M.drop i ++ M.take i) := by
  intro hr
  obtain ⟨x, hx⟩ := List.exists_mem_of_length_pos h1
  obtain ⟨y, hy⟩ := List.exists_mem_of_length_pos h2
  have h3 : Srt (M.take i ++ M.drop i) := by rw [List.take_append_drop]; exact h.2
  have h4 := (List.pairwise_append.1 h3).2.2 x hx y hy
  have h5 := (List.pairwise_append.1 hr.2).2.2 y hy x hx
  exact lt_irr _ (List.lt_trans h4 h5)
theorem own_prs_frm {S : Nat → Prop} {w w1 : World} {B : Nat} {v : Value} {l : List Pr} (h : OwnPrs w B v l) (hf : Frm S w w1) (ha : ∀ g, v.ownBlock = some g → ¬ S g) : OwnPrs w1 B v l := by
  unfold OwnPrs at h ⊢
  refine ⟨h.1, ?_⟩
  rcases h.2 with hn | ⟨g, cap, cur, hv, hB, hg, rest⟩
  · exact .inl hn
  · exact .inr ⟨g, cap, cur, hv, hB, (hf.block g (Array.getElem?_eq_some_iff.1 hg).1 (ha g (by rw [hv]; rfl))).trans hg, rest⟩
/-- an engine that one list makes -/
theorem PairsP.engR {H : Nat} {l : List Chg} (h : PairsP H l) {lim : Int} (hl : 1 ≤ lim) (v : Value) : EngP H lim (l.length : Int) [] (crLists (aloneR v l)) ∧ absL ([] :: crLists (aloneR v l)) = l := by
  rw [aloneR_lists]
  exact ⟨h.eng hl, abs_alone h.run h.live⟩
theorem EngP.more {H H' : Nat} {lim pairs : Int} {T : List Chg} {Ls : List (List Chg)} (h : EngP H lim pairs T Ls) (hh : H ≤ H') : EngP H' lim pairs T Ls := ⟨h.lim1, h.runs, h.full, h.num, Nat.le_trans h.held hh, h.small⟩
/-- two engines of which, since W0, only their own blocks have turned -/
structure OneE (W0 : World) (c a : Nat) (tvc rvc tva rva : Value) (rsc rsa : Crs) : Prop where
  lt : c < W0.heap.size
  tab : ∀ g, tvc.ownBlock = some g → W0.heap.size ≤ g ∧ tva.ownBlock ≠ some g ∧ rva.ownBlock ≠ some g ∧ ∀ r ∈ rsa, r.1.ownBlock ≠ some g
  rv : rva.ownBlock ≠ some c
  rs : ∀ r ∈ rsa, r.1.ownBlock ≠ some c
def TwoE (W0 : World) (c a H : Nat) (lim : Int) (W : World) : Prop :=
  ∃ pc tvc rvc Tc rsc pa tva rva Ta rsa, EngAt W c lim pc tvc rvc Tc rsc ∧ EngP H lim pc Tc (crLists rsc) ∧ EngAt W a lim pa tva rva Ta rsa ∧ EngP H lim pa Ta (crLists rsa) ∧ c ≠ a ∧
    OneE W0 c a tvc rvc tva rva rsc rsa ∧ OneE W0 a c tva rva tvc rvc rsa rsc ∧ Frm (fun i => i = c ∨ i = a) W0 W
theorem TwoE.frm {W0 W : World} {c a H : Nat} {lim : Int} (h : TwoE W0 c a H lim W) : Frm (fun i => i = c ∨ i = a) W0 W := by
  obtain ⟨pc, tvc, rvc, Tc, rsc, pa, tva, rva, Ta, rsa, -, -, -, -, -, -, -, hf⟩ := h
  exact hf
theorem TwoE.swap {W0 W : World} {c a H : Nat} {lim : Int} (h : TwoE W0 c a H lim W) : TwoE W0 a c H lim W := by
  obtain ⟨pc, tvc, rvc, Tc, rsc, pa, tva, rva, Ta, rsa, h1, h2, h3, h4, h5, h6, h7, hf⟩ := h
  exact ⟨pa, tva, rva, Ta, rsa, pc, tvc, rvc, Tc, rsc, h3, h4, h1, h2, h5.symm, h7, h6, hf.mono fun i hi => hi.symm⟩
theorem TwoE.up {W0 W : World} {c a H H' : Nat} {lim : Int} (h : TwoE W0 c a H lim W) (hh : H ≤ H') : TwoE W0 c a H' lim W := by
  obtain ⟨pc, tvc, rvc, Tc, rsc, pa, tva, rva, Ta, rsa, h1, h2, h3, h4, h5⟩ := h
  exact ⟨pc, tvc, rvc, Tc, rsc, pa, tva, rva, Ta, rsa, h1, h2.more hh, h3, h4.more hh, h5⟩
theorem TwoE.put {W0 W : World} {c a H : Nat} {lim : Int} (h : TwoE W0 c a H lim W) (A : Option Addr) (n k : Nat) (l : List Chg) (hx : HasChs W W.heap.size A n l) (hA : n ≠ 0 → ∀ q, A = some q → q.block ≠ c ∧ q.block < W0.heap.size) (hH : H + n ≤ 8000) (hs : ∀ x ∈ l, x.k.size ≤ 4000 ∧ x.v.size ≤ 4000) :
    Calls Try.prog 23 #[.pointer (some ⟨c, 0, none⟩), .slice A n k] W fun e' w' => e' = .returned (.tuple #[]) ∧ TwoE W0 c a (H + n) lim w' := by
  obtain ⟨pc, tvc, rvc, Tc, rsc, pa, tva, rva, Ta, rsa, h1, h2, h3, h4, h5, h6, h7, hf⟩ := h
  refine (batch_any h1 h2 A n k l hx (fun hn q eq => ⟨(hA hn q eq).1, fun e1 => ?_⟩) hH hs).mono ?_
  · have := (h6.tab _ e1).1
    have := (hA hn q eq).2
    omega
  rintro e' w2 ⟨g1, p2, tv2, rv2, T2, rs2, hE2, hP2, -, hF2, ht2, -, hN⟩
  have hl : l.length = n := hx.1
  have hsz := hf.size
  have h6a := h7.lt
  have h3' : EngAt w2 a lim pa tva rva Ta rsa := h3.frm hF2 (fun hi => by
      rcases hi with hi | hi
      · exact h5 hi.symm
      · have := (h6.tab _ hi).1; omega) (fun g hg hi => by
      rcases hi with hi | hi
      · have := (h7.tab g hg).1; have := h6.lt; omega
      · exact (h6.tab g hi).2.1 hg) (fun g hg hi => by
      rcases hi with hi | hi
      · exact h6.rv (hi ▸ hg)
      · exact (h6.tab g hi).2.2.1 hg) (fun r hr g hg hi => by
      rcases hi with hi | hi
      · exact h6.rs r hr (hi ▸ hg)
      · exact (h6.tab g hi).2.2.2 r hr hg)
  refine ⟨g1, p2, tv2, rv2, T2, rs2, pa, tva, rva, Ta, rsa, hE2, by rw [← hl]; exact hP2, h3', h4.more (by omega), h5, ⟨h6.lt, fun g hg => ?_, h6.rv, h6.rs⟩, ⟨h7.lt, fun g hg => ?_, fun hg => ?_, fun r hr hg => ?_⟩, hf.trans hF2 fun i hi => ?_⟩
  · rcases ht2 with e1 | e1
    · exact h6.tab g (e1 ▸ hg)
    · have h8 := e1 g hg
      refine ⟨by omega, fun h9 => ?_, fun h9 => ?_, fun r hr h9 => ?_⟩
      · have := (h3.tab.lt g h9).2; omega
      · have := h3.oldR g h9; omega
      · have := h3.oldC r hr g h9; omega
  · have h0 := h7.tab g hg
    have hgl := (h3.tab.lt g hg).2
    refine ⟨h0.1, fun h9 => ?_, fun h9 => ?_, fun r hr h9 => ?_⟩
    · rcases ht2 with e1 | e1
      · exact h0.2.1 (e1 ▸ h9)
      · have := e1 g h9; omega
    · rcases hN.1 g h9 with e1 | e1
      · exact h0.2.2.1 e1
      · omega
    · rcases hN.2 r hr g h9 with ⟨r1, e1, e2⟩ | e1
      · exact h0.2.2.2 r1 e1 e2
      · omega
  · rcases hN.1 a hg with e1 | e1
    · exact h7.rv e1
    · omega
  · rcases hN.2 r hr a hg with ⟨r1, e1, e2⟩ | e1
    · exact h7.rs r1 e1 e2
    · omega
  · rcases hi with hi | hi
    · exact .inl (.inl hi)
    · exact .inr (h6.tab i hi).1
end Go.Proofs.Yteioopcacpihpaa

namespace Go.Proofs.Yteioopcacpihpaa
open Go.RowKit
open Go.Lib (strCells compareBytes)

theorem crs_more {w : World} {B C n : Nat} {A : Option Addr} {rs : Crs} (h : HasCrs w B A n rs) (hB : B ≤ C) : HasCrs w C A n rs :=
  ⟨h.1.more hB, fun r hr => by
    obtain ⟨A', m, c, e, h1, h2, h3⟩ := h.2 r hr
    exact ⟨A', m, c, e, h1, h2, h3.more hB⟩⟩
theorem cut_low {M : List Chg} {key : List UInt8} {i k : Nat} {f : Bool} {x : List Pr} {p : Pr} (hx : (M.take i).map prOf = x) (hp : PlaceIs M key i f) (h : x[k]? = some p) : p.1.data.toList < key := by
  rw [← hx] at h
  obtain ⟨c, hc, rfl⟩ := List.mem_map.1 (List.mem_of_getElem? h)
  exact hp.2.1 c hc
theorem cut_high {M : List Chg} {key : List UInt8} {i k : Nat} {f : Bool} {x : List Pr} {p : Pr} (hx : (M.drop i).map prOf = x) (hp : PlaceIs M key i f) (h : x[k]? = some p) : ¬ p.1.data.toList < key := by
  rw [← hx] at h
  obtain ⟨c, hc, rfl⟩ := List.mem_map.1 (List.mem_of_getElem? h)
  exact hp.2.2.1 c hc
theorem alone_val {v : Value} {l : List Chg} {r : Value × List Chg} (h : r ∈ aloneR v l) : r.1 = v := by
  unfold aloneR at h
  split at h
  · simp at h
  · simp at h; rw [h]
/-- all pairs of an engine -/
theorem all_range {w : World} {e H : Nat} {lim pairs : Int} {tv rv : Value} {T : List Chg} {rs : Crs} {M : List Chg} {P : List Pr} (h : EngAt w e lim pairs tv rv T rs) (hp : EngP H lim pairs T (crLists rs)) (hH : H ≤ 9000) (hM : absL (T :: crLists rs) = M) (hP : M.map prOf = P) :
    Calls Try.prog 31 #[.pointer (some ⟨e, 0, none⟩), .agg #[.string ⟨#[]⟩, .string ⟨#[]⟩], .int .i64 1099511627776] w (RangePost P w) := by
  have h1 := engRange_any h hp hH ⟨#[]⟩ ⟨#[]⟩ 1099511627776
  rw [hM] at h1
  have hlen : P.length ≤ 9000 := by rw [← hP, List.length_map, ← hM]; exact Nat.le_trans (PairsP.of hp).len hH
  have e1 : ((sliceL (⟨#[]⟩ : ByteArray).data.toList (⟨#[]⟩ : ByteArray).data.toList M).map prOf).take (1099511627776 : Int).toNat = P := by
    have e2 : sliceL (⟨#[]⟩ : ByteArray).data.toList (⟨#[]⟩ : ByteArray).data.toList M = M := slice_all10 M
    rw [e2, hP]
    exact List.take_of_length_le (by omega)
  rw [e1] at h1
  exact h1
set_option maxRecDepth 100000 in
set_option maxHeartbeats 12800000 in
theorem cuts_walk (A D : Option Addr) (n ca nb cb : Nat) (limit : Int) (rs rz : Crs) (key : ByteArray) (w : World) (h : HasCrs w w.heap.size A n rs) (hnc : n ≤ ca) (hm : ca ≤ maxLen) (hs : ∀ l ∈ crLists rs, ∀ u ∈ l, u.k.size ≤ maxLen ∧ u.v.size ≤ maxLen)
    (h' : HasCrs w w.heap.size D nb rz) (hnc' : nb ≤ cb) (hm' : cb ≤ maxLen) (hs' : ∀ l ∈ crLists rz, ∀ u ∈ l, u.k.size ≤ maxLen ∧ u.v.size ≤ maxLen) (hsz : key.size ≤ maxLen) :
    Calls Try.prog 9 #[.slice A n ca, .slice D nb cb, .int .i64 limit, .string key] w fun e w' => e = .returned (.bool true) ∧ Below w.heap.size w w' := by
  have H := Lib.hid h
  have H' := Lib.hid h'
  have Hlt := Lib.hid (fun wx (hx : Below w.heap.size w wx) => light10_any A n ca w.heap.size rs wx (h.belowOf hx (Nat.le_refl _)) (by omega) hs)
  have Hlt' := Lib.hid (fun wx (hx : Below w.heap.size w wx) => light10_any D nb cb w.heap.size rz wx (h'.belowOf hx (Nat.le_refl _)) (by omega) hs')
  obtain ⟨lim, hlim⟩ : ∃ lim, (if limit < 1 then 1 else limit) = lim := ⟨_, rfl⟩
  have Hlim := Lib.hid hlim
  have Hlim1 : Hid (1 ≤ lim) := Lib.hid (by rw [← hlim]; split <;> omega)
  have Hlz : Hid ((crLists rz).length = nb) := Lib.hid (by rw [crLists_len]; exact h'.len)
  unfold maxLen at hsz
  clear h h' hs hs' hm hm' hlim
  go_enter Try.func9, Try.ntmps9
  go_wp2_with fail
  refine (engAwake_any w).mono ?_
  rintro e w1 ⟨rfl, hb1⟩
  have Hb1 := Lib.hid hb1
  have Hlt1 := Lib.hid (Hlt.out w1 hb1)
  clear hb1 Hlt
  go_wp2_with fail
  refine Hlt1.out.mono ?_
  rintro e w2 ⟨bl, rfl, hbl, q, rfl⟩
  have Hb2 := Lib.hid (below_dr Hb1.out q)
  have Hbl := Lib.hid hbl
  clear hbl Hlt1
  generalize w1.drewN q = w2 at *
  cases bl with
  | false =>
    go_wp2
    go_ret
    exact ⟨rfl, Hb2.out⟩
  | true =>
    have HL := Lib.hid (Hbl.out rfl)
    have Hlt2 := Lib.hid (Hlt'.out w2 Hb2.out)
    clear Hbl Hlt'
    go_wp2_with fail
    refine Hlt2.out.mono ?_
    rintro e w3 ⟨bl, rfl, hbl, q, rfl⟩
    have Hb3 := Lib.hid (below_dr Hb2.out q)
    have Hbl := Lib.hid hbl
    clear hbl Hlt2
    generalize w2.drewN q = w3 at *
    have hsz3 : w.heap.size ≤ w3.heap.size := Hb3.out.size
    cases bl with
    | false =>
      go_wp2
      go_ret
      exact ⟨rfl, Hb3.out⟩
    | true =>
      have HLz := Lib.hid (Hbl.out rfl)
      have hnb40 : nb ≤ 40 := by have := Hlz.out; have := HLz.out.1; omega
      clear Hbl
      by_cases hk1 : 1000 < key.size
      · go_wp2
        go_ret
        exact ⟨rfl, Hb3.out⟩
      · have Hf := Lib.hid (filled_any A n ca rs limit lim w3 (crs_more (H.out.belowOf Hb3.out (Nat.le_refl _)) hsz3) HL.out Hlim.out Hlim1.out)
        go_wp2_with fail
        refine Hf.out.mono ?_
        rintro e' w6 ⟨e, bm, rfl, hEM⟩
        have hb6 := Hb3.out.trans (hEM.below.mono hsz3)
        have hMl := hEM.len
        obtain ⟨M, hM⟩ : ∃ M, mapAll (crLists rs).flatten [] = M := ⟨_, rfl⟩
        rw [hM] at hEM hMl
        obtain ⟨pairs, tv, rv, T, rse, mv, hE, hP, hMx, hmap, he3, hm3, -⟩ := hEM
        have hPP : PairsP 1200 M := hMx ▸ PairsP.of hP
        obtain ⟨Am, cm, rfl, -, -, hxm⟩ := hmap.row.slice
        obtain ⟨NM, hNM⟩ : ∃ NM, M.length = NM := ⟨_, rfl⟩
        have hbox := hmap.box
        have hmrow := hmap.row
        rw [hNM] at hxm hbox hMl
        have Hct := Lib.hid (cut_any hE hP (by omega) key)
        rw [hMx] at Hct
        have HE := Lib.hid hE
        have HP := Lib.hid hP
        have HMx := Lib.hid hMx
        have HPP := Lib.hid hPP
        have HNM := Lib.hid hNM
        have HBX := Lib.hid hbox
        have HXM := Lib.hid hxm
        have Hb6 := Lib.hid hb6
        have hsz6 : w.heap.size ≤ w6.heap.size := hb6.size
        clear hE hP hMx hmap hxm hbox hmrow hM hPP hb6 hNM Hf he3 hm3
        go_wp2_with fail
        refine Hct.out.mono ?_
        rintro e' w7 ⟨i, ff, ea, eb, rva, rvb, va, vb, rfl, hpi, hEa, hEb, ha1, hab, hrva, hrvb, hva, hvb, hb7⟩
        obtain ⟨na, hna⟩ : ∃ na, (M.take i).length = na := ⟨_, rfl⟩
        obtain ⟨nbb, hnbb⟩ : ∃ nbb, (M.drop i).length = nbb := ⟨_, rfl⟩
        have hnn : na + nbb = NM := by rw [← hna, ← hnbb, ← List.length_append, List.take_append_drop, HNM.out]
        have hPa := (HPP.out.take i).engR Hlim1.out va
        have hPb := (HPP.out.drop i).engR Hlim1.out vb
        rw [hna] at hEa hPa
        rw [hnbb] at hEb hPb
        have HEa := Lib.hid hEa
        have HEb := Lib.hid hEb
        have HPa := Lib.hid hPa
        have HPb := Lib.hid hPb
        have Hna := Lib.hid hna
        have Hnb := Lib.hid hnbb
        have Hpi := Lib.hid hpi
        have HOf := Lib.hid (And.intro ha1 (And.intro hab (And.intro hrva (And.intro hrvb (And.intro hva hvb)))))
        have HB7 := Lib.hid hb7
        have hs7 : w6.heap.size ≤ w7.heap.size := hb7.size
        have HLa := Lib.hid (fun wx (hx : Below w7.heap.size w7 wx) => len_eng (hEa.below hx))
        have HLb := Lib.hid (fun wx (hx : Below w7.heap.size w7 wx) => len_eng (hEb.below hx))
        have hbm := HBX.out.lt
        have HK : Hid (∀ wx, Below w7.heap.size w7 wx → wx.cell? ⟨bm, 0, none⟩ = some (.slice Am NM cm) ∧ Below w7.heap.size w7 wx) := Lib.hid fun wx hx => ⟨(HBX.out.below (HB7.out.trans (hx.mono hs7)) hbm).cell 0, hx⟩
        have hnn2 : (na : Int) + (nbb : Int) = (NM : Int) := by omega
        have d0 := (HK.out w7 (Below.refl _ _)).1
        have hwNM : IntKind.i64.wrap (NM : Int) = (NM : Int) := IntWalk.i64_in _ (by omega)
        clear hpi hEa hEb ha1 hab hrva hrvb hva hvb hb7 hPa hPb hna hnbb hnn Hct hbm
        go_wp2
        go_region_held3 (fun wx => wx.cell? ⟨bm, 0, none⟩ = some (.slice Am NM cm) ∧ Below w7.heap.size w7 wx)
          (first | exact HK.out _ (Below.refl _ _).drew | exact HK.out _ (keep10 (And.right (by assumption)) b8) | exact HK.out _ (keep10 (And.right (by assumption)) b9))
          (first
            | (go_at_call_of 42 (Value.pointer (some ⟨ea, 0, none⟩)); refine (HLa.out _ (And.right (by assumption))).mono ?_; rintro e1 w8 ⟨rfl, b8⟩)
            | (go_at_call_of 42 (Value.pointer (some ⟨eb, 0, none⟩)); refine (HLb.out _ (And.right (by assumption))).mono ?_; rintro e1 w9 ⟨rfl, b9⟩))
        all_goals
          have HB9 : Hid (Below w7.heap.size w7 w9) := Lib.hid (And.right (by assumption))
          have hs9 : w7.heap.size ≤ w9.heap.size := HB9.out.size
          obtain ⟨x, hx⟩ : ∃ x, (M.take i).map prOf = x := ⟨_, rfl⟩
          obtain ⟨y, hy⟩ : ∃ y, (M.drop i).map prOf = y := ⟨_, rfl⟩
          have hna9 : na ≤ 1200 := by omega
          have hnb9 : nbb ≤ 1200 := by omega
          have hxl : x.length = na := by rw [← hx, List.length_map, Hna.out]
          have hyl : y.length = nbb := by rw [← hy, List.length_map, Hnb.out]
          have HRa := Lib.hid (all_range (HEa.out.below HB9.out) HPa.out.1 (by omega) HPa.out.2 hx)
          have HRb := Lib.hid (fun wx (hw : Below w7.heap.size w7 wx) => all_range (HEb.out.below hw) HPb.out.1 (by omega) HPb.out.2 hy)
          have HXY := Lib.hid (And.intro hx (And.intro hy (And.intro hxl hyl)))
          clear hx hy hxl hyl b8 b9 d0
          go_wp2_with fail
          refine HRa.out.mono ?_
          rintro e' w10 ⟨v10, rfl, o10, b10⟩
          have hs10 : w9.heap.size ≤ w10.heap.size := b10.size
          have HB10 := Lib.hid (HB9.out.trans (b10.mono hs9))
          have HRb10 := Lib.hid (HRb.out w10 HB10.out)
          have HO10 := Lib.hid o10
          obtain ⟨A10, c10, rfl, -, -, -⟩ := o10.slice
          rw [HXY.out.2.2.1] at HO10 ⊢
          clear o10 b10 HRa
          go_wp2_with fail
          refine HRb10.out.mono ?_
          rintro e' w11 ⟨v11, rfl, o11, b11⟩
          have hs11 : w10.heap.size ≤ w11.heap.size := b11.size
          have HB11 := Lib.hid (HB10.out.trans (b11.mono (Nat.le_trans hs9 hs10)))
          have HO11 := Lib.hid o11
          obtain ⟨A11, c11, rfl, -, -, y11⟩ := o11.slice
          obtain ⟨A0, c0, e0, -, -, x10⟩ := HO10.out.slice
          rw [HXY.out.2.2.1] at e0 x10
          injection e0 with e0 _ _
          subst e0
          rw [HXY.out.2.2.2] at HO11 y11 ⊢
          have HXr := Lib.hid (x10.2.belowOf b11 (Nat.le_refl _))
          have HXc := Lib.hid (And.intro x10.1 HXr.out)
          have HYc := Lib.hid y11
          have hlt11 : w7.heap.size ≤ w11.heap.size := HB11.out.size
          clear o11 b11 y11 x10 HRb10
          go_wp2
          go_loopw [15] (fun iv wr => ∃ k : Nat, k ≤ na ∧ iv = .int .i64 (k : Int) ∧ Hid (Below w11.heap.size w11 wr)) (fun iv _ => na - (intOf iv).toNat)
          case atStart => exact ⟨0, by omega, rfl, Lib.hid (Below.refl _ _)⟩
          case round =>
            obtain ⟨k, hk, rfl, HB⟩ := hrel
            by_cases hlt : k < na
            · obtain ⟨a, pr, rfl, hab, hpr, d0, -⟩ := HasPrs.at_ ⟨HXc.out.1, HXc.out.2.belowOf HB.out hs11⟩ hlt
              have hlk : pr.1.data.toList < key.data.toList := cut_low HXY.out.1 Hpi.out hpr
              have hd : Op.bytesLess pr.1.toList key.toList = true := by rw [key_less]; exact decide_eq_true hlk
              have hk0 : (0 : Int) ≤ (k : Int) := by omega
              have hk2 : (k : Int) < (na : Int) := by omega
              clear hpr hab hlk
              go_wp2
              go_roundw
              case rel => exact ⟨k + 1, by omega, by go_num, HB⟩
              case measure => simp [intOf]; omega
            · obtain rfl : na = k := by omega
              go_wp2
              go_loopw [16] (fun iv wx => ∃ j : Nat, j ≤ nbb ∧ iv = .int .i64 (j : Int) ∧ Hid (Below w11.heap.size w11 wx)) (fun iv _ => nbb - (intOf iv).toNat)
              case atStart => exact ⟨0, by omega, rfl, HB⟩
              case round =>
                obtain ⟨j, hj, rfl, HBj⟩ := hrel
                by_cases hltj : j < nbb
                · obtain ⟨a, pr, rfl, hab, hpr, d0, -⟩ := HasPrs.at_ ⟨HYc.out.1, HYc.out.2.belowOf HBj.out (Nat.le_refl _)⟩ hltj
                  have hlk : ¬ pr.1.data.toList < key.data.toList := cut_high HXY.out.2.1 Hpi.out hpr
                  have hd : Op.bytesLess pr.1.toList key.toList = false := by rw [key_less]; exact decide_eq_false hlk
                  have hk0 : (0 : Int) ≤ (j : Int) := by omega
                  have hk2 : (j : Int) < (nbb : Int) := by omega
                  clear hpr hab hlk
                  go_wp2
                  go_roundw
                  case rel => exact ⟨j + 1, by omega, by go_num, HBj⟩
                  case measure => simp [intOf]; omega
                · obtain rfl : nbb = j := by omega
                  have hs12 : w11.heap.size ≤ wr.heap.size := HBj.out.size
                  have HB12 : Hid (Below w7.heap.size w7 wr) := Lib.hid (HB11.out.trans (HBj.out.mono hlt11))
                  have hJ := engJoin_any (HEa.out.below HB12.out) HPa.out.1 (HEb.out.below HB12.out) HPb.out.1 (by omega) (by omega)
                  rw [HPa.out.2, HPb.out.2, List.take_append_drop] at hJ
                  have HJ := Lib.hid hJ
                  have hJ2 := fun wx (hw : Below w7.heap.size w7 wx) => engJoin_any (HEb.out.below hw) HPb.out.1 (HEa.out.below hw) HPa.out.1 (by omega) (by omega)
                  rw [HPa.out.2, HPb.out.2] at hJ2
                  have HJ2 := Lib.hid hJ2
                  clear hJ hJ2
                  go_wp2_with fail
                  refine HJ.out.mono ?_
                  rintro e' w13 ⟨b13, ⟨hnr, -⟩ | ⟨hr, jc, rvc, vc, rfl, hjc, hEc, hrvc, hvc⟩⟩
                  · exact absurd HPP.out.run hnr
                  have hs13 : wr.heap.size ≤ w13.heap.size := b13.size
                  have HB13 : Hid (Below w7.heap.size w7 w13) := Lib.hid (HB12.out.trans (b13.mono (Nat.le_trans hlt11 hs12)))
                  have hPc := HPP.out.engR Hlim1.out vc
                  have hbt : Below w6.heap.size w6 w13 := HB7.out.trans (HB13.out.mono hs7)
                  have HSc := Lib.hid (same_any hEc hPc.1 (by omega) hPc.2 (HBX.out.below hbt HBX.out.lt) ((HXM.out.belowOf hbt (Nat.le_refl _)).more hbt.size))
                  have HYO := Lib.hid (HO11.out.below (HBj.out.trans (b13.mono hs12)))
                  have hjl := hEc.box.lt
                  have HJW : Hid ((∀ wz, Below w13.heap.size w13 wz → TwoE wz jc ea (1200 + 60 * 0) lim wz) ∧ ∀ wz wx, Below w13.heap.size w13 wz → Frm (fun g => g = jc ∨ g = ea) wz wx →
                      (∀ wy, Below wx.heap.size wx wy → Calls Try.prog 33 #[.pointer (some ⟨e, 0, none⟩), .pointer (some ⟨bm, 0, none⟩)] wy fun e' w' => e' = .returned (.bool true) ∧ Below wy.heap.size wy w') ∧
                      (∀ wy, Below wx.heap.size wx wy → Calls Try.prog 31 #[.pointer (some ⟨eb, 0, none⟩), .agg #[.string ⟨#[]⟩, .string ⟨#[]⟩], .int .i64 1099511627776] wy (RangePost y wy)) ∧
                      (∀ wy, Below wx.heap.size wx wy → HasPrs wy wy.heap.size A11 nbb y)) := Lib.hid (by
                    obtain ⟨ha1, hab, hrva, hrvb, hva, hvb⟩ := HOf.out
                    have hl7 := HEb.out.box.lt
                    have hra : ∀ r ∈ aloneR va (M.take i), r.1 = va := fun r hr => alone_val hr
                    have hrb : ∀ r ∈ aloneR vb (M.drop i), r.1 = vb := fun r hr => alone_val hr
                    have hrc : ∀ r ∈ aloneR vc M, r.1 = vc := fun r hr => alone_val hr
                    refine ⟨fun wz hz => ?_, fun wz wx hz hf => ?_⟩
                    · have hzs := hz.size
                      refine ⟨_, _, _, _, _, _, _, _, _, _, hEc.below hz, hPc.1.more (by omega), HEa.out.below (HB13.out.trans (hz.mono HB13.out.size)), HPa.out.1.more (by omega), by omega, ⟨by omega, fun g hg => (by cases hg), fun hg => ?_, fun r hr hg => ?_⟩, ⟨by omega, fun g hg => (by cases hg), fun hg => ?_, fun r hr hg => ?_⟩, Frm.refl _ _⟩
                      · have := (hrva _ hg).2; omega
                      · rw [hra r hr] at hg; have := (hva _ hg).2; omega
                      · have := hrvc _ hg; omega
                      · rw [hrc r hr] at hg; have := hvc _ hg; omega
                    · have hzs := hz.size
                      have h6z : Below w6.heap.size w6 wz := hbt.trans (hz.mono hbt.size)
                      have h7z : Below w7.heap.size w7 wz := HB13.out.trans (hz.mono HB13.out.size)
                      have hel := HE.out.box.lt
                      have hbl := HBX.out.lt
                      have hEx : EngAt wx e lim pairs tv rv T rse := (HE.out.below h6z).frm hf (fun hi => by omega) (fun g hg hi => by have := (HE.out.tab.lt g hg).2; omega) (fun g hg hi => by have := HE.out.oldR g hg; omega) (fun r hr g hg hi => by have := HE.out.oldC r hr g hg; omega)
                      have hBx : Box wx bm 44 #[.slice Am NM cm] := (HBX.out.below h6z hbl).frm hf (fun hi => by omega)
                      have hMx : HasChs wx wx.heap.size Am NM M := chs_frm0 ((HXM.out.belowOf h6z (Nat.le_refl _)).more h6z.size) hf (fun hn p ep hi => by have := chs_block HXM.out hn p ep; omega)
                      have hEbx : EngAt wx eb lim (nbb : Int) (.slice none 0 0) rvb [] (aloneR vb (M.drop i)) := (HEb.out.below h7z).frm hf (fun hi => by omega) (fun g hg => by cases hg) (fun g hg hi => by have := (hrvb g hg).1; have := HEb.out.oldR g hg; omega) (fun r hr g hg hi => by rw [hrb r hr] at hg; have := (hvb g hg).2; omega)
                      have hYx : OwnPrs wx w10.heap.size (.slice A11 nbb c11) y := own_prs_frm (HYO.out.below hz) hf (fun g hg hi => by have h8 := (HO11.out.lt g hg); omega)
                      refine ⟨fun wy hy => ?_, fun wy hy => ?_, fun wy hy => ?_⟩
                      · exact same_any (hEx.below hy) HP.out (by omega) HMx.out (hBx.below hy hBx.lt) ((hMx.belowOf hy (Nat.le_refl _)).more hy.size)
                      · exact all_range (hEbx.below hy) HPb.out.1 (by omega) HPb.out.2 HXY.out.2.1
                      · obtain ⟨A9, c9, e9, -, -, x9⟩ := (hYx.below hy).slice
                        injection e9 with e9 _ _
                        subst e9
                        rw [HXY.out.2.2.2] at x9
                        exact x9)
                  have Hb13 : Hid (Below w.heap.size w w13) := Lib.hid (Hb6.out.trans (hbt.mono hsz6))
                  have hjc0 : w.heap.size ≤ jc ∧ w.heap.size ≤ ea ∧ w.heap.size ≤ w13.heap.size := ⟨by omega, by have := HOf.out.1; omega, by have := Hb13.out.size; omega⟩
                  clear b13 hr hEc hrvc hvc hPc hbt hjl HJ
                  go_wp2_with fail
                  refine HSc.out.mono ?_
                  rintro e' w14 ⟨rfl, b14⟩
                  have HB14 := Lib.hid b14
                  have hs14 : w13.heap.size ≤ w14.heap.size := b14.size
                  clear b14 HSc
                  by_cases hx0 : 0 < na
                  · by_cases hy0 : 0 < nbb
                    · have Hj2 := Lib.hid (HJ2.out w14 (HB13.out.trans (HB14.out.mono HB13.out.size)))
                      have Hnr : Hid (¬ Run (M.drop i ++ M.take i)) := Lib.hid (not_run_back HPP.out.run (by rw [Hna.out]; exact hx0) (by rw [Hnb.out]; exact hy0))
                      clear HJ2
                      go_wp2_with fail
                      refine Hj2.out.mono ?_
                      rintro e' w15 ⟨b15, ⟨hnr, rfl⟩ | ⟨hr, -⟩⟩
                      · have BZ : Below w13.heap.size w13 w15 := HB14.out.trans (b15.mono hs14)
                        clear b15 hnr
                        have H2E : Hid (TwoE w15 jc ea (1200 + 60 * 0) lim w15) := Lib.hid (HJW.out.1 w15 BZ)
                        have HRS := Lib.hid (fun wx hf => HJW.out.2 w15 wx BZ hf)
                        have HBZ : Hid (Below w.heap.size w w15) := Lib.hid (Hb13.out.trans (BZ.mono hjc0.2.2))
                        have hjc1 := hjc0.1
                        have hjc2 := hjc0.2.1
                        clear BZ
                        have hszZ : w.heap.size ≤ w15.heap.size := HBZ.out.size
                        go_wp2
                        go_loopw [21] (fun iv wl => ∃ q : Nat, q ≤ nb ∧ iv = .int .i64 (q : Int) ∧ Hid (TwoE w15 jc ea (1200 + 60 * q) lim wl)) (fun iv _ => nb - (intOf iv).toNat)
                        case atStart => exact ⟨0, by omega, rfl, H2E⟩
                        case round =>
                          clear H2E
                          obtain ⟨q, hq, rfl, H2⟩ := hrel
                          have hfr := H2.out.frm
                          have hbl : Below w.heap.size w15 wr := hfr.below (fun g hg => by rcases hg with rfl | rfl <;> omega) hszZ
                          have HBL := Lib.hid (HBZ.out.trans hbl)
                          by_cases hqb : q < nb
                          · obtain ⟨a, A1, m1, c1, l, rfl, hab, hg, g1, g2, g3, d0, -⟩ := H'.out.at_ hqb
                            have hll := HLz.out.2 l (List.mem_of_getElem? hg)
                            have hm1 : m1 ≤ 30 := by have h2 := g3.1; have := hll.1; omega
                            have hsm : ∀ x ∈ l, x.k.size ≤ 4000 ∧ x.v.size ≤ 4000 := fun x hx => by have := hll.mem hx; omega
                            have HR : Hid (∀ wx, Below w.heap.size w wx → wx.cell? (a.add q) = some (.slice A1 m1 c1)) := Lib.hid fun wx hb => (hb.cell (p := a.add q) (by rw [addr_block]; exact hab)).trans d0
                            have Hp1 := Lib.hid (H2.out.put A1 m1 c1 l ((g3.belowOf HBL.out (Nat.le_refl _)).more HBL.out.size) (fun hn p ep => by have := chs_block g3 hn p ep; omega) (by omega) hsm)
                            have d1 := HR.out _ HBL.out
                            have hk0 : (0 : Int) ≤ (q : Int) := by omega
                            have hk2 : (q : Int) < (nb : Int) := by omega
                            have HG3 := Lib.hid (And.intro g3 hsm)
                            clear hll hg g1 g2 g3 d0 hfr hbl hsm
                            go_wp2_with fail
                            refine Hp1.out.mono ?_
                            rintro e' w20 ⟨rfl, h20⟩
                            have hbl : Below w.heap.size w15 w20 := h20.frm.below (fun g hg => by rcases hg with rfl | rfl <;> omega) hszZ
                            have HBL2 := Lib.hid (HBZ.out.trans hbl)
                            have Hp2 := Lib.hid (h20.swap.put A1 m1 c1 l ((HG3.out.1.belowOf HBL2.out (Nat.le_refl _)).more HBL2.out.size) (fun hn p ep => by have := chs_block HG3.out.1 hn p ep; omega) (by omega) HG3.out.2)
                            have d2 := HR.out _ HBL2.out
                            clear hbl h20 Hp1
                            go_wp2_with fail
                            refine Hp2.out.mono ?_
                            rintro e' w21 ⟨rfl, h21⟩
                            have HZ : Hid (TwoE w15 jc ea (1200 + 60 * (q + 1)) lim w21) := Lib.hid (h21.swap.up (by omega))
                            clear h21 Hp2
                            go_wp2
                            go_roundw
                            case rel => exact ⟨q + 1, by omega, by go_num, HZ⟩
                            case measure => simp [intOf]; omega
                          · obtain rfl : nb = q := by omega
                            obtain ⟨hsame, hran, hyr⟩ := HRS.out wr hfr
                            have HSM := Lib.hid hsame
                            have HRN := Lib.hid hran
                            have HYR := Lib.hid hyr
                            clear hsame hran hyr hfr hbl
                            go_wp2_with fail
                            refine (HSM.out _ (Below.refl _ _)).mono ?_
                            rintro e1 w22 ⟨rfl, b22⟩
                            have HRN2 := Lib.hid (HRN.out w22 b22)
                            have HB22 := Lib.hid b22
                            clear b22
                            go_wp2_with fail
                            refine HRN2.out.mono ?_
                            rintro e1 w23 ⟨v23, rfl, o23, b23⟩
                            obtain ⟨A23, c23, rfl, -, -, x23⟩ := o23.slice
                            have HB23 := Lib.hid (HB22.out.trans (b23.mono HB22.out.size))
                            rw [HXY.out.2.2.2] at x23 ⊢
                            have HSP := Lib.hid (samePairs_any A23 A11 nbb c23 c11 _ _ y w23 x23 (HYR.out _ HB23.out) (by unfold maxLen; omega))
                            clear o23 b23 x23
                            go_wp2_with fail
                            refine HSP.out.mono ?_
                            rintro e1 w24 ⟨rfl, b24⟩
                            have HEE : Hid (Below w.heap.size w w24) := Lib.hid (HBL.out.trans ((HB23.out.trans (b24.mono HB23.out.size)).mono HBL.out.size))
                            clear b24
                            go_wp2
                            go_ret
                            exact ⟨rfl, HEE.out⟩
                      · exact absurd hr Hnr.out
                    · have BZ : Below w13.heap.size w13 w14 := HB14.out
                      have H2E : Hid (TwoE w14 jc ea (1200 + 60 * 0) lim w14) := Lib.hid (HJW.out.1 w14 BZ)
                      have HRS := Lib.hid (fun wx hf => HJW.out.2 w14 wx BZ hf)
                      have HBZ : Hid (Below w.heap.size w w14) := Lib.hid (Hb13.out.trans (BZ.mono hjc0.2.2))
                      have hjc1 := hjc0.1
                      have hjc2 := hjc0.2.1
                      clear BZ
                      have hszZ : w.heap.size ≤ w14.heap.size := HBZ.out.size
                      go_wp2
                      go_loopw [21] (fun iv wl => ∃ q : Nat, q ≤ nb ∧ iv = .int .i64 (q : Int) ∧ Hid (TwoE w14 jc ea (1200 + 60 * q) lim wl)) (fun iv _ => nb - (intOf iv).toNat)
                      case atStart => exact ⟨0, by omega, rfl, H2E⟩
                      case round =>
                        clear H2E
                        obtain ⟨q, hq, rfl, H2⟩ := hrel
                        have hfr := H2.out.frm
                        have hbl : Below w.heap.size w14 wr := hfr.below (fun g hg => by rcases hg with rfl | rfl <;> omega) hszZ
                        have HBL := Lib.hid (HBZ.out.trans hbl)
                        by_cases hqb : q < nb
                        · obtain ⟨a, A1, m1, c1, l, rfl, hab, hg, g1, g2, g3, d0, -⟩ := H'.out.at_ hqb
                          have hll := HLz.out.2 l (List.mem_of_getElem? hg)
                          have hm1 : m1 ≤ 30 := by have h2 := g3.1; have := hll.1; omega
                          have hsm : ∀ x ∈ l, x.k.size ≤ 4000 ∧ x.v.size ≤ 4000 := fun x hx => by have := hll.mem hx; omega
                          have HR : Hid (∀ wx, Below w.heap.size w wx → wx.cell? (a.add q) = some (.slice A1 m1 c1)) := Lib.hid fun wx hb => (hb.cell (p := a.add q) (by rw [addr_block]; exact hab)).trans d0
                          have Hp1 := Lib.hid (H2.out.put A1 m1 c1 l ((g3.belowOf HBL.out (Nat.le_refl _)).more HBL.out.size) (fun hn p ep => by have := chs_block g3 hn p ep; omega) (by omega) hsm)
                          have d1 := HR.out _ HBL.out
                          have hk0 : (0 : Int) ≤ (q : Int) := by omega
                          have hk2 : (q : Int) < (nb : Int) := by omega
                          have HG3 := Lib.hid (And.intro g3 hsm)
                          clear hll hg g1 g2 g3 d0 hfr hbl hsm
                          go_wp2_with fail
                          refine Hp1.out.mono ?_
                          rintro e' w20 ⟨rfl, h20⟩
                          have hbl : Below w.heap.size w14 w20 := h20.frm.below (fun g hg => by rcases hg with rfl | rfl <;> omega) hszZ
                          have HBL2 := Lib.hid (HBZ.out.trans hbl)
                          have Hp2 := Lib.hid (h20.swap.put A1 m1 c1 l ((HG3.out.1.belowOf HBL2.out (Nat.le_refl _)).more HBL2.out.size) (fun hn p ep => by have := chs_block HG3.out.1 hn p ep; omega) (by omega) HG3.out.2)
                          have d2 := HR.out _ HBL2.out
                          clear hbl h20 Hp1
                          go_wp2_with fail
                          refine Hp2.out.mono ?_
                          rintro e' w21 ⟨rfl, h21⟩
                          have HZ : Hid (TwoE w14 jc ea (1200 + 60 * (q + 1)) lim w21) := Lib.hid (h21.swap.up (by omega))
                          clear h21 Hp2
                          go_wp2
                          go_roundw
                          case rel => exact ⟨q + 1, by omega, by go_num, HZ⟩
                          case measure => simp [intOf]; omega
                        · obtain rfl : nb = q := by omega
                          obtain ⟨hsame, hran, hyr⟩ := HRS.out wr hfr
                          have HSM := Lib.hid hsame
                          have HRN := Lib.hid hran
                          have HYR := Lib.hid hyr
                          clear hsame hran hyr hfr hbl
                          go_wp2_with fail
                          refine (HSM.out _ (Below.refl _ _)).mono ?_
                          rintro e1 w22 ⟨rfl, b22⟩
                          have HRN2 := Lib.hid (HRN.out w22 b22)
                          have HB22 := Lib.hid b22
                          clear b22
                          go_wp2_with fail
                          refine HRN2.out.mono ?_
                          rintro e1 w23 ⟨v23, rfl, o23, b23⟩
                          obtain ⟨A23, c23, rfl, -, -, x23⟩ := o23.slice
                          have HB23 := Lib.hid (HB22.out.trans (b23.mono HB22.out.size))
                          rw [HXY.out.2.2.2] at x23 ⊢
                          have HSP := Lib.hid (samePairs_any A23 A11 nbb c23 c11 _ _ y w23 x23 (HYR.out _ HB23.out) (by unfold maxLen; omega))
                          clear o23 b23 x23
                          go_wp2_with fail
                          refine HSP.out.mono ?_
                          rintro e1 w24 ⟨rfl, b24⟩
                          have HEE : Hid (Below w.heap.size w w24) := Lib.hid (HBL.out.trans ((HB23.out.trans (b24.mono HB23.out.size)).mono HBL.out.size))
                          clear b24
                          go_wp2
                          go_ret
                          exact ⟨rfl, HEE.out⟩
                  · have BZ : Below w13.heap.size w13 w14 := HB14.out
                    have H2E : Hid (TwoE w14 jc ea (1200 + 60 * 0) lim w14) := Lib.hid (HJW.out.1 w14 BZ)
                    have HRS := Lib.hid (fun wx hf => HJW.out.2 w14 wx BZ hf)
                    have HBZ : Hid (Below w.heap.size w w14) := Lib.hid (Hb13.out.trans (BZ.mono hjc0.2.2))
                    have hjc1 := hjc0.1
                    have hjc2 := hjc0.2.1
                    clear BZ
                    have hszZ : w.heap.size ≤ w14.heap.size := HBZ.out.size
                    go_wp2
                    go_loopw [21] (fun iv wl => ∃ q : Nat, q ≤ nb ∧ iv = .int .i64 (q : Int) ∧ Hid (TwoE w14 jc ea (1200 + 60 * q) lim wl)) (fun iv _ => nb - (intOf iv).toNat)
                    case atStart => exact ⟨0, by omega, rfl, H2E⟩
                    case round =>
                      clear H2E
                      obtain ⟨q, hq, rfl, H2⟩ := hrel
                      have hfr := H2.out.frm
                      have hbl : Below w.heap.size w14 wr := hfr.below (fun g hg => by rcases hg with rfl | rfl <;> omega) hszZ
                      have HBL := Lib.hid (HBZ.out.trans hbl)
                      by_cases hqb : q < nb
                      · obtain ⟨a, A1, m1, c1, l, rfl, hab, hg, g1, g2, g3, d0, -⟩ := H'.out.at_ hqb
                        have hll := HLz.out.2 l (List.mem_of_getElem? hg)
                        have hm1 : m1 ≤ 30 := by have h2 := g3.1; have := hll.1; omega
                        have hsm : ∀ x ∈ l, x.k.size ≤ 4000 ∧ x.v.size ≤ 4000 := fun x hx => by have := hll.mem hx; omega
                        have HR : Hid (∀ wx, Below w.heap.size w wx → wx.cell? (a.add q) = some (.slice A1 m1 c1)) := Lib.hid fun wx hb => (hb.cell (p := a.add q) (by rw [addr_block]; exact hab)).trans d0
                        have Hp1 := Lib.hid (H2.out.put A1 m1 c1 l ((g3.belowOf HBL.out (Nat.le_refl _)).more HBL.out.size) (fun hn p ep => by have := chs_block g3 hn p ep; omega) (by omega) hsm)
                        have d1 := HR.out _ HBL.out
                        have hk0 : (0 : Int) ≤ (q : Int) := by omega
                        have hk2 : (q : Int) < (nb : Int) := by omega
                        have HG3 := Lib.hid (And.intro g3 hsm)
                        clear hll hg g1 g2 g3 d0 hfr hbl hsm
                        go_wp2_with fail
                        refine Hp1.out.mono ?_
                        rintro e' w20 ⟨rfl, h20⟩
                        have hbl : Below w.heap.size w14 w20 := h20.frm.below (fun g hg => by rcases hg with rfl | rfl <;> omega) hszZ
                        have HBL2 := Lib.hid (HBZ.out.trans hbl)
                        have Hp2 := Lib.hid (h20.swap.put A1 m1 c1 l ((HG3.out.1.belowOf HBL2.out (Nat.le_refl _)).more HBL2.out.size) (fun hn p ep => by have := chs_block HG3.out.1 hn p ep; omega) (by omega) HG3.out.2)
                        have d2 := HR.out _ HBL2.out
                        clear hbl h20 Hp1
                        go_wp2_with fail
                        refine Hp2.out.mono ?_
                        rintro e' w21 ⟨rfl, h21⟩
                        have HZ : Hid (TwoE w14 jc ea (1200 + 60 * (q + 1)) lim w21) := Lib.hid (h21.swap.up (by omega))
                        clear h21 Hp2
                        go_wp2
                        go_roundw
                        case rel => exact ⟨q + 1, by omega, by go_num, HZ⟩
                        case measure => simp [intOf]; omega
                      · obtain rfl : nb = q := by omega
                        obtain ⟨hsame, hran, hyr⟩ := HRS.out wr hfr
                        have HSM := Lib.hid hsame
                        have HRN := Lib.hid hran
                        have HYR := Lib.hid hyr
                        clear hsame hran hyr hfr hbl
                        go_wp2_with fail
                        refine (HSM.out _ (Below.refl _ _)).mono ?_
                        rintro e1 w22 ⟨rfl, b22⟩
                        have HRN2 := Lib.hid (HRN.out w22 b22)
                        have HB22 := Lib.hid b22
                        clear b22
                        go_wp2_with fail
                        refine HRN2.out.mono ?_
                        rintro e1 w23 ⟨v23, rfl, o23, b23⟩
                        obtain ⟨A23, c23, rfl, -, -, x23⟩ := o23.slice
                        have HB23 := Lib.hid (HB22.out.trans (b23.mono HB22.out.size))
                        rw [HXY.out.2.2.2] at x23 ⊢
                        have HSP := Lib.hid (samePairs_any A23 A11 nbb c23 c11 _ _ y w23 x23 (HYR.out _ HB23.out) (by unfold maxLen; omega))
                        clear o23 b23 x23
                        go_wp2_with fail
                        refine HSP.out.mono ?_
                        rintro e1 w24 ⟨rfl, b24⟩
                        have HEE : Hid (Below w.heap.size w w24) := Lib.hid (HBL.out.trans ((HB23.out.trans (b24.mono HB23.out.size)).mono HBL.out.size))
                        clear b24
                        go_wp2
                        go_ret
                        exact ⟨rfl, HEE.out⟩

namespace lawEngineCuts
open Go.ChangeShapes Go.WideShapes Go.ChangeAt

theorem own : ownKnob Try.prog.godebug = none := by kernel_rfl
theorem kids : Kids Try.prog (· < Try.prog.types.size) := kids_rows (by kernel_rfl) (by kernel_rfl)
theorem full : ∀ t e, t < Try.prog.types.size → Try.prog.underlying t = some (.slice e) → 0 < Try.prog.cellsOf e := slices_full_of Try.prog (by kernel_rfl)

set_option maxRecDepth 100000 in
theorem lifted (os : Os) (started : os.Started) (H : Type) (enc : TypeId × Value → H) :
    ReturnsInHanded {} Try.checked os 9 .any (Rows.engineCutsSpec.pre6 enc Try.prog Try.f9 Rows.engineCutsRow.domain false) (Rows.engineCutsSpec.post enc Try.prog Try.f9 false true false false) := by
  refine returnsInHanded_of_change (C := Try.checked) own started (by kernel_rfl) Try.func9
    (ChangeSpec.witness6 (enc := enc) (C := Try.checked) false ⟨#[], #[.slice none 0 0, .slice none 0 0, .int .i64 0, .string ⟨#[]⟩], []⟩ 8 (by kernel_rfl) (by kernel_rfl) (by kernel_rfl) (by kernel_rfl)) ?_
  intro W base args ds gs before hval0 hW _ _
  have hval : ∀ (j : Nat) t v, Try.f9.params[j]? = some t → args[j]? = some v → Value.okWide Try.prog W .any base t v := hval0
  have hW' := hW
  obtain ⟨p, q, hA0, hV, rfl, _, _⟩ := hW
  obtain ⟨rfl, rfl⟩ := trodVars_none hV
  have hA : DataW.TrodAll enc Try.prog W 0 (fun _ => true) true Try.f9.params.toList args.toList ds p := hA0
  rw [Try.params9] at hA hval
  obtain ⟨v0, vs0, d0, ds0, p0, q0, hargs, rfl, rfl, h0, r0⟩ := trodAll_cons hA
  obtain ⟨v1, vs1, d1, ds1, p1, q1, rfl, rfl, rfl, h1, r1⟩ := trodAll_cons r0
  obtain ⟨v2, vs2, d2, ds2, p2, q2, rfl, rfl, rfl, h2, r2⟩ := trodAll_cons r1
  obtain ⟨v3, vs3, d3, ds3, p3, q3, rfl, rfl, rfl, h3, r3⟩ := trodAll_cons r2
  obtain ⟨rfl, rfl, rfl⟩ := trodAll_nil r3
  obtain rfl : args = #[v0, v1, v2, v3] := by cases args; simp_all
  have hlt := hW'.lt
  obtain ⟨A0, n0, c0, l0, rfl, hnc0, hm0, hb0, hs0⟩ := open_crs Try.underlying29 (by kernel_rfl) Try.underlying22 Try.underlying38 (by kernel_rfl) ⟨rfl, rfl, rfl⟩ ⟨by kernel_rfl, by kernel_rfl, by kernel_rfl⟩ ⟨by kernel_rfl, by kernel_rfl, by kernel_rfl⟩ (hval 0 29 v0 rfl rfl) h0 (fun x hx => hlt x (by simp [hx]))
  obtain ⟨A1, n1, c1, l1, rfl, hnc1, hm1, hb1, hs1⟩ := open_crs Try.underlying29 (by kernel_rfl) Try.underlying22 Try.underlying38 (by kernel_rfl) ⟨rfl, rfl, rfl⟩ ⟨by kernel_rfl, by kernel_rfl, by kernel_rfl⟩ ⟨by kernel_rfl, by kernel_rfl, by kernel_rfl⟩ (hval 1 29 v1 rfl rfl) h1 (fun x hx => hlt x (by simp [hx]))
  obtain ⟨k2, rfl, _, _, _⟩ := open_int Try.underlying3 (hval 2 3 v2 rfl rfl) h2
  obtain ⟨s3, rfl, _, _, ws3⟩ := Go.ChangeMaps.open_string Try.underlying9 (hval 3 9 v3 rfl rfl) h3
  refine (cuts_walk A0 A1 n0 c0 n1 c1 k2 l0 l1 s3 W hb0 hnc0 hm0 hs0 hb1 hnc1 hm1 hs1 ws3).mono fun e W' ⟨he, hbel⟩ => ?_
  subst he
  exact ⟨_, rfl, law_post kids full (of_decide_eq_true (by kernel_rfl)) Try.underlying4 rfl rfl rfl hW' hbel⟩

theorem proved : Rows.EngineCutsSaid :=
  OpenClaim.holds_of_wide 9 Try.f9 rfl rfl rfl rfl rfl rfl rfl ⟨rfl, rfl, rfl, rfl, rfl⟩ rfl rfl rfl rfl rfl (by kernel_rfl) Try.func9 (by kernel_rfl)
    (of_decide_eq_true (by kernel_rfl)) (by unfold Func.isWrapper; first | (rw [if_pos (by decide +kernel)]; kernel_rfl) | (rw [if_neg (by decide +kernel)]; exact ⟨rfl, rfl⟩))
    (fun os started H enc _ => lifted os started H enc)
end lawEngineCuts

end Go.Proofs.Yteioopcacpihpaa
