/- EnginePlays: whatever batches are put, the engine has the pairs that the document says. No condition. -/
import Derived.Test.YtlacpnokcabeoaaMExD
import Derived.Test.YtlacpnokcabeoaaMExG
import Derived.Test.YtlacpnokcabeoaaMExJ
import Derived.Test.YtlacpnokcabeoaaMExA
import Derived.Test.YtlacpnokcabeoaaMExC
import Derived.Deep.RegionHeld3
import Derived.Test.YtlacpnokcabeoaaMBchC
import Derived.Test.YtlacpnokcabeoaaClone
import Derived.Deep.RegionWith
import Derived.Test.YtlacpnokcabeoaaMExO
import Derived.Deep.Grids
namespace Go.Proofs.Ytlacpnokcabeoaa
open Go.RowKit
open Go.Lib (strCells compareBytes)

theorem bodyL_succ {l : List Chg} {k : Nat} {c : Chg} (h : l[k]? = some c) : bodyL (l.take (k + 1)) = bodyL (l.take k) ++ (textForm c.k.data.toList ++ ([if c.g then 1 else 0] ++ textForm c.v.data.toList)) := by
  rw [take_snocC h, bodyL_app]
  simp [bodyL, chgForm, goneN_one]
theorem own_eqB {w : World} {B m m' : Nat} {v : Value} {xs xs' : List Value} (h : w.ownsRow B 5 1 v m xs) (hm : m = m') (hx : xs = xs') : w.ownsRow B 5 1 v m' xs' := by
  subst hm
  subst hx
  exact h
/-- bytes that the call owns -/
def OwnBs (w : World) (B : Nat) (v : Value) (l : List UInt8) : Prop := w.ownsRow B 5 1 v l.length (byteCells l)
theorem OwnBs.app {w' : World} {B m : Nat} {v : Value} {a b : List UInt8} (h : w'.ownsRow B 5 1 v (a.length + m) (byteCells a ++ byteCells b)) (hm : m = b.length) : OwnBs w' B v (a ++ b) := by
  subst hm
  unfold OwnBs
  rw [List.length_append, byteCells_app]
  exact h
set_option maxRecDepth 100000 in
set_option maxHeartbeats 3200000 in
theorem refPack_any (A : Option Addr) (n ca C : Nat) (l : List Chg) (w : World) (h : HasChs w C A n l) (hC : C ≤ w.heap.size) (hn : n ≤ 1200) (hs : ∀ x ∈ l, x.k.size ≤ 4000 ∧ x.v.size ≤ 4000) :
    Calls Try.prog 64 #[.slice A n ca] w (PackPost w.heap.size l w) := by
  have Hw := Lib.hid (refRight_any A n ca C l w h (by unfold maxLen; omega) hC)
  have H := Lib.hid h
  have HC := Lib.hid hC
  have Hs := Lib.hid hs
  have Hl := Lib.hid h.1
  clear h hC hs
  by_cases hr : Run l
  · have Hr := Lib.hid hr
    rw [runB_true hr] at Hw
    clear hr
    have Hbl : Hid (∀ k, (bodyL (l.take k)).length ≤ 10800000) := Lib.hid fun k => by
      have h1 := bodyL_le (l := l.take k) fun x hx => Hs.out x (List.mem_of_mem_take hx)
      rw [List.length_take, Hl.out] at h1
      omega
    have Hnl : Hid ((numForm n).length ≤ 9) := Lib.hid (numForm_len9 (by omega))
    go_enter Try.func64, Try.ntmps64
    go_wp2_with fail
    refine Hw.out.mono ?_
    rintro e w1 ⟨rfl, hb1⟩
    have Hb1 := Lib.hid hb1
    clear hb1
    go_wp2_with fail
    refine (refPutNum_any (n : Int) w1 (by omega)).mono ?_
    rintro e w2 ⟨v2, rfl, ho2, hb2⟩
    rw [if_neg (by omega), Int.toNat_natCast] at ho2
    have Ho2 : Hid (OwnBs w2 w.heap.size v2 (numForm n ++ bodyL (l.take 0))) := Lib.hid (by simp [bodyL]; exact own_base ho2 Hb1.out.size)
    have Hb2 := Lib.hid (Hb1.out.trans (hb2.mono Hb1.out.size))
    clear ho2 hb2
    go_wp2
    go_loopw [4, 5] (fun o i wr => ∃ k : Nat, k ≤ n ∧ i = .int .i64 (k : Int) ∧ OwnBs wr w.heap.size o (numForm n ++ bodyL (l.take k)) ∧ Below w.heap.size w wr) (fun _ i _ => n - (intOf i).toNat)
    case atStart => exact ⟨0, by omega, rfl, Ho2.out, Hb2.out⟩
    case round =>
      clear Ho2 Hb2
      obtain ⟨k, hk, rfl, ho, hb⟩ := hrel
      have Ho := Lib.hid ho
      have Hb := Lib.hid hb
      have hsz := hb.size
      clear hb ho
      by_cases hlt : k < n
      · obtain ⟨a, y, rfl, hab, hy, c0, c1, c2⟩ := (H.out.belowOf Hb.out HC.out).at_ hlt
        have Hbs := Lib.hid (bodyL_succ hy)
        have hys := Hs.out y (List.mem_of_getElem? hy)
        have Hy := Lib.hid hy
        have Hlen : Hid ((numForm n ++ bodyL (l.take k)).length ≤ 10800009) := Lib.hid (by rw [List.length_append]; have := Hbl.out k; have := Hnl.out; omega)
        clear hy
        obtain ⟨yk, yv, yg⟩ := y
        simp only at c0 c1 c2 hys Hbs
        have hlk := textForm_le (s := yk.data.toList) (by rw [← Lib.size_eq]; exact hys.1)
        have hlv := textForm_le (s := yv.data.toList) (by rw [← Lib.size_eq]; exact hys.2)
        cases yg with
        | false =>
          go_wp2_with fail
          refine (refPutText_any yk wr (by omega)).mono ?_
          rintro e w3 ⟨v3, rfl, o3, b3⟩
          obtain ⟨A3, m3, rfl, -, -, x3⟩ := own_slice o3
          have X3 := Lib.hid x3
          have Ho3 := Lib.hid (own_below Ho.out b3)
          have Hb3 := Lib.hid (Hb.out.trans (b3.mono hsz))
          have hsz3 : w.heap.size ≤ w3.heap.size := Nat.le_trans hsz b3.size
          have Hr3 := Lib.hid (b3.mono hsz)
          clear o3 x3 b3
          have Hpost4 : Hid (∀ v4 w4, w4.ownsRow w.heap.size 5 1 v4 ((numForm n ++ bodyL (l.take k)).length + (textForm yk.data.toList).length) (byteCells (numForm n ++ bodyL (l.take k)) ++ byteCells (textForm yk.data.toList)) → w3.grownBy w4 _ →
              OwnBs w4 w.heap.size v4 ((numForm n ++ bodyL (l.take k)) ++ textForm yk.data.toList) ∧ Below w.heap.size w w4 ∧ w.heap.size ≤ w4.heap.size ∧ w4.cell? ⟨(a.add (k * 3)).block, (a.add (k * 3)).off + 2, none⟩ = some (.bool false) ∧ w4.cell? ⟨(a.add (k * 3)).block, (a.add (k * 3)).off + 1, none⟩ = some (.string yv)) := Lib.hid fun v4 w4 o4 g4 => by
            have hbB : Below w.heap.size w3 w4 := (Below.refl _ _).grown g4 hsz3 fun g e => (Ho3.out.lt g e).1
            exact ⟨OwnBs.app o4 rfl, Hb3.out.trans hbB, (Hb3.out.trans hbB).size, ((Hr3.out.trans hbB).cell (p := ⟨(a.add (k * 3)).block, (a.add (k * 3)).off + 2, none⟩) (by show (a.add (k * 3)).block < _; rw [addr_block]; exact Nat.lt_of_lt_of_le hab HC.out)).trans c2, ((Hr3.out.trans hbB).cell (p := ⟨(a.add (k * 3)).block, (a.add (k * 3)).off + 1, none⟩) (by show (a.add (k * 3)).block < _; rw [addr_block]; exact Nat.lt_of_lt_of_le hab HC.out)).trans c1⟩
          have Hlen4 : Hid (((numForm n ++ bodyL (l.take k)) ++ textForm yk.data.toList).length ≤ 10805000) := Lib.hid (by rw [List.length_append]; have := Hlen.out; omega)
          clear c0 c1 c2
          go_wp2_with (first
            | (at_builtin; refine wpList_append_has rfl (.tmp 18) (.tmp 24) _ rfl 5 u8_elem Try.underlying63 rfl Ho3.out rfl X3.out (byteCells_one _) (by have := Hlen.out; simp only [maxLen]; omega) (by have := Hlen.out; omega) hsz3 ?_; intro v4 w4 o4 g4 _; obtain ⟨ho4, hb4, hsz4, hcg, hcv⟩ := Hpost4.out v4 w4 o4 g4; have Ho4 := Lib.hid ho4; have Hb4 := Lib.hid hb4; clear ho4 hb4; have hszL : w.heap.size ≤ (w4.alloc (Obj.cells #[.int .u8 0] 5)).heap.size := (by simp only [World.size_alloc]; omega))
            | (at_builtin; refine wpList_append_has rfl (.tmp 34) (.tmp 35) _ rfl 5 u8_elem Try.underlying63 rfl (own_below Ho4.out (below_box (Obj.cells #[.int .u8 0] 5))) rfl (Has.lit w4 #[.int .u8 0] 5) (fun u hu => by simp at hu; subst hu; rfl) (by have := Hlen4.out; simp only [maxLen]; omega) (by have := Hlen4.out; omega) hszL ?_; intro v5 w5 o5 g5 _; have hbA : Below w.heap.size w4 w5 := ((Below.refl _ w4).alloc hsz4 (Obj.cells #[.int .u8 0] 5)).trans ((Below.refl _ _).grown g5 hszL fun g e => (Ho4.out.lt g e).1); have hcv5 : w5.cell? ⟨(a.add (k * 3)).block, (a.add (k * 3)).off + 1, none⟩ = some (.string yv) := (hbA.cell (p := ⟨(a.add (k * 3)).block, (a.add (k * 3)).off + 1, none⟩) (by show (a.add (k * 3)).block < _; rw [addr_block]; exact Nat.lt_of_lt_of_le hab HC.out)).trans hcv))
          have Ho5 : Hid (OwnBs w5 w.heap.size v5 ((numForm n ++ bodyL (l.take k)) ++ textForm yk.data.toList ++ [0])) := Lib.hid (OwnBs.app (b := [0]) (m := 1) o5 rfl)
          have Hb5 := Lib.hid (Hb4.out.trans hbA)
          have hsz5 : w.heap.size ≤ w5.heap.size := Hb5.out.size
          clear o5 g5 hbA
          refine (refPutText_any yv w5 (by omega)).mono ?_
          rintro e w6 ⟨v6, rfl, o6, b6⟩
          obtain ⟨A6, m6, rfl, -, -, x6⟩ := own_slice o6
          have X6 := Lib.hid x6
          have Ho6 := Lib.hid (own_below Ho5.out b6)
          have Hb6 := Lib.hid (Hb5.out.trans (b6.mono hsz5))
          have hsz6 : w.heap.size ≤ w6.heap.size := Nat.le_trans hsz5 b6.size
          have Hlen6 : Hid (((numForm n ++ bodyL (l.take k)) ++ textForm yk.data.toList ++ [0]).length ≤ 10810000) := Lib.hid (by rw [List.length_append]; have := Hlen4.out; simp only [List.length_cons, List.length_nil]; omega)
          clear o6 x6 b6
          go_wp2_with (at_builtin; refine wpList_append_has rfl (.tmp 37) (.tmp 43) _ rfl 5 u8_elem Try.underlying63 rfl Ho6.out rfl X6.out (byteCells_one _) (by have := Hlen6.out; simp only [maxLen]; omega) (by have := Hlen6.out; omega) hsz6 ?_; intro v7 w7 o7 g7 _)
          have Ho7 : Hid (OwnBs w7 w.heap.size v7 (numForm n ++ bodyL (l.take (k + 1)))) := Lib.hid (by
            have h1 := OwnBs.app (a := (numForm n ++ bodyL (l.take k)) ++ textForm yk.data.toList ++ [0]) (b := textForm yv.data.toList) o7 rfl
            rw [Hbs.out]
            simpa [List.append_assoc] using h1)
          have Hb7 := Lib.hid (Hb6.out.trans ((Below.refl _ _).grown g7 hsz6 fun g e => (Ho6.out.lt g e).1))
          clear o7 g7
          go_wp2
          go_roundw
          case rel => exact ⟨k + 1, by omega, by go_num, Ho7.out, Hb7.out⟩
          case measure => simp [intOf]; omega
        | true =>
          go_wp2_with fail
          refine (refPutText_any yk wr (by omega)).mono ?_
          rintro e w3 ⟨v3, rfl, o3, b3⟩
          obtain ⟨A3, m3, rfl, -, -, x3⟩ := own_slice o3
          have X3 := Lib.hid x3
          have Ho3 := Lib.hid (own_below Ho.out b3)
          have Hb3 := Lib.hid (Hb.out.trans (b3.mono hsz))
          have hsz3 : w.heap.size ≤ w3.heap.size := Nat.le_trans hsz b3.size
          have Hr3 := Lib.hid (b3.mono hsz)
          clear o3 x3 b3
          have Hpost4 : Hid (∀ v4 w4, w4.ownsRow w.heap.size 5 1 v4 ((numForm n ++ bodyL (l.take k)).length + (textForm yk.data.toList).length) (byteCells (numForm n ++ bodyL (l.take k)) ++ byteCells (textForm yk.data.toList)) → w3.grownBy w4 _ →
              OwnBs w4 w.heap.size v4 ((numForm n ++ bodyL (l.take k)) ++ textForm yk.data.toList) ∧ Below w.heap.size w w4 ∧ w.heap.size ≤ w4.heap.size ∧ w4.cell? ⟨(a.add (k * 3)).block, (a.add (k * 3)).off + 2, none⟩ = some (.bool true) ∧ w4.cell? ⟨(a.add (k * 3)).block, (a.add (k * 3)).off + 1, none⟩ = some (.string yv)) := Lib.hid fun v4 w4 o4 g4 => by
            have hbB : Below w.heap.size w3 w4 := (Below.refl _ _).grown g4 hsz3 fun g e => (Ho3.out.lt g e).1
            exact ⟨OwnBs.app o4 rfl, Hb3.out.trans hbB, (Hb3.out.trans hbB).size, ((Hr3.out.trans hbB).cell (p := ⟨(a.add (k * 3)).block, (a.add (k * 3)).off + 2, none⟩) (by show (a.add (k * 3)).block < _; rw [addr_block]; exact Nat.lt_of_lt_of_le hab HC.out)).trans c2, ((Hr3.out.trans hbB).cell (p := ⟨(a.add (k * 3)).block, (a.add (k * 3)).off + 1, none⟩) (by show (a.add (k * 3)).block < _; rw [addr_block]; exact Nat.lt_of_lt_of_le hab HC.out)).trans c1⟩
          have Hlen4 : Hid (((numForm n ++ bodyL (l.take k)) ++ textForm yk.data.toList).length ≤ 10805000) := Lib.hid (by rw [List.length_append]; have := Hlen.out; omega)
          clear c0 c1 c2
          go_wp2_with (first
            | (at_builtin; refine wpList_append_has rfl (.tmp 18) (.tmp 24) _ rfl 5 u8_elem Try.underlying63 rfl Ho3.out rfl X3.out (byteCells_one _) (by have := Hlen.out; simp only [maxLen]; omega) (by have := Hlen.out; omega) hsz3 ?_; intro v4 w4 o4 g4 _; obtain ⟨ho4, hb4, hsz4, hcg, hcv⟩ := Hpost4.out v4 w4 o4 g4; have Ho4 := Lib.hid ho4; have Hb4 := Lib.hid hb4; clear ho4 hb4; have hszL : w.heap.size ≤ (w4.alloc (Obj.cells #[.int .u8 1] 5)).heap.size := (by simp only [World.size_alloc]; omega))
            | (at_builtin; refine wpList_append_has rfl (.tmp 31) (.tmp 32) _ rfl 5 u8_elem Try.underlying63 rfl (own_below Ho4.out (below_box (Obj.cells #[.int .u8 1] 5))) rfl (Has.lit w4 #[.int .u8 1] 5) (fun u hu => by simp at hu; subst hu; rfl) (by have := Hlen4.out; simp only [maxLen]; omega) (by have := Hlen4.out; omega) hszL ?_; intro v5 w5 o5 g5 _; have hbA : Below w.heap.size w4 w5 := ((Below.refl _ w4).alloc hsz4 (Obj.cells #[.int .u8 1] 5)).trans ((Below.refl _ _).grown g5 hszL fun g e => (Ho4.out.lt g e).1); have hcv5 : w5.cell? ⟨(a.add (k * 3)).block, (a.add (k * 3)).off + 1, none⟩ = some (.string yv) := (hbA.cell (p := ⟨(a.add (k * 3)).block, (a.add (k * 3)).off + 1, none⟩) (by show (a.add (k * 3)).block < _; rw [addr_block]; exact Nat.lt_of_lt_of_le hab HC.out)).trans hcv))
          have Ho5 : Hid (OwnBs w5 w.heap.size v5 ((numForm n ++ bodyL (l.take k)) ++ textForm yk.data.toList ++ [1])) := Lib.hid (OwnBs.app (b := [1]) (m := 1) o5 rfl)
          have Hb5 := Lib.hid (Hb4.out.trans hbA)
          have hsz5 : w.heap.size ≤ w5.heap.size := Hb5.out.size
          clear o5 g5 hbA
          refine (refPutText_any yv w5 (by omega)).mono ?_
          rintro e w6 ⟨v6, rfl, o6, b6⟩
          obtain ⟨A6, m6, rfl, -, -, x6⟩ := own_slice o6
          have X6 := Lib.hid x6
          have Ho6 := Lib.hid (own_below Ho5.out b6)
          have Hb6 := Lib.hid (Hb5.out.trans (b6.mono hsz5))
          have hsz6 : w.heap.size ≤ w6.heap.size := Nat.le_trans hsz5 b6.size
          have Hlen6 : Hid (((numForm n ++ bodyL (l.take k)) ++ textForm yk.data.toList ++ [1]).length ≤ 10810000) := Lib.hid (by rw [List.length_append]; have := Hlen4.out; simp only [List.length_cons, List.length_nil]; omega)
          clear o6 x6 b6
          go_wp2_with (at_builtin; refine wpList_append_has rfl (.tmp 37) (.tmp 43) _ rfl 5 u8_elem Try.underlying63 rfl Ho6.out rfl X6.out (byteCells_one _) (by have := Hlen6.out; simp only [maxLen]; omega) (by have := Hlen6.out; omega) hsz6 ?_; intro v7 w7 o7 g7 _)
          have Ho7 : Hid (OwnBs w7 w.heap.size v7 (numForm n ++ bodyL (l.take (k + 1)))) := Lib.hid (by
            have h1 := OwnBs.app (a := (numForm n ++ bodyL (l.take k)) ++ textForm yk.data.toList ++ [1]) (b := textForm yv.data.toList) o7 rfl
            rw [Hbs.out]
            simpa [List.append_assoc] using h1)
          have Hb7 := Lib.hid (Hb6.out.trans ((Below.refl _ _).grown g7 hsz6 fun g e => (Ho6.out.lt g e).1))
          clear o7 g7
          go_wp2
          go_roundw
          case rel => exact ⟨k + 1, by omega, by go_num, Ho7.out, Hb7.out⟩
          case measure => simp [intOf]; omega
      · obtain rfl : k = n := by omega
        have E : Hid (l.take k = l) := Lib.hid (List.take_of_length_le (by have := Hl.out; omega))
        have HE : Hid (numForm k ++ bodyL (l.take k) = packL l) := Lib.hid (by rw [E.out]; unfold packL; rw [Hl.out])
        rw [HE.out] at Ho
        go_wp2
        go_ret2
        exact ⟨Hb.out, .inl ⟨Hr.out, _, rfl, Ho.out⟩⟩
  · have Hr := Lib.hid hr
    rw [runB_false hr] at Hw
    clear hr
    go_enter Try.func64, Try.ntmps64
    go_wp2_with fail
    refine Hw.out.mono ?_
    rintro e w1 ⟨rfl, hb1⟩
    have Hb1 := Lib.hid hb1
    clear hb1
    go_wp2
    go_ret2
    exact ⟨Hb1.out, .inr ⟨Hr.out, rfl⟩⟩
end Go.Proofs.Ytlacpnokcabeoaa

namespace Go.Proofs.Ytlacpnokcabeoaa
open Go.RowKit
open Go.Lib (strCells compareBytes)

theorem box5 {w wz : World} {a b c d e : Value} {t : TypeId} (hb : Below (w.heap.size + 1) (w.alloc (.cells #[a, b, c, d, e] t)) wz) :
    wz.cell? ⟨w.heap.size, 0, none⟩ = some a ∧ wz.cell? ⟨w.heap.size, 1, none⟩ = some b ∧ wz.cell? ⟨w.heap.size, 2, none⟩ = some c ∧ wz.cell? ⟨w.heap.size, 3, none⟩ = some d ∧ wz.cell? ⟨w.heap.size, 4, none⟩ = some e := by
  have hx := (Box.made w t #[a, b, c, d, e]).below hb (by simp)
  exact ⟨hx.cell 0, hx.cell 1, hx.cell 2, hx.cell 3, hx.cell 4⟩
set_option maxRecDepth 100000 in
set_option maxHeartbeats 6400000 in
theorem refUnpack_any (A : Option Addr) (n c C : Nat) (b : List UInt8) (w : World) (h : HasBytes w C A n b) (hC : C ≤ w.heap.size) (hn : n ≤ 1000000) (hnc : n ≤ c) :
    Calls Try.prog 40 #[.slice A n c] w (UnpackPost (unpackT b) w) := by
  obtain ⟨⟨x, u, ne⟩, hnn⟩ : ∃ r, getNum b 0 = r := ⟨_, rfl⟩
  have Hn := Lib.hid (refNum_any A n c C 0 b w h hC (by omega))
  rw [hnn] at Hn
  simp only [got] at Hn
  have HN := Lib.hid hnn
  have H := Lib.hid h
  have HC := Lib.hid hC
  have Hl := Lib.hid h.len
  have Hnum := Lib.hid (fun (p : Nat) wx (hx : Below w.heap.size w wx) => refNum_any A n c C (p : Int) b wx (Has.belowOf h hx hC) (Nat.le_trans hC hx.size) (by omega))
  have Htxt := Lib.hid (fun (p : Nat) wx (hx : Below w.heap.size w wx) => refText_any A n c C (p : Int) 9223372036854775807 b wx (Has.belowOf h hx hC) (Nat.le_trans hC hx.size) (by omega) hnc)
  have hbd : ne = 0 → x < 9223372036854775808 ∧ u ≤ n := fun e => by
    have := getNum_bound (l := b) (p := 0) (by rw [hnn]; exact e)
    rw [hnn, h.len] at this
    exact ⟨this.2.1, this.2.2.2⟩
  clear h hC hnn
  by_cases h1 : ne = 0
  · subst h1
    obtain ⟨hx, hu⟩ := hbd rfl
    have Hub := Lib.hid hu
    clear hbd hu
    go_enter Try.func40, Try.ntmps40
    go_wp2_with fail
    refine Hn.out.mono ?_
    rintro e w1 ⟨rfl, hb1⟩
    have Hb1 := Lib.hid hb1
    clear hb1
    go_wp2
    go_loopw [5, 6, 7, 8, 9, 10] (fun av o iv _ _ _ wr => ∃ (i q : Nat) (acc : List Chg), iv = .int .i64 (i : Int) ∧ av = .int .i64 (q : Int) ∧ Hid (i ≤ x) ∧ OwnChs wr (w1.heap.size + 1) o acc ∧ Hid (readC b i u = (0, acc, q)) ∧ Below (w1.heap.size + 1) (w1.alloc (Obj.cells #[.int .i64 (x : Int), .string ⟨#[]⟩, .slice none 0 0, .int .i64 (u : Int), .int .i64 (0 : Int)] 99)) wr) (fun _ _ iv _ _ _ _ => x - (intOf iv).toNat)
    case atStart => exact ⟨0, u, [], rfl, rfl, Lib.hid (by omega), OwnChs.nil _ _, Lib.hid rfl, Below.refl _ _⟩
    case round =>
      obtain ⟨i, q, acc, rfl, rfl, Hi, ho, Hrd, hb⟩ := hrel
      have Ho := Lib.hid ho
      have Hb := Lib.hid hb
      have hsz : w1.heap.size + 1 ≤ wr.heap.size := by have := hb.size; simpa using this
      obtain ⟨z0, -, -, -, -⟩ := box5 hb
      have hok := readC_ok (b := b) (m := i) (p := u) (by rw [Hrd.out]) (by rw [Hl.out]; exact Hub.out)
      rw [Hrd.out, Hl.out] at hok
      obtain ⟨k1, k2, k3, k4, -⟩ := hok
      simp only at k1 k2 k3 k4
      have Hwr := Lib.hid (Hb1.out.trans ((below_in hb (Nat.le_refl _)).mono Hb1.out.size))
      have hwsz : w.heap.size ≤ w1.heap.size := Hb1.out.size
      clear ho hb k1
      by_cases hlt : i < x
      · obtain ⟨⟨ts, tq, te⟩, ht⟩ : ∃ r, getText b q 9223372036854775807 = r := ⟨_, rfl⟩
        have Ht := Lib.hid (Htxt.out q wr Hwr.out)
        rw [ht] at Ht
        simp only [got] at Ht
        have HT := Lib.hid ht
        have hi63 : i < 4000000 := by omega
        clear ht
        by_cases h1 : te = 0
        · subst h1
          go_wp2_with fail
          refine Ht.out.mono ?_
          rintro e w2 ⟨rfl, hb2⟩
          have Hw2 := Lib.hid (Hwr.out.trans (hb2.mono Hwr.out.size))
          have hsz2 : wr.heap.size ≤ w2.heap.size := hb2.size
          have Hr2 := Lib.hid hb2
          have Hw3 := Lib.hid (Hw2.out.alloc Hw2.out.size (Obj.cells #[.int .i64 (0 : Int), .string ⟨ts.toArray⟩, .slice none 0 0, .int .i64 (tq : Int), .int .i64 (0 : Int)] 99))
          clear hb2
          obtain ⟨⟨nx, nu, ge⟩, hg⟩ : ∃ r, getNum b tq = r := ⟨_, rfl⟩
          have Hg := Lib.hid (Hnum.out tq _ Hw3.out)
          rw [hg] at Hg
          simp only [got] at Hg
          have HG := Lib.hid hg
          clear hg
          by_cases h2 : ge = 0
          · subst h2
            go_wp2_with fail
            refine Hg.out.mono ?_
            rintro e w4 ⟨rfl, hb4⟩
            have hb4' : Below (w2.heap.size + 1) (w2.alloc (Obj.cells #[.int .i64 (0 : Int), .string ⟨ts.toArray⟩, .slice none 0 0, .int .i64 (tq : Int), .int .i64 (0 : Int)] 99)) w4 := by simpa using hb4
            have Hk4 := Lib.hid hb4'
            have Hw4 := Lib.hid (Hw3.out.trans (hb4.mono Hw3.out.size))
            have hsz4 : w2.heap.size + 1 ≤ w4.heap.size := by have := hb4'.size; simpa using this
            have Hw5 := Lib.hid (Hw4.out.alloc Hw4.out.size (Obj.cells #[.int .i64 (nx : Int), .string ⟨#[]⟩, .slice none 0 0, .int .i64 (nu : Int), .int .i64 (0 : Int)] 99))
            clear hb4
            by_cases h3 : 1 < nx
            · have E := Lib.hid (unpackT_e2 HN.out (readC_err Hrd.out hlt (by rw [getChg_e3 HT.out HG.out h3]; simp)) (by rw [getChg_e3 HT.out HG.out h3]; simp))
              rw [getChg_e3 HT.out HG.out h3] at E
              clear hb4'
              go_wp2
              go_ret2
              exact ⟨_, by rw [E.out]; rfl, by rw [E.out]; exact OwnChs.nil _ _, Hw5.out⟩
            · obtain ⟨⟨vs, vq, ve⟩, hv⟩ : ∃ r, getText b nu 9223372036854775807 = r := ⟨_, rfl⟩
              have Hv := Lib.hid (Htxt.out nu _ Hw5.out)
              rw [hv] at Hv
              simp only [got] at Hv
              have HV := Lib.hid hv
              clear hv hb4'
              by_cases h4 : ve = 0
              · subst h4
                have Hc5 := Lib.hid (getChg_e5 HT.out HG.out h3 HV.out)
                have Hrd1 := Lib.hid (readC_step Hrd.out (by rw [Hc5.out]))
                rw [Hc5.out] at Hrd1
                have hx01 : nx = 0 ∨ nx = 1 := by omega
                clear h3
                rcases hx01 with rfl | rfl
                · go_wp2_with fail
                  refine Hv.out.mono ?_
                  rintro e w6 ⟨rfl, hb6⟩
                  have hb6' : Below (w4.heap.size + 1) (w4.alloc (Obj.cells #[.int .i64 (0 : Int), .string ⟨#[]⟩, .slice none 0 0, .int .i64 (nu : Int), .int .i64 (0 : Int)] 99)) w6 := by simpa using hb6
                  have Hw6 := Lib.hid (Hw5.out.trans (hb6.mono Hw5.out.size))
                  have hsz6 : w4.heap.size + 1 ≤ w6.heap.size := by have := hb6'.size; simpa using this
                  have hk7 : Below (w2.heap.size + 1) (w2.alloc (Obj.cells #[.int .i64 (0 : Int), .string ⟨ts.toArray⟩, .slice none 0 0, .int .i64 (tq : Int), .int .i64 (0 : Int)] 99)) (w6.alloc (Obj.cells #[.int .i64 (0 : Int), .string ⟨vs.toArray⟩, .slice none 0 0, .int .i64 (vq : Int), .int .i64 (0 : Int)] 99)) := (Hk4.out.trans ((((Below.refl _ w4).alloc (Nat.le_refl _) _).trans (hb6'.mono (by omega))).mono hsz4)).alloc (by omega) _
                  have hg7 : Below (w4.heap.size + 1) (w4.alloc (Obj.cells #[.int .i64 (0 : Int), .string ⟨#[]⟩, .slice none 0 0, .int .i64 (nu : Int), .int .i64 (0 : Int)] 99)) (w6.alloc (Obj.cells #[.int .i64 (0 : Int), .string ⟨vs.toArray⟩, .slice none 0 0, .int .i64 (vq : Int), .int .i64 (0 : Int)] 99)) := hb6'.alloc (by omega) _
                  obtain ⟨-, t1, -, -, -⟩ := box5 hk7
                  obtain ⟨g0, -, -, -, -⟩ := box5 hg7
                  have hr7 : Below wr.heap.size wr (w6.alloc (Obj.cells #[.int .i64 (0 : Int), .string ⟨vs.toArray⟩, .slice none 0 0, .int .i64 (vq : Int), .int .i64 (0 : Int)] 99)) := (Hr2.out.trans ((((Below.refl _ w2).alloc (Nat.le_refl _) (Obj.cells #[.int .i64 (0 : Int), .string ⟨ts.toArray⟩, .slice none 0 0, .int .i64 (tq : Int), .int .i64 (0 : Int)] 99)).trans (hk7.mono (by omega))).mono hsz2))
                  have Ho7 := Lib.hid (Ho.out.below hr7)
                  have Hb7 : Hid (Below (w1.heap.size + 1) (w1.alloc (Obj.cells #[.int .i64 (x : Int), .string ⟨#[]⟩, .slice none 0 0, .int .i64 (u : Int), .int .i64 (0 : Int)] 99)) (w6.alloc (Obj.cells #[.int .i64 (0 : Int), .string ⟨vs.toArray⟩, .slice none 0 0, .int .i64 (vq : Int), .int .i64 (0 : Int)] 99))) := Lib.hid (Hb.out.trans (hr7.mono hsz))
                  have hsz7 : w1.heap.size + 1 ≤ (w6.alloc (Obj.cells #[.int .i64 (0 : Int), .string ⟨vs.toArray⟩, .slice none 0 0, .int .i64 (vq : Int), .int .i64 (0 : Int)] 99)).heap.size := Nat.le_trans hsz hr7.size
                  have Hvb : Hid (Box (w6.alloc (Obj.cells #[.int .i64 (0 : Int), .string ⟨vs.toArray⟩, .slice none 0 0, .int .i64 (vq : Int), .int .i64 (0 : Int)] 99)) w6.heap.size 99 #[.int .i64 (0 : Int), .string ⟨vs.toArray⟩, .slice none 0 0, .int .i64 (vq : Int), .int .i64 (0 : Int)]) := Lib.hid (Box.made _ _ _)
                  have hszA : w1.heap.size + 1 ≤ ((w6.alloc (Obj.cells #[.int .i64 (0 : Int), .string ⟨vs.toArray⟩, .slice none 0 0, .int .i64 (vq : Int), .int .i64 (0 : Int)] 99)).alloc (Obj.cells #[.string ⟨ts.toArray⟩, .string ⟨vs.toArray⟩, .bool false] 38)).heap.size := by simp only [World.size_alloc] at hsz7 ⊢; omega
                  clear hb6 hb6' hk7 hg7 hr7
                  have Hlit : Hid (Has ((w6.alloc (Obj.cells #[.int .i64 (0 : Int), .string ⟨vs.toArray⟩, .slice none 0 0, .int .i64 (vq : Int), .int .i64 (0 : Int)] 99)).alloc (Obj.cells #[.string ⟨ts.toArray⟩, .string ⟨vs.toArray⟩, .bool false] 38)) (w6.heap.size + 1 + 1) (some ⟨w6.heap.size + 1, 0, none⟩) (1 * 3) (chgCells [⟨⟨ts.toArray⟩, ⟨vs.toArray⟩, false⟩])) := Lib.hid (by have h := chg_lit (w6.alloc (Obj.cells #[.int .i64 (0 : Int), .string ⟨vs.toArray⟩, .slice none 0 0, .int .i64 (vq : Int), .int .i64 (0 : Int)] 99)) ⟨⟨ts.toArray⟩, ⟨vs.toArray⟩, false⟩; simp only [World.size_alloc] at h; exact h)
                  go_wp2_with (at_builtin; refine wpList_append_hasN rfl (.tmp 55) (.tmp 64) _ rfl 38 chg_elem (by omega) Try.underlying22 rfl (own_drawn Ho7.out 0 _) rfl Hlit.out (chgCells_one _) (by simp only [maxLen]; omega) (by omega) hszA ?_; intro v8 w8 hown8 hg8 _; have hvn := ((Hvb.out.alloc (Obj.cells #[.string ⟨ts.toArray⟩, .string ⟨vs.toArray⟩, .bool false] 38)).grown hg8 (fun e => (by obtain ⟨cur, hc⟩ := own_typeP Ho7.out e.symm; have hbv := Hvb.out; unfold Box at hbv; rw [hbv] at hc; injection hc with hc; injection hc with _ hc _; exact absurd hc (by decide)))).cell 3)
                  have Hb8 := Lib.hid (below_app (k := 0) Hb7.out Ho7.out hg8 hsz7)
                  have Hown8 : Hid (OwnChs w8 (w1.heap.size + 1) v8 (acc ++ [⟨⟨ts.toArray⟩, ⟨vs.toArray⟩, false⟩])) := Lib.hid (by unfold OwnChs; rw [List.length_append, chgCells_app]; exact hown8)
                  clear hg8 hown8
                  go_wp2
                  go_roundw
                  case rel => exact ⟨i + 1, vq, _, by go_num, rfl, Lib.hid (by omega), Hown8.out, Hrd1, Hb8.out⟩
                  case measure => simp [intOf]; omega
                · go_wp2_with fail
                  refine Hv.out.mono ?_
                  rintro e w6 ⟨rfl, hb6⟩
                  have hb6' : Below (w4.heap.size + 1) (w4.alloc (Obj.cells #[.int .i64 (1 : Int), .string ⟨#[]⟩, .slice none 0 0, .int .i64 (nu : Int), .int .i64 (0 : Int)] 99)) w6 := by simpa using hb6
                  have Hw6 := Lib.hid (Hw5.out.trans (hb6.mono Hw5.out.size))
                  have hsz6 : w4.heap.size + 1 ≤ w6.heap.size := by have := hb6'.size; simpa using this
                  have hk7 : Below (w2.heap.size + 1) (w2.alloc (Obj.cells #[.int .i64 (0 : Int), .string ⟨ts.toArray⟩, .slice none 0 0, .int .i64 (tq : Int), .int .i64 (0 : Int)] 99)) (w6.alloc (Obj.cells #[.int .i64 (0 : Int), .string ⟨vs.toArray⟩, .slice none 0 0, .int .i64 (vq : Int), .int .i64 (0 : Int)] 99)) := (Hk4.out.trans ((((Below.refl _ w4).alloc (Nat.le_refl _) _).trans (hb6'.mono (by omega))).mono hsz4)).alloc (by omega) _
                  have hg7 : Below (w4.heap.size + 1) (w4.alloc (Obj.cells #[.int .i64 (1 : Int), .string ⟨#[]⟩, .slice none 0 0, .int .i64 (nu : Int), .int .i64 (0 : Int)] 99)) (w6.alloc (Obj.cells #[.int .i64 (0 : Int), .string ⟨vs.toArray⟩, .slice none 0 0, .int .i64 (vq : Int), .int .i64 (0 : Int)] 99)) := hb6'.alloc (by omega) _
                  obtain ⟨-, t1, -, -, -⟩ := box5 hk7
                  obtain ⟨g0, -, -, -, -⟩ := box5 hg7
                  have hr7 : Below wr.heap.size wr (w6.alloc (Obj.cells #[.int .i64 (0 : Int), .string ⟨vs.toArray⟩, .slice none 0 0, .int .i64 (vq : Int), .int .i64 (0 : Int)] 99)) := (Hr2.out.trans ((((Below.refl _ w2).alloc (Nat.le_refl _) (Obj.cells #[.int .i64 (0 : Int), .string ⟨ts.toArray⟩, .slice none 0 0, .int .i64 (tq : Int), .int .i64 (0 : Int)] 99)).trans (hk7.mono (by omega))).mono hsz2))
                  have Ho7 := Lib.hid (Ho.out.below hr7)
                  have Hb7 : Hid (Below (w1.heap.size + 1) (w1.alloc (Obj.cells #[.int .i64 (x : Int), .string ⟨#[]⟩, .slice none 0 0, .int .i64 (u : Int), .int .i64 (0 : Int)] 99)) (w6.alloc (Obj.cells #[.int .i64 (0 : Int), .string ⟨vs.toArray⟩, .slice none 0 0, .int .i64 (vq : Int), .int .i64 (0 : Int)] 99))) := Lib.hid (Hb.out.trans (hr7.mono hsz))
                  have hsz7 : w1.heap.size + 1 ≤ (w6.alloc (Obj.cells #[.int .i64 (0 : Int), .string ⟨vs.toArray⟩, .slice none 0 0, .int .i64 (vq : Int), .int .i64 (0 : Int)] 99)).heap.size := Nat.le_trans hsz hr7.size
                  have Hvb : Hid (Box (w6.alloc (Obj.cells #[.int .i64 (0 : Int), .string ⟨vs.toArray⟩, .slice none 0 0, .int .i64 (vq : Int), .int .i64 (0 : Int)] 99)) w6.heap.size 99 #[.int .i64 (0 : Int), .string ⟨vs.toArray⟩, .slice none 0 0, .int .i64 (vq : Int), .int .i64 (0 : Int)]) := Lib.hid (Box.made _ _ _)
                  have hszA : w1.heap.size + 1 ≤ ((w6.alloc (Obj.cells #[.int .i64 (0 : Int), .string ⟨vs.toArray⟩, .slice none 0 0, .int .i64 (vq : Int), .int .i64 (0 : Int)] 99)).alloc (Obj.cells #[.string ⟨ts.toArray⟩, .string ⟨vs.toArray⟩, .bool true] 38)).heap.size := by simp only [World.size_alloc] at hsz7 ⊢; omega
                  clear hb6 hb6' hk7 hg7 hr7
                  have Hlit : Hid (Has ((w6.alloc (Obj.cells #[.int .i64 (0 : Int), .string ⟨vs.toArray⟩, .slice none 0 0, .int .i64 (vq : Int), .int .i64 (0 : Int)] 99)).alloc (Obj.cells #[.string ⟨ts.toArray⟩, .string ⟨vs.toArray⟩, .bool true] 38)) (w6.heap.size + 1 + 1) (some ⟨w6.heap.size + 1, 0, none⟩) (1 * 3) (chgCells [⟨⟨ts.toArray⟩, ⟨vs.toArray⟩, true⟩])) := Lib.hid (by have h := chg_lit (w6.alloc (Obj.cells #[.int .i64 (0 : Int), .string ⟨vs.toArray⟩, .slice none 0 0, .int .i64 (vq : Int), .int .i64 (0 : Int)] 99)) ⟨⟨ts.toArray⟩, ⟨vs.toArray⟩, true⟩; simp only [World.size_alloc] at h; exact h)
                  go_wp2_with (at_builtin; refine wpList_append_hasN rfl (.tmp 55) (.tmp 64) _ rfl 38 chg_elem (by omega) Try.underlying22 rfl (own_drawn Ho7.out 0 _) rfl Hlit.out (chgCells_one _) (by simp only [maxLen]; omega) (by omega) hszA ?_; intro v8 w8 hown8 hg8 _; have hvn := ((Hvb.out.alloc (Obj.cells #[.string ⟨ts.toArray⟩, .string ⟨vs.toArray⟩, .bool true] 38)).grown hg8 (fun e => (by obtain ⟨cur, hc⟩ := own_typeP Ho7.out e.symm; have hbv := Hvb.out; unfold Box at hbv; rw [hbv] at hc; injection hc with hc; injection hc with _ hc _; exact absurd hc (by decide)))).cell 3)
                  have Hb8 := Lib.hid (below_app (k := 0) Hb7.out Ho7.out hg8 hsz7)
                  have Hown8 : Hid (OwnChs w8 (w1.heap.size + 1) v8 (acc ++ [⟨⟨ts.toArray⟩, ⟨vs.toArray⟩, true⟩])) := Lib.hid (by unfold OwnChs; rw [List.length_append, chgCells_app]; exact hown8)
                  clear hg8 hown8
                  go_wp2
                  go_roundw
                  case rel => exact ⟨i + 1, vq, _, by go_num, rfl, Lib.hid (by omega), Hown8.out, Hrd1, Hb8.out⟩
                  case measure => simp [intOf]; omega
              · have heb : ((ve : Int) != 0) = true := by simpa using h4
                have E := Lib.hid (unpackT_e2 HN.out (readC_err Hrd.out hlt (by rw [getChg_e4 HT.out HG.out h3 HV.out h4]; exact h4)) (by rw [getChg_e4 HT.out HG.out h3 HV.out h4]; exact h4))
                rw [getChg_e4 HT.out HG.out h3 HV.out h4] at E
                clear h4
                go_wp2_with fail
                refine Hv.out.mono ?_
                rintro e w6 ⟨rfl, hb6⟩
                have Hw6 := Lib.hid (Hw5.out.trans (hb6.mono Hw5.out.size))
                have Hw7 := Lib.hid (Hw6.out.alloc Hw6.out.size (Obj.cells #[.int .i64 (0 : Int), .string ⟨vs.toArray⟩, .slice none 0 0, .int .i64 (vq : Int), .int .i64 (ve : Int)] 99))
                clear hb6
                go_wp2
                go_quiet (fail)
                go_wp2
                go_ret2
                exact ⟨_, by rw [E.out]; rfl, by rw [E.out]; exact OwnChs.nil _ _, below_dr Hw7.out _⟩
          · have heb : ((ge : Int) != 0) = true := by simpa using h2
            have E := Lib.hid (unpackT_e2 HN.out (readC_err Hrd.out hlt (by rw [getChg_e2 HT.out HG.out h2]; exact h2)) (by rw [getChg_e2 HT.out HG.out h2]; exact h2))
            rw [getChg_e2 HT.out HG.out h2] at E
            clear h2
            go_wp2_with fail
            refine Hg.out.mono ?_
            rintro e w4 ⟨rfl, hb4⟩
            have Hw4 := Lib.hid (Hw3.out.trans (hb4.mono Hw3.out.size))
            have Hw5 := Lib.hid (Hw4.out.alloc Hw4.out.size (Obj.cells #[.int .i64 (nx : Int), .string ⟨#[]⟩, .slice none 0 0, .int .i64 (nu : Int), .int .i64 (ge : Int)] 99))
            clear hb4
            go_wp2
            go_quiet (fail)
            go_wp2
            go_ret2
            exact ⟨_, by rw [E.out]; rfl, by rw [E.out]; exact OwnChs.nil _ _, below_dr Hw5.out _⟩
        · have heb : ((te : Int) != 0) = true := by simpa using h1
          have E := Lib.hid (unpackT_e2 HN.out (readC_err Hrd.out hlt (by rw [getChg_e1 HT.out h1]; exact h1)) (by rw [getChg_e1 HT.out h1]; exact h1))
          rw [getChg_e1 HT.out h1] at E
          clear h1
          go_wp2_with fail
          refine Ht.out.mono ?_
          rintro e w2 ⟨rfl, hb2⟩
          have Hw2 := Lib.hid (Hwr.out.trans (hb2.mono Hwr.out.size))
          have Hw3 := Lib.hid (Hw2.out.alloc Hw2.out.size (Obj.cells #[.int .i64 (0 : Int), .string ⟨ts.toArray⟩, .slice none 0 0, .int .i64 (tq : Int), .int .i64 (te : Int)] 99))
          clear hb2
          go_wp2
          go_quiet (fail)
          go_wp2
          go_ret2
          exact ⟨_, by rw [E.out]; rfl, by rw [E.out]; exact OwnChs.nil _ _, below_dr Hw3.out _⟩
      · obtain rfl : i = x := by have := Hi.out; omega
        by_cases hq : q = n
        · obtain ⟨Ao, co, rfl, -, -, hv⟩ := Ho.out.slice
          have Hw := Lib.hid (refRight_any Ao acc.length co wr.heap.size acc wr hv (by unfold maxLen; omega) (Nat.le_refl _))
          rw [k3] at Hw
          subst hq
          clear hv
          by_cases hrun : Run acc
          · have E := Lib.hid (unpackT_ok HN.out Hrd.out ⟨Hl.out.symm, hrun⟩)
            rw [runB_true hrun] at Hw
            clear hrun
            go_wp2_with fail
            refine Hw.out.mono ?_
            rintro e w2 ⟨rfl, hb2⟩
            have Hb2 := Lib.hid (Hwr.out.trans (hb2.mono Hwr.out.size))
            have Ho2 := Lib.hid (Ho.out.below hb2)
            rw [k3] at Ho2
            clear hb2
            go_wp2
            go_ret2
            exact ⟨_, by rw [E.out]; rfl, by rw [E.out]; exact own_baseN Ho2.out (by omega), Hb2.out⟩
          · have E := Lib.hid (unpackT_e3 HN.out Hrd.out (fun e => hrun e.2))
            rw [runB_false hrun] at Hw
            clear hrun
            go_wp2_with fail
            refine Hw.out.mono ?_
            rintro e w2 ⟨rfl, hb2⟩
            have Hb2 := Lib.hid (Hwr.out.trans (hb2.mono Hwr.out.size))
            clear hb2
            go_wp2
            go_ret2
            exact ⟨_, by rw [E.out]; rfl, by rw [E.out]; exact OwnChs.nil _ _, Hb2.out⟩
        · have hqb : ((q : Int) != (n : Int)) = true := by simp; omega
          have E := Lib.hid (unpackT_e3 HN.out Hrd.out (fun e => by have h1 := Hl.out; have h2 := e.1; omega))
          clear hq
          go_wp2
          go_ret2
          exact ⟨_, by rw [E.out]; rfl, by rw [E.out]; exact OwnChs.nil _ _, Hwr.out⟩
  · have h1b : ((ne : Int) != 0) = true := by simpa using h1
    have E := Lib.hid (unpackT_e1 HN.out h1)
    clear h1 hbd
    go_enter Try.func40, Try.ntmps40
    go_wp2_with fail
    refine Hn.out.mono ?_
    rintro e w1 ⟨rfl, hb1⟩
    have Hb1 := Lib.hid (hb1.alloc hb1.size (Obj.cells #[.int .i64 (x : Int), .string ⟨#[]⟩, .slice none 0 0, .int .i64 (u : Int), .int .i64 (ne : Int)] 99))
    clear hb1
    go_wp2
    go_quiet (fail)
    go_wp2
    go_ret2
    exact ⟨_, by rw [E.out]; rfl, by rw [E.out]; exact OwnChs.nil _ _, below_dr Hb1.out _⟩
end Go.Proofs.Ytlacpnokcabeoaa

namespace Go.Proofs.Ytlacpnokcabeoaa
open Go.RowKit
open Go.Lib (strCells compareBytes)

theorem keep10 {wr wx w' : World} (h : Below wr.heap.size wr wx) (hb : Below wx.heap.size wx w') : Below wr.heap.size wr w' := h.trans (hb.mono h.size)
theorem slice_all10 (M : List Chg) : sliceL [] [] M = M := List.filter_eq_self.2 fun c _ => by simp [inR]
theorem live_all {M : List Chg} (h : ∀ c ∈ M, c.g = false) : livesL M = M.map prOf := by
  unfold livesL liveL
  rw [List.filter_eq_self.2 fun c hc => by simp [h c hc]]
set_option maxRecDepth 100000 in
set_option maxHeartbeats 6400000 in
theorem same_any {w : World} {e b H N c : Nat} {A : Option Addr} {lim pairs : Int} {tv rv : Value} {T : List Chg} {rs : Crs} {M : List Chg} (h : EngAt w e lim pairs tv rv T rs) (hp : EngP H lim pairs T (crLists rs)) (hH : H ≤ 9000) (hM : absL (T :: crLists rs) = M)
    (hbx : Box w b 44 #[.slice A N c]) (hr : HasChs w w.heap.size A N M) :
    Calls Try.prog 33 #[.pointer (some ⟨e, 0, none⟩), .pointer (some ⟨b, 0, none⟩)] w fun e' w' => e' = .returned (.bool true) ∧ Below w.heap.size w w' := by
  have hlt := hbx.lt
  have hPP : PairsP H M := hM ▸ PairsP.of hp
  have hlen : M.length ≤ 9000 := Nat.le_trans hPP.len hH
  have hpl : pairs = (N : Int) := by rw [hp.num, hM, hr.1]
  have hN9 : N ≤ 9000 := by rw [← hr.1]; exact hlen
  obtain ⟨P, hP⟩ : ∃ P, M.map prOf = P := ⟨_, rfl⟩
  have hPl : P.length ≤ 9000 := by rw [← hP, List.length_map]; exact hlen
  have HLen : Hid (∀ wx, Below w.heap.size w wx → _) := Lib.hid fun wx (hx : Below w.heap.size w wx) => len_eng (h.below hx)
  have HRan : Hid (∀ wx, Below w.heap.size w wx → Calls Try.prog 31 #[.pointer (some ⟨e, 0, none⟩), .agg #[.string ⟨#[]⟩, .string ⟨#[]⟩], .int .i64 1099511627776] wx (RangePost P wx)) := Lib.hid fun wx hx => by
    have h1 := engRange_any (h.below hx) hp hH ⟨#[]⟩ ⟨#[]⟩ 1099511627776
    rw [hM] at h1
    have e1 : ((sliceL (⟨#[]⟩ : ByteArray).data.toList (⟨#[]⟩ : ByteArray).data.toList M).map prOf).take (1099511627776 : Int).toNat = P := by
      have e2 : sliceL (⟨#[]⟩ : ByteArray).data.toList (⟨#[]⟩ : ByteArray).data.toList M = M := slice_all10 M
      rw [e2, hP]
      exact List.take_of_length_le (by omega)
    rw [e1] at h1
    exact h1
  have HLiv : Hid (∀ wx, Below w.heap.size w wx → Calls Try.prog 61 #[.slice A N c] wx (GivesP wx.heap.size P wx)) := Lib.hid fun wx hx => by
    have h1 := refLive_any A N c w.heap.size M wx (hr.belowOf hx (Nat.le_refl _)) hx.size hN9
    rw [livesT_run hPP.run, live_all hPP.live, hP] at h1
    exact h1
  have HK : Hid (∀ wx, Below w.heap.size w wx → wx.cell? ⟨b, 0, none⟩ = some (.slice A N c) ∧ Below w.heap.size w wx) := Lib.hid fun wx hx => ⟨(hbx.below hx hlt).cell 0, hx⟩
  rw [hpl] at HLen
  have d0 := (HK.out w (Below.refl _ _)).1
  clear h hp hM hbx hr hP hPP hlen hpl
  go_enter Try.func33, Try.ntmps33
  go_wp2
  go_region_held3 (fun wx => wx.cell? ⟨b, 0, none⟩ = some (.slice A N c) ∧ Below w.heap.size w wx)
    (first | exact HK.out _ (Below.refl _ _).drew | exact HK.out _ (keep10 (And.right (by assumption)) b1) | exact HK.out _ (keep10 (And.right (by assumption)) b2) | exact HK.out _ (keep10 (And.right (by assumption)) b3) | exact HK.out _ (keep10 (And.right (by assumption)) b4))
    (first
      | (go_at_call 42; refine (HLen.out _ (And.right (by assumption))).mono ?_; rintro e1 w11 ⟨rfl, b1⟩)
      | (go_at_call 31; refine (HRan.out _ (And.right (by assumption))).mono ?_; rintro e1 w12 ⟨v2, rfl, o2, b2⟩; obtain ⟨A2, c2, rfl, -, -, x2⟩ := o2.slice)
      | (go_at_call 61; refine (HLiv.out _ (And.right (by assumption))).mono ?_; rintro e1 w13 ⟨v3, rfl, o3, b3⟩; obtain ⟨A3, c3, rfl, -, -, x3⟩ := o3.slice; have x2' : HasPrs w13 w12.heap.size A2 P.length P := ⟨x2.1, x2.2.belowOf b3 (Nat.le_refl _)⟩)
      | (go_at_call 30; refine (samePairs_any A2 A3 P.length c2 c3 _ _ P w13 x2' x3 (by unfold maxLen; omega)).mono ?_; rintro e1 w14 ⟨rfl, b4⟩))
  all_goals
    have HE : Hid (Below w.heap.size w w14) := Lib.hid (And.right (by assumption))
    go_wp2
    go_ret
    exact ⟨rfl, HE.out⟩
set_option maxRecDepth 100000 in
theorem refExport_any {w : World} {b N c : Nat} {A : Option Addr} {M : List Chg} (hbx : Box w b 44 #[.slice A N c]) (hr : HasChs w w.heap.size A N M) (hR : Run M) (hN : N ≤ 1200) (hs : ∀ x ∈ M, x.k.size ≤ 4000 ∧ x.v.size ≤ 4000) :
    Calls Try.prog 38 #[.pointer (some ⟨b, 0, none⟩)] w fun e' w' => ∃ v, e' = .returned v ∧ w'.ownsRow w.heap.size 5 1 v (packL M).length (byteCells (packL M)) ∧ Below w.heap.size w w' := by
  have Hp := Lib.hid (refPack_any A N c w.heap.size M w hr (Nat.le_refl _) hN hs)
  have HR := Lib.hid hR
  have d0 : w.cell? ⟨b, 0, none⟩ = some (.slice A N c) := hbx.cell 0
  clear hbx hr hR hs
  go_enter Try.func38, Try.ntmps38
  go_wp2_with fail
  refine Hp.out.mono ?_
  rintro e1 w1 ⟨hb, hc⟩
  obtain ⟨v, rfl, ho⟩ : ∃ v, e1 = .returned (.tuple #[v, .int .i64 0]) ∧ w1.ownsRow w.heap.size 5 1 v (packL M).length (byteCells (packL M)) := by
    rcases hc with ⟨-, h1⟩ | ⟨h1, -⟩
    · exact h1
    · exact absurd HR.out h1
  have HO := Lib.hid (And.intro ho hb)
  clear hc ho hb
  go_wp2
  go_ret
  exact ⟨v, rfl, HO.out.1, HO.out.2⟩

end Go.Proofs.Ytlacpnokcabeoaa

namespace Go.Proofs.Ytlacpnokcabeoaa
open Go.RowKit
open Go.Lib (strCells compareBytes)

theorem newC_small {H : Nat} {lim pairs : Int} {T : List Chg} {Ls : List (List Chg)} (h : EngP H lim pairs T Ls) (key : ByteArray) : (newC key (T :: Ls)).v.size ≤ 4000 := by
  unfold newC
  cases e : mlook key.data.toList (T :: Ls) with
  | none => exact Nat.zero_le _
  | some c =>
    obtain ⟨r, hr, h2⟩ := mlook_some e
    exact (h.small r hr c (look_mem h2)).2
set_option maxRecDepth 100000 in
set_option maxHeartbeats 1600000 in
theorem engGet_any {w : World} {e H : Nat} {lim pairs : Int} {tv rv : Value} {T : List Chg} {rs : Crs} (h : EngAt w e lim pairs tv rv T rs) (hp : EngP H lim pairs T (crLists rs)) (hH : H ≤ 9000) (key : ByteArray) :
    Calls Try.prog 28 #[.pointer (some ⟨e, 0, none⟩), .string key] w fun e' w' => e' = .returned (.tuple #[.string (newC key (T :: crLists rs)).v, .bool (!(newC key (T :: crLists rs)).g)]) ∧ Below w.heap.size w w' := by
  have Hn := Lib.hid (newest_any h hp hH key)
  have hs := newC_small hp key
  obtain ⟨x, hx⟩ : ∃ x, newC key (T :: crLists rs) = x := ⟨_, rfl⟩
  rw [hx] at Hn hs ⊢
  clear h hp hx
  obtain ⟨xk, xv, xg⟩ := x
  unfold cagg at Hn
  simp only at hs ⊢
  go_enter Try.func28, Try.ntmps28
  go_wp2_with fail
  refine Hn.out.mono ?_
  rintro e' w1 ⟨rfl, hb1⟩
  have Hb1 := Lib.hid hb1
  have HB : Hid (Box (w1.alloc (.cells #[.string xk, .string xv, .bool xg] 38)) w1.heap.size 38 #[.string xk, .string xv, .bool xg]) := Lib.hid (Box.made _ _ _)
  have hsz1 := hb1.size
  clear hb1 Hn
  go_wp2
  go_region_with (go_at_call 59; refine (clone_any _ _ (by omega)).mono ?_; rintro e' w2 ⟨rfl, hb2⟩; have hbx := HB.out.below ((Below.refl _ _).drew.trans hb2) HB.out.lt; have q1 : w2.cell? ⟨w1.heap.size, 1, none⟩ = some (.string xv) := hbx.cell 1; have q2 : w2.cell? ⟨w1.heap.size, 2, none⟩ = some (.bool xg) := hbx.cell 2)
  all_goals
    have HW : Hid (Below w.heap.size w w2) := Lib.hid (Hb1.out.trans (((below_box _).trans (((Below.refl _ _).drew.trans hb2).mono (by simp))).mono hsz1))
    clear hb2 hbx
    go_wp2
    go_ret2
    exact ⟨rfl, HW.out⟩
end Go.Proofs.Ytlacpnokcabeoaa

namespace Go.Proofs.Ytlacpnokcabeoaa
open Go.RowKit
open Go.Lib (strCells compareBytes)

/-- what Get answers -/
def GetPost (key : ByteArray) (M : List Chg) (w : World) (e : Ending) (w' : World) : Prop :=
  ((look key.data.toList M = none ∧ e = .returned (.tuple #[.string ⟨#[]⟩, .bool false])) ∨ ∃ c, look key.data.toList M = some c ∧ e = .returned (.tuple #[.string c.v, .bool true])) ∧ Below w.heap.size w w'
theorem look_at {l : List Chg} {k : Nat} {c : Chg} {key : List UInt8} (h : l[k]? = some c) (h0 : look key (l.take k) = none) : (c.kb = key → look key l = some c) ∧ (c.kb ≠ key → look key (l.take (k + 1)) = none) := by
  constructor
  · intro e
    have h1 : l = l.take k ++ c :: l.drop (k + 1) := by
      have hk := (List.getElem?_eq_some_iff.1 h)
      obtain ⟨hk1, hk2⟩ := hk
      rw [← hk2, List.getElem_cons_drop, List.take_append_drop]
    rw [h1, look_app, h0, look_cons, if_pos e]
    rfl
  · intro e
    rw [List.take_add_one, h, look_app, h0]
    show look key [c] = none
    rw [look_cons, if_neg e, look_nil]
set_option maxRecDepth 100000 in
set_option maxHeartbeats 3200000 in
theorem mapGet_any {w : World} {b N c : Nat} {A : Option Addr} {M : List Chg} (hbx : Box w b 44 #[.slice A N c]) (hr : HasChs w w.heap.size A N M) (hN : N ≤ 9000) (key : ByteArray) :
    Calls Try.prog 29 #[.pointer (some ⟨b, 0, none⟩), .string key] w (GetPost key M w) := by
  have d0 : w.cell? ⟨b, 0, none⟩ = some (.slice A N c) := hbx.cell 0
  have H := Lib.hid hr
  have Hl := Lib.hid hr.1
  have Hd : Hid (∀ q, (w.drewN q).cell? ⟨b, 0, none⟩ = some (.slice A N c)) := Lib.hid fun q => d0
  clear hbx hr
  go_enter Try.func29, Try.ntmps29
  go_wp2
  go_loopw [6] (fun iv wr => ∃ k : Nat, k ≤ N ∧ iv = .int .i64 (k : Int) ∧ Hid (look key.data.toList (M.take k) = none) ∧ ∃ q, wr = w.drewN q) (fun iv _ => N - (intOf iv).toNat)
  case atStart => exact ⟨0, by omega, rfl, Lib.hid rfl, 0, rfl⟩
  case round =>
    obtain ⟨k, hk, rfl, Hp, q, rfl⟩ := hrel
    have d1 := Hd.out q
    by_cases hlt : k < N
    · obtain ⟨a, y, rfl, hab, hy, c0, c1, c2⟩ := (H.out.keep (w' := w.drewN q) fun _ _ => rfl).at_ hlt
      have HA := Lib.hid (look_at hy Hp.out)
      have hk0 : (0 : Int) ≤ (k : Int) := by omega
      have hk1 : (k : Int) < (N : Int) := by omega
      obtain ⟨yk, yv, yg⟩ := y
      simp only at c0 c1 c2
      clear hy
      by_cases he : yk.data.toList = key.data.toList
      · have hb2 : (yk.toList == key.toList) = true := by rw [eq_toList]; exact decide_eq_true he
        have HF := Lib.hid (HA.out.1 he)
        clear he
        go_wp2
        go_ret2
        exact ⟨.inr ⟨_, HF.out, rfl⟩, below_dr (Below.refl _ _) _⟩
      · have hb2 : (yk.toList == key.toList) = false := by rw [eq_toList]; exact decide_eq_false he
        have HF := Lib.hid (HA.out.2 he)
        clear he
        go_wp2
        go_roundw
        case rel => exact ⟨k + 1, by omega, by go_num, HF, q, rfl⟩
        case measure => simp [intOf]; omega
    · obtain rfl : k = N := by omega
      have E : Hid (look key.data.toList M = none) := Lib.hid (by have h1 := Hp.out; rwa [List.take_of_length_le (by have := Hl.out; omega)] at h1)
      go_wp2
      go_ret2
      exact ⟨.inl ⟨E.out, rfl⟩, below_dr (Below.refl _ _) _⟩

end Go.Proofs.Ytlacpnokcabeoaa

namespace Go.Proofs.Ytlacpnokcabeoaa
open Go.RowKit
open Go.Lib (strCells compareBytes)

theorem prs_head {w : World} {B n : Nat} {A : Option Addr} {P : List Pr} (h : HasPrs w B A n P) (q : Nat) : HasPrs w B A (P.take q).length (P.take q) := by
  refine ⟨rfl, by rw [prCells_len], fun i u hu => h.2.2 i u ?_⟩
  have e : prCells P = prCells (P.take q) ++ prCells (P.drop q) := by rw [← prCells_app, List.take_append_drop]
  rw [e, List.getElem?_append_left (List.getElem?_eq_some_iff.1 hu).1]
  exact hu
/-- what the document's Range answers -/
def RanMPost (P : List Pr) (w : World) (e : Ending) (w' : World) : Prop := ∃ A c, e = .returned (.slice A P.length c) ∧ HasPrs w' w'.heap.size A P.length P ∧ Below w.heap.size w w'
set_option maxRecDepth 100000 in
set_option maxHeartbeats 6400000 in
theorem mapRange_any {w : World} {b N c : Nat} {A : Option Addr} {M : List Chg} (hbx : Box w b 44 #[.slice A N c]) (hr : HasChs w w.heap.size A N M) (hN : N ≤ 9000) (hR : Run M) (hg : ∀ x ∈ M, x.g = false) (lo hi : ByteArray) (k : Int) :
    Calls Try.prog 32 #[.pointer (some ⟨b, 0, none⟩), .agg #[.string lo, .string hi], .int .i64 k] w (RanMPost (((sliceL lo.data.toList hi.data.toList M).map prOf).take k.toNat) w) := by
  have hlt := hbx.lt
  have hb0 := below_box (w := w) (Obj.cells #[.string lo, .string hi] 35)
  obtain ⟨S, hS⟩ : ∃ S, sliceL lo.data.toList hi.data.toList M = S := ⟨_, rfl⟩
  have hSl : S.length ≤ 9000 := by rw [← hS]; exact Nat.le_trans (slice_len _ _ _) (by rw [hr.1]; exact hN)
  have hSr : Run S := hS ▸ run_slice hR
  have hSg : ∀ x ∈ S, x.g = false := fun x hx => hg x (by rw [← hS] at hx; exact (List.mem_filter.1 hx).1)
  obtain ⟨P, hP⟩ : ∃ P, S.map prOf = P := ⟨_, rfl⟩
  have hPl : P.length ≤ 9000 := by rw [← hP, List.length_map]; exact hSl
  have HSl : Hid (∀ wx, Below w.heap.size w wx → Calls Try.prog 62 #[.slice A N c, .agg #[.string lo, .string hi]] wx (GivesC wx.heap.size S wx)) := Lib.hid fun wx hx => by
    have h1 := refSlice_any A N c w.heap.size M lo hi wx (hr.belowOf hx (Nat.le_refl _)) hx.size hN
    rw [sliceT_run hR, hS] at h1
    exact h1
  have HLi : Hid (∀ A' c' wx, HasChs wx wx.heap.size A' S.length S → Calls Try.prog 61 #[.slice A' S.length c'] wx (GivesP wx.heap.size P wx)) := Lib.hid fun A' c' wx h => by
    have h1 := refLive_any A' S.length c' wx.heap.size S wx h (Nat.le_refl _) hSl
    rw [livesT_run hSr, live_all hSg, hP] at h1
    exact h1
  have HK : Hid (∀ wx, Below (w.alloc (.cells #[.string lo, .string hi] 35)).heap.size (w.alloc (.cells #[.string lo, .string hi] 35)) wx → (wx.cell? ⟨b, 0, none⟩ = some (.slice A N c) ∧ wx.cell? ⟨w.heap.size, 0, none⟩ = some (.string lo) ∧ wx.cell? ⟨w.heap.size, 1, none⟩ = some (.string hi)) ∧ Below (w.alloc (.cells #[.string lo, .string hi] 35)).heap.size (w.alloc (.cells #[.string lo, .string hi] 35)) wx) := Lib.hid fun wx hx => by
    have h1 := (Box.made w 35 #[.string lo, .string hi]).below hx (by simp)
    have h2 : Below w.heap.size w wx := hb0.trans (hx.mono (by simp))
    exact ⟨⟨(hbx.below h2 hlt).cell 0, h1.cell 0, h1.cell 1⟩, hx⟩
  have HBx : Hid (∀ wx, Below (w.alloc (.cells #[.string lo, .string hi] 35)).heap.size (w.alloc (.cells #[.string lo, .string hi] 35)) wx → Below w.heap.size w wx) := Lib.hid fun wx hx => hb0.trans (hx.mono (by simp))
  rw [hS, hP]
  clear hbx hr hb0 hS hSr hSg hP hR hg
  have d0 := (HK.out _ (Below.refl _ _)).1.1
  have d1 := (HK.out _ (Below.refl _ _)).1.2.1
  have d2 := (HK.out _ (Below.refl _ _)).1.2.2
  go_enter Try.func32, Try.ntmps32
  go_wp2
  go_region_held3 (fun wx => (wx.cell? ⟨b, 0, none⟩ = some (.slice A N c) ∧ wx.cell? ⟨w.heap.size, 0, none⟩ = some (.string lo) ∧ wx.cell? ⟨w.heap.size, 1, none⟩ = some (.string hi)) ∧ Below (w.alloc (.cells #[.string lo, .string hi] 35)).heap.size (w.alloc (.cells #[.string lo, .string hi] 35)) wx)
    (first | exact HK.out _ (Below.refl _ _).drew | exact HK.out _ (keep10 (And.right (by assumption)) b2) | exact HK.out _ (keep10 (And.right (by assumption)) b3))
    (first
      | (go_at_call 62; refine (HSl.out _ (HBx.out _ (And.right (by assumption)))).mono ?_; rintro e1 w2 ⟨v2, rfl, o2, b2⟩; obtain ⟨A2, c2, rfl, -, -, x2⟩ := o2.slice)
      | (go_at_call 61; refine (HLi.out A2 c2 w2 x2).mono ?_; rintro e1 w3 ⟨v3, rfl, o3, b3⟩; obtain ⟨A3, c3, rfl, hc3, hm3, x3⟩ := o3.slice))
  all_goals
    have HE : Hid (Below w.heap.size w w3) := Lib.hid (HBx.out _ (And.right (by assumption)))
    have HX := Lib.hid x3
    obtain ⟨NP, hNP⟩ : ∃ NP, P.length = NP := ⟨_, rfl⟩
    have HNP := Lib.hid hNP
    rw [hNP] at hc3 hPl ⊢
    unfold maxLen at hm3
    clear o2 o3 b2 b3 x2 x3 hNP
    by_cases hk1 : k < 1
    · have E0 : Hid (P.take k.toNat = []) := Lib.hid (by rw [show k.toNat = 0 by omega]; rfl)
      go_wp2
      go_ret
      rw [E0.out]
      exact ⟨none, 0, rfl, ⟨rfl, Has.nil _ _ _⟩, HE.out⟩
    · by_cases hk2 : k < (NP : Int)
      · obtain ⟨q, rfl⟩ : ∃ q : Nat, k = q := ⟨k.toNat, by omega⟩
        have E0 : Hid ((P.take q).length = q) := Lib.hid (by rw [List.length_take, HNP.out]; omega)
        go_wp2
        go_ret
        refine ⟨A3, c3, ?_, ?_, HE.out⟩
        · rw [E0.out]; rfl
        · exact prs_head HX.out q
      · have E0 : Hid (P.take k.toNat = P) := Lib.hid (List.take_of_length_le (by have := HNP.out; omega))
        go_wp2
        go_ret
        rw [E0.out]
        exact ⟨A3, c3, by rw [HNP.out]; rfl, HX.out, HE.out⟩

end Go.Proofs.Ytlacpnokcabeoaa

namespace Go.Proofs.Ytlacpnokcabeoaa
open Go.RowKit
open Go.Lib (strCells compareBytes)

theorem EngMap.compact {w W : World} {e b H : Nat} {lim : Int} {M N : List Chg} (h : EngMap w e b H lim M N W) (hH : H ≤ 9000) :
    Calls Try.prog 25 #[.pointer (some ⟨e, 0, none⟩)] W fun e' w' => e' = .returned (.tuple #[]) ∧ EngMap w e b H lim M N w' ∧
      (∃ pairs rv rs, EngAt w' e lim pairs (.slice none 0 0) rv [] rs ∧ EngP H lim pairs [] (crLists rs) ∧ sumL ([] :: crLists rs) = M.length ∧ rs.length = if M = [] then 0 else 1) := by
  obtain ⟨pairs, tv, rv, T, rs, mv, hE, hP, hM, hm, h1, h2, h3, h4, h5, h6, h7, hb⟩ := h
  refine (compact_any hE hP hH).mono ?_
  rintro e' w2 ⟨g1, v', rv', hE2, hF2, hN⟩
  rw [hM] at hE2 hN
  have hpp : PairsP H M := hM ▸ PairsP.of hP
  have hPm : EngP H lim (M.length : Int) [] (aloneL M) := hpp.eng hP.lim1
  rw [← aloneR_lists v' M] at hPm
  have hpl : pairs = (M.length : Int) := by rw [hP.num, hM]
  rw [hpl] at hE2
  have hbW := hm.box.lt
  refine ⟨g1, ⟨_, _, _, _, _, mv, hE2, hPm, by rw [aloneR_lists, abs_alone hpp.run hpp.live], hm.frm hF2 (fun hi => h3 hi.symm) (fun g hg hi => h7 (hi ▸ hg)), h1, h2, h3, fun g hg => (by cases hg), fun hg => ?_, fun r hr hg => ?_, h7, hb.trans (hF2.below (fun i hi => hi ▸ h1) hb.size)⟩, _, rv', _, hE2, hPm, ?_, ?_⟩
  · rcases hN.1 b hg with h8 | h8
    · exact h5 h8
    · omega
  · rcases hN.2 r hr b hg with ⟨r1, h8, h9⟩ | h8
    · exact h6 r1 h8 h9
    · omega
  · rw [aloneR_lists, sumL_cons, sumL_alone]
    simp
  · unfold aloneR
    split <;> simp_all
/-- an engine and the document's map answer the same of a key -/
theorem get_eq {Ls : List (List Chg)} (h : ∀ r ∈ Ls, Run r) (key : ByteArray) : (look key.data.toList (absL Ls) = none ∧ (newC key Ls).v = ⟨#[]⟩ ∧ (!(newC key Ls).g) = false) ∨ ∃ c, look key.data.toList (absL Ls) = some c ∧ (newC key Ls).v = c.v ∧ (!(newC key Ls).g) = true := by
  rcases newC_val h key with ⟨h1, h2, h3⟩ | ⟨h1, h2⟩
  · exact .inl ⟨h1, h3, by rw [h2]; rfl⟩
  · exact .inr ⟨_, h1, rfl, by rw [h2]; rfl⟩

end Go.Proofs.Ytlacpnokcabeoaa

namespace Go.Proofs.Ytlacpnokcabeoaa
open Go.ChangeShapes Go.WideShapes Go.ChangeAt Go.RowKit

section
variable {H : Type} {enc : TypeId × Value → H} {P : Program} {W : World}
theorem open_bls {t e : TypeId} {r : Reach} {base : Nat} {v : Value} {d : DataW H} {ps : List MemPlace} (ht : P.underlying t = some (.slice e)) (he : P.underlying e = some .bool) (hc : P.cellsOf e = 1)
    (hval : Value.okWide P W r base t v) (h : DataW.Trod enc P W 0 (fun _ => true) true t v d ps) (hlt : ∀ x ∈ ps, x.block < W.heap.size) :
    ∃ (A : Option Addr) (n c : Nat) (f : Nat → Bool), v = .slice A n c ∧ n ≤ maxLen ∧ n ≤ c ∧ Has W W.heap.size A n ((List.range n).map fun i => .bool (f i)) := by
  obtain ⟨A, n, c, rfl⟩ := okWide_slice ht hval
  obtain ⟨fuel, hf⟩ := h
  rcases Go.Deep.open_bools ht he hc hf with ⟨hcs, _⟩ | ⟨a, len, cap, B, hcs, hb, hl, hm, hy, hcell⟩
  · simp [Value.cells] at hcs
    obtain ⟨rfl, rfl, rfl⟩ := hcs
    exact ⟨none, 0, 0, fun _ => false, rfl, by simp [maxLen], Nat.le_refl _, Has.nil _ _ _⟩
  · simp [Value.cells] at hcs
    obtain ⟨rfl, rfl, rfl⟩ := hcs
    simp only [Prod.mk.injEq] at hy
    obtain ⟨rfl, rfl⟩ := hy
    refine ⟨some a, n, c, B, rfl, by omega, hl, ⟨by simp, fun j u hu => ⟨a, rfl, ?_, ?_⟩⟩⟩
    · have hj : j < n := by
        have := (List.getElem?_eq_some_iff.1 hu).1
        simpa using this
      obtain ⟨p, hp, hpb⟩ := row_block (a := a) (n := c) (by omega)
      rw [← hpb]
      exact hlt p hp
    · have hj : j < n := by
        have := (List.getElem?_eq_some_iff.1 hu).1
        simpa using this
      rw [hcell j (by omega), ← hu]
      simp [hj]
end

end Go.Proofs.Ytlacpnokcabeoaa

namespace Go.Proofs.Ytlacpnokcabeoaa
open Go.RowKit
open Go.Lib (strCells compareBytes)

set_option maxRecDepth 100000 in
set_option maxHeartbeats 12800000 in
theorem plays_walk (A D : Option Addr) (n ca nb cb : Nat) (limit kk : Int) (rs : Crs) (f : Nat → Bool) (key lo hi : ByteArray) (w : World) (h : HasCrs w w.heap.size A n rs) (hnc : n ≤ ca) (hm : ca ≤ maxLen) (hs : ∀ l ∈ crLists rs, ∀ u ∈ l, u.k.size ≤ maxLen ∧ u.v.size ≤ maxLen)
    (h' : Has w w.heap.size D nb ((List.range nb).map fun i => .bool (f i))) (hsz : key.size ≤ maxLen ∧ lo.size ≤ maxLen ∧ hi.size ≤ maxLen) :
    Calls Try.prog 6 #[.slice A n ca, .int .i64 limit, .slice D nb cb, .string key, .agg #[.string lo, .string hi], .int .i64 kk] w fun e w' => e = .returned (.bool true) ∧ Below w.heap.size w w' := by
  have hb0 := below_box (w := w) (Obj.cells #[.string lo, .string hi] 35)
  have H := Lib.hid h
  have H' := Lib.hid h'
  have Hlt := Lib.hid (fun wx (hx : Below w.heap.size w wx) => light10_any A n ca w.heap.size rs wx (h.belowOf hx (Nat.le_refl _)) (by omega) hs)
  obtain ⟨lim, hlim⟩ : ∃ lim, (if limit < 1 then 1 else limit) = lim := ⟨_, rfl⟩
  have Hlim := Lib.hid hlim
  have Hlim1 : Hid (1 ≤ lim) := Lib.hid (by rw [← hlim]; split <;> omega)
  have Hl : Hid ((crLists rs).length = n) := Lib.hid (by rw [crLists_len]; exact h.len)
  have HWA : Hid (∀ wx, Below (w.alloc (.cells #[.string lo, .string hi] 35)).heap.size (w.alloc (.cells #[.string lo, .string hi] 35)) wx → (wx.cell? ⟨w.heap.size, 0, none⟩ = some (.string lo) ∧ wx.cell? ⟨w.heap.size, 1, none⟩ = some (.string hi)) ∧ Below w.heap.size w wx ∧ w.heap.size + 1 ≤ wx.heap.size) := Lib.hid fun wx hx => by
    have h1 := (Box.made w 35 #[.string lo, .string hi]).below hx (by simp)
    have h2 := hx.size
    simp only [World.size_alloc] at h2
    exact ⟨⟨h1.cell 0, h1.cell 1⟩, hb0.trans (hx.mono (by simp)), h2⟩
  have hm2 := hm
  unfold maxLen at hm2 hsz
  obtain ⟨z1, z2, z3⟩ := hsz
  clear h h' hs hlim hb0 hm
  go_enter Try.func6, Try.ntmps6
  go_wp2_with fail
  refine (engAwake_any _).mono ?_
  rintro e w1 ⟨rfl, hb1⟩
  have Hb1 := Lib.hid hb1
  have Hlt1 := Lib.hid (Hlt.out w1 (HWA.out w1 hb1).2.1)
  clear hb1 Hlt
  go_wp2_with fail
  refine Hlt1.out.mono ?_
  rintro e w2 ⟨bl, rfl, hbl, q, rfl⟩
  have Hb2 := Lib.hid (below_dr Hb1.out q)
  have Hbl := Lib.hid hbl
  clear hbl Hlt1
  generalize w1.drewN q = w2 at *
  obtain ⟨⟨d0, d1⟩, hw2, hsz2⟩ := HWA.out w2 Hb2.out
  have Hw2 := Lib.hid hw2
  have HBX : Hid (∀ wx, Below w2.heap.size w2 wx → wx.cell? ⟨w.heap.size, 0, none⟩ = some (.string lo) ∧ wx.cell? ⟨w.heap.size, 1, none⟩ = some (.string hi)) := Lib.hid fun wx hx => (HWA.out wx (Hb2.out.trans (hx.mono Hb2.out.size))).1
  clear hw2
  cases bl with
  | false =>
    go_wp2
    go_ret
    exact ⟨rfl, Hw2.out⟩
  | true =>
    have HL := Lib.hid (Hbl.out rfl)
    clear Hbl
    by_cases hq : 1000 < key.size ∨ 1000 < lo.size ∨ 1000 < hi.size
    · rcases hq with hq | hq | hq
      · go_wp2
        go_ret
        exact ⟨rfl, Hw2.out⟩
      · by_cases hq1 : 1000 < key.size
        · go_wp2
          go_ret
          exact ⟨rfl, Hw2.out⟩
        · go_wp2
          go_ret
          exact ⟨rfl, Hw2.out⟩
      · by_cases hq1 : 1000 < key.size
        · go_wp2
          go_ret
          exact ⟨rfl, Hw2.out⟩
        · by_cases hq2 : 1000 < lo.size
          · go_wp2
            go_ret
            exact ⟨rfl, Hw2.out⟩
          · go_wp2
            go_ret
            exact ⟨rfl, Hw2.out⟩
    · have hq1 : ¬ 1000 < key.size := fun h => hq (.inl h)
      have hq2 : ¬ 1000 < lo.size := fun h => hq (.inr (.inl h))
      have hq3 : ¬ 1000 < hi.size := fun h => hq (.inr (.inr h))
      have hn40 : n ≤ 40 := by have := Hl.out; have := HL.out.1; omega
      clear hq
      go_wp2_with fail
      refine (new_any limit lim w2 Hlim.out).mono ?_
      rintro e' w3 ⟨e, rv, rfl, hwe, hE, hrv, hb3⟩
      have he1 := hE.box.lt
      have hPm : EngP 0 lim (([] : List Chg).length : Int) [] (crLists (aloneR (.slice none 0 0) [])) := (PairsP.eng (l := []) (H := 0) ⟨Run.nil, by simp, by simp, by simp⟩ Hlim1.out : EngP 0 lim (([] : List Chg).length : Int) [] (aloneL []))
      obtain ⟨bm, hbm⟩ : ∃ bm, w3.heap.size = bm := ⟨_, rfl⟩
      have HE0 : Hid (EngMap w2 e bm 0 lim [] [] (w3.alloc (.cells #[.slice none 0 0] 44))) := Lib.hid (by
        rw [← hbm]
        exact ⟨_, _, _, _, _, .slice none 0 0, hE.below (below_box _), hPm, rfl, ⟨Box.made _ _ _, World.ownsRow_nil _ _ _ _, fun e1 => by cases e1⟩, hwe, hb3.size, by omega, fun g hg => (by cases hg), fun e1 => by have := hE.oldR _ e1; omega, fun r hr => (by simp [aloneR] at hr), fun e1 => (by cases e1), hb3.alloc hb3.size _⟩)
      clear hE hrv hb3 hPm d0 d1
      go_wp2
      go_loopw [15, 16, 17, 18, 19] (fun iv _ _ _ _ wr => ∃ j : Nat, j ≤ n ∧ iv = .int .i64 (j : Int) ∧ Hid (EngMap w2 e bm (30 * j) lim (mapAll ((crLists rs).take j).flatten []) (mapAll ((crLists rs).take j).flatten []) wr)) (fun iv _ _ _ _ _ => n - (intOf iv).toNat)
      case atStart => exact ⟨0, by omega, rfl, HE0⟩
      case round =>
        clear HE0
        obtain ⟨j, hj, rfl, HM⟩ := hrel
        by_cases hlt : j < n
        · obtain ⟨a, A1, m1, c1, l, rfl, hab, hg, g1, g2, g3, d0, -⟩ := H.out.at_ hlt
          have Hll := Lib.hid (HL.out.2 l (List.mem_of_getElem? hg))
          have hm1 : m1 ≤ 30 := by have h2 := g3.1; have := Hll.out.1; omega
          have HF := Lib.hid (flat_take hg [])
          have Hs : Hid (∀ x ∈ l, x.k.size ≤ 4000 ∧ x.v.size ≤ 4000) := Lib.hid fun x hx => by have := Hll.out.mem hx; omega
          have HNl := Lib.hid HM.out.len
          have HR : Hid (∀ wx, Below w2.heap.size w2 wx → HasChs wx w2.heap.size A1 m1 l ∧ wx.cell? (a.add j) = some (.slice A1 m1 c1)) := Lib.hid fun wx hb => by
            have hb' : Below w.heap.size w wx := Hw2.out.trans (hb.mono (by omega))
            exact ⟨(g3.belowOf hb' (Nat.le_refl _)).more (by omega), (hb'.cell (p := a.add j) (by rw [addr_block]; exact hab)).trans d0⟩
          have Hq := Lib.hid (HM.out.putE A1 m1 c1 l (HR.out wr HM.out.below).1 (by omega) Hs.out)
          obtain ⟨-, d1⟩ := HR.out wr HM.out.below
          have hk0 : (0 : Int) ≤ (j : Int) := by omega
          have hk1 : (j : Int) < (n : Int) := by omega
          clear hg g1 g2 g3 d0
          go_wp2_with fail
          refine Hq.out.mono ?_
          rintro e' w4 ⟨rfl, hM4⟩
          obtain ⟨g4, d4⟩ := HR.out w4 hM4.below
          have Hq4 := Lib.hid (hM4.putM A1 m1 c1 l g4 (by omega) (by have := HNl.out; omega))
          clear Hq g4 hM4
          go_wp2_with fail
          refine Hq4.out.mono ?_
          rintro e' w5 ⟨rfl, hM5⟩
          obtain ⟨M, hMj⟩ : ∃ M, mapAll ((crLists rs).take (j + 1)).flatten [] = M := ⟨_, rfl⟩
          have HMj := Lib.hid hMj
          have HM5 : Hid (EngMap w2 e bm (30 * (j + 1)) lim M M w5) := Lib.hid (by rw [← hMj, HF.out]; exact hM5.up (by omega))
          clear hM5 Hq4 d1 d4 hMj
          by_cases hjb : j < nb
          · obtain ⟨ab, rfl, hbb, hbc⟩ : ∃ ab, D = some ab ∧ ab.block < w.heap.size ∧ w5.cell? (ab.add j) = some (.bool (f j)) := by
              obtain ⟨ab, e1, h1, h2⟩ := H'.out.2 j (.bool (f j)) (by simp [hjb])
              exact ⟨ab, e1, h1, ((Hw2.out.trans (HM5.out.below.mono (by omega))).cell (p := ab.add j) (by rw [addr_block]; exact h1)).trans h2⟩
            have hjb1 : (j : Int) < (nb : Int) := by omega
            obtain ⟨fj, hfj⟩ : ∃ fj, f j = fj := ⟨_, rfl⟩
            rw [hfj] at hbc
            clear hfj
            cases fj with
            | true =>
              have Hco := Lib.hid (HM5.out.compact (by omega))
              go_wp2_with fail
              refine Hco.out.mono ?_
              rintro e' w5b ⟨rfl, hM5b, pc, rvc, rsc, hEc, hPc, hsum, hrun⟩
              have HM5b := Lib.hid hM5b
              obtain ⟨pm, tvm, rvm, Tm, rsm, mvc, -, -, -, hmapc, -⟩ := hM5b
              obtain ⟨Ac, cc, rfl, -, -, hxc⟩ := hmapc.row.slice
              obtain ⟨NC, hNC⟩ : ∃ NC, M.length = NC := ⟨_, rfl⟩
              have hboxc := hmapc.box
              rw [hNC] at hboxc hsum
              have HHe := Lib.hid (fun wx (hx : Below w5b.heap.size w5b wx) => held_any (hEc.below hx) hPc (by omega))
              have HRu := Lib.hid (fun wx (hx : Below w5b.heap.size w5b wx) => runs_any (hEc.below hx))
              rw [hsum] at HHe
              obtain ⟨NR, hNR⟩ : ∃ NR, rsc.length = NR := ⟨_, rfl⟩
              rw [hNR] at HRu hrun
              have HKc : Hid (∀ wx, Below w5b.heap.size w5b wx → wx.cell? ⟨bm, 0, none⟩ = some (.slice Ac NC cc) ∧ Below w5b.heap.size w5b wx) := Lib.hid fun wx hx => ⟨(hboxc.below hx hboxc.lt).cell 0, hx⟩
              have dc := (HKc.out w5b (Below.refl _ _)).1
              have hcase : (NC = 0 ∧ NR = 0) ∨ (0 < NC ∧ NR = 1) := by
                by_cases hM0 : M = []
                · rw [if_pos hM0] at hrun; rw [hM0] at hNC; exact .inl ⟨by simpa using hNC.symm, hrun⟩
                · rw [if_neg hM0] at hrun; exact .inr ⟨by rw [← hNC]; exact List.length_pos_iff.2 hM0, hrun⟩
              clear hEc hPc hsum hrun hmapc hxc hboxc hNC hNR Hco
              rcases hcase with ⟨rfl, rfl⟩ | ⟨hNC0, rfl⟩
              · go_wp2
                go_region_held3 (fun wx => wx.cell? ⟨bm, 0, none⟩ = some (.slice Ac 0 cc) ∧ Below w5b.heap.size w5b wx)
                  (first | exact HKc.out _ (Below.refl _ _).drew | exact HKc.out _ (keep10 (And.right (by assumption)) k1) | exact HKc.out _ (keep10 (And.right (by assumption)) k2) | exact HKc.out _ (keep10 (And.right (by assumption)) k3))
                  (first
                    | (go_at_call 26; refine (HHe.out _ (And.right (by assumption))).mono ?_; rintro e1 y1 ⟨rfl, k1⟩)
                    | (have _hk := k2; go_at_call 27; refine (HRu.out _ (And.right (by assumption))).mono ?_; rintro e1 w6 ⟨rfl, k3⟩)
                    | (go_at_call 27; refine (HRu.out _ (And.right (by assumption))).mono ?_; rintro e1 y2 ⟨rfl, k2⟩))
                all_goals
                  have HM6 : Hid (EngMap w2 e bm (30 * (j + 1)) lim M M w6) := Lib.hid (HM5b.out.next (And.right (by assumption)))
                  clear k1 k2 k3 HM5 HM5b
                  obtain ⟨pairs, tv, rv, T, rse, mv, hE, hP, hMx, hmap, -⟩ := HM6.out
                  obtain ⟨Am, cm, rfl, -, -, hxm⟩ := hmap.row.slice
                  obtain ⟨NM, hNM⟩ : ∃ NM, M.length = NM := ⟨_, rfl⟩
                  have hbox := hmap.box
                  rw [hNM] at hxm hbox
                  have hPP : PairsP (30 * (j + 1)) M := hMx ▸ PairsP.of hP
                  have hNM9 : NM ≤ 9000 := by rw [← hNM]; exact Nat.le_trans hPP.len (by omega)
                  have hge := get_eq hP.runs key
                  rw [hMx] at hge
                  have HG1 := Lib.hid (engGet_any hE hP (by omega) key)
                  have HG2 := Lib.hid (fun wx (hx : Below w6.heap.size w6 wx) => mapGet_any (hbox.below hx hbox.lt) ((hxm.belowOf hx (Nat.le_refl _)).more hx.size) hNM9 key)
                  have HR1 := Lib.hid (fun wx (hx : Below w6.heap.size w6 wx) => engRange_any (hE.below hx) hP (by omega) lo hi kk)
                  have HR2 := Lib.hid (fun wx (hx : Below w6.heap.size w6 wx) => mapRange_any (hbox.below hx hbox.lt) ((hxm.belowOf hx (Nat.le_refl _)).more hx.size) hNM9 hPP.run hPP.live lo hi kk)
                  rw [hMx] at HR1
                  obtain ⟨P, hPe⟩ : ∃ P, ((sliceL lo.data.toList hi.data.toList M).map prOf).take kk.toNat = P := ⟨_, rfl⟩
                  rw [hPe] at HR1 HR2
                  have hPl : P.length ≤ 9000 := by
                    rw [← hPe]
                    refine Nat.le_trans (List.length_take_le' _ _) ?_
                    rw [List.length_map]
                    exact Nat.le_trans (slice_len _ _ _) (by rw [hNM]; exact hNM9)
                  obtain ⟨gv, hgv⟩ : ∃ gv, (newC key (T :: crLists rse)).v = gv := ⟨_, rfl⟩
                  obtain ⟨gb, hgb⟩ : ∃ gb, (!(newC key (T :: crLists rse)).g) = gb := ⟨_, rfl⟩
                  rw [hgv, hgb] at hge HG1
                  have Hge := Lib.hid hge
                  have hbw := HM6.out.below
                  have HB6 : Hid (∀ wx, Below w6.heap.size w6 wx → (wx.cell? ⟨w.heap.size, 0, none⟩ = some (.string lo) ∧ wx.cell? ⟨w.heap.size, 1, none⟩ = some (.string hi)) ∧ Below w6.heap.size w6 wx) := Lib.hid fun wx hx => ⟨HBX.out wx (hbw.trans (hx.mono hbw.size)), hx⟩
                  clear hE hP hMx hmap hxm hbox hPP hge hPe hgv hgb hNM hbw
                  go_wp2_with fail
                  refine HG1.out.mono ?_
                  rintro e' w7 ⟨rfl, b7⟩
                  have HB7 := Lib.hid b7
                  have HG7 := Lib.hid (HG2.out w7 b7)
                  clear b7 HG1 HG2
                  go_wp2_with fail
                  refine HG7.out.mono ?_
                  rintro e' w8 ⟨hres, b8⟩
                  obtain rfl : e' = .returned (.tuple #[.string gv, .bool gb]) := by
                    rcases Hge.out with ⟨h1, h2, h3⟩ | ⟨c, h1, h2, h3⟩ <;> rcases hres with ⟨h4, h5⟩ | ⟨c', h4, h5⟩
                    · rw [h5, h2, h3]
                    · rw [h1] at h4; cases h4
                    · rw [h1] at h4; cases h4
                    · rw [h1] at h4; injection h4 with h4; subst h4; rw [h5, h2, h3]
                  have HB8 : Hid (Below w6.heap.size w6 w8) := Lib.hid (HB7.out.trans (b8.mono HB7.out.size))
                  clear hres b8 HG7
                  go_wp2
                  go_region_held3 (fun wx => (wx.cell? ⟨w.heap.size, 0, none⟩ = some (.string lo) ∧ wx.cell? ⟨w.heap.size, 1, none⟩ = some (.string hi)) ∧ Below w6.heap.size w6 wx)
                    (first | exact HB6.out _ HB8.out.drew | exact HB6.out _ (keep10 (And.right (by assumption)) b9) | exact HB6.out _ (keep10 (And.right (by assumption)) b10) | exact HB6.out _ (keep10 (And.right (by assumption)) b11))
                    (first
                      | (go_at_call 31; refine (HR1.out _ (And.right (by assumption))).mono ?_; rintro e1 w9 ⟨v9, rfl, o9, b9⟩; obtain ⟨A9, c9, rfl, -, -, x9⟩ := o9.slice)
                      | (go_at_call 32; refine (HR2.out _ (And.right (by assumption))).mono ?_; rintro e1 w10 ⟨A10, c10, rfl, x10, b10⟩; have x9' : HasPrs w10 w9.heap.size A9 P.length P := ⟨x9.1, x9.2.belowOf b10 (Nat.le_refl _)⟩)
                      | (go_at_call 30; refine (samePairs_any A9 A10 P.length c9 c10 _ _ P w10 x9' x10 (by unfold maxLen; omega)).mono ?_; rintro e1 w11 ⟨rfl, b11⟩))
                  all_goals
                    have HE : Hid (EngMap w2 e bm (30 * (j + 1)) lim (mapAll ((crLists rs).take (j + 1)).flatten []) (mapAll ((crLists rs).take (j + 1)).flatten []) w11) := Lib.hid (by rw [HMj.out]; exact HM6.out.next (And.right (by assumption)))
                    clear o9 b9 x9 b10 x10 x9' b11
                    go_wp2
                    go_roundw
                    case rel => exact ⟨j + 1, by omega, by go_num, HE⟩
                    case measure => simp [intOf]; omega
              · go_wp2
                go_region_held3 (fun wx => wx.cell? ⟨bm, 0, none⟩ = some (.slice Ac NC cc) ∧ Below w5b.heap.size w5b wx)
                  (first | exact HKc.out _ (Below.refl _ _).drew | exact HKc.out _ (keep10 (And.right (by assumption)) k1) | exact HKc.out _ (keep10 (And.right (by assumption)) k2) | exact HKc.out _ (keep10 (And.right (by assumption)) k3))
                  (first
                    | (go_at_call 26; refine (HHe.out _ (And.right (by assumption))).mono ?_; rintro e1 y1 ⟨rfl, k1⟩)
                    | (have _hk := k2; go_at_call 27; refine (HRu.out _ (And.right (by assumption))).mono ?_; rintro e1 w6 ⟨rfl, k3⟩)
                    | (go_at_call 27; refine (HRu.out _ (And.right (by assumption))).mono ?_; rintro e1 y2 ⟨rfl, k2⟩))
                all_goals
                  have HM6 : Hid (EngMap w2 e bm (30 * (j + 1)) lim M M w6) := Lib.hid (HM5b.out.next (And.right (by assumption)))
                  clear k1 k2 k3 HM5 HM5b
                  obtain ⟨pairs, tv, rv, T, rse, mv, hE, hP, hMx, hmap, -⟩ := HM6.out
                  obtain ⟨Am, cm, rfl, -, -, hxm⟩ := hmap.row.slice
                  obtain ⟨NM, hNM⟩ : ∃ NM, M.length = NM := ⟨_, rfl⟩
                  have hbox := hmap.box
                  rw [hNM] at hxm hbox
                  have hPP : PairsP (30 * (j + 1)) M := hMx ▸ PairsP.of hP
                  have hNM9 : NM ≤ 9000 := by rw [← hNM]; exact Nat.le_trans hPP.len (by omega)
                  have hge := get_eq hP.runs key
                  rw [hMx] at hge
                  have HG1 := Lib.hid (engGet_any hE hP (by omega) key)
                  have HG2 := Lib.hid (fun wx (hx : Below w6.heap.size w6 wx) => mapGet_any (hbox.below hx hbox.lt) ((hxm.belowOf hx (Nat.le_refl _)).more hx.size) hNM9 key)
                  have HR1 := Lib.hid (fun wx (hx : Below w6.heap.size w6 wx) => engRange_any (hE.below hx) hP (by omega) lo hi kk)
                  have HR2 := Lib.hid (fun wx (hx : Below w6.heap.size w6 wx) => mapRange_any (hbox.below hx hbox.lt) ((hxm.belowOf hx (Nat.le_refl _)).more hx.size) hNM9 hPP.run hPP.live lo hi kk)
                  rw [hMx] at HR1
                  obtain ⟨P, hPe⟩ : ∃ P, ((sliceL lo.data.toList hi.data.toList M).map prOf).take kk.toNat = P := ⟨_, rfl⟩
                  rw [hPe] at HR1 HR2
                  have hPl : P.length ≤ 9000 := by
                    rw [← hPe]
                    refine Nat.le_trans (List.length_take_le' _ _) ?_
                    rw [List.length_map]
                    exact Nat.le_trans (slice_len _ _ _) (by rw [hNM]; exact hNM9)
                  obtain ⟨gv, hgv⟩ : ∃ gv, (newC key (T :: crLists rse)).v = gv := ⟨_, rfl⟩
                  obtain ⟨gb, hgb⟩ : ∃ gb, (!(newC key (T :: crLists rse)).g) = gb := ⟨_, rfl⟩
                  rw [hgv, hgb] at hge HG1
                  have Hge := Lib.hid hge
                  have hbw := HM6.out.below
                  have HB6 : Hid (∀ wx, Below w6.heap.size w6 wx → (wx.cell? ⟨w.heap.size, 0, none⟩ = some (.string lo) ∧ wx.cell? ⟨w.heap.size, 1, none⟩ = some (.string hi)) ∧ Below w6.heap.size w6 wx) := Lib.hid fun wx hx => ⟨HBX.out wx (hbw.trans (hx.mono hbw.size)), hx⟩
                  clear hE hP hMx hmap hxm hbox hPP hge hPe hgv hgb hNM hbw
                  go_wp2_with fail
                  refine HG1.out.mono ?_
                  rintro e' w7 ⟨rfl, b7⟩
                  have HB7 := Lib.hid b7
                  have HG7 := Lib.hid (HG2.out w7 b7)
                  clear b7 HG1 HG2
                  go_wp2_with fail
                  refine HG7.out.mono ?_
                  rintro e' w8 ⟨hres, b8⟩
                  obtain rfl : e' = .returned (.tuple #[.string gv, .bool gb]) := by
                    rcases Hge.out with ⟨h1, h2, h3⟩ | ⟨c, h1, h2, h3⟩ <;> rcases hres with ⟨h4, h5⟩ | ⟨c', h4, h5⟩
                    · rw [h5, h2, h3]
                    · rw [h1] at h4; cases h4
                    · rw [h1] at h4; cases h4
                    · rw [h1] at h4; injection h4 with h4; subst h4; rw [h5, h2, h3]
                  have HB8 : Hid (Below w6.heap.size w6 w8) := Lib.hid (HB7.out.trans (b8.mono HB7.out.size))
                  clear hres b8 HG7
                  go_wp2
                  go_region_held3 (fun wx => (wx.cell? ⟨w.heap.size, 0, none⟩ = some (.string lo) ∧ wx.cell? ⟨w.heap.size, 1, none⟩ = some (.string hi)) ∧ Below w6.heap.size w6 wx)
                    (first | exact HB6.out _ HB8.out.drew | exact HB6.out _ (keep10 (And.right (by assumption)) b9) | exact HB6.out _ (keep10 (And.right (by assumption)) b10) | exact HB6.out _ (keep10 (And.right (by assumption)) b11))
                    (first
                      | (go_at_call 31; refine (HR1.out _ (And.right (by assumption))).mono ?_; rintro e1 w9 ⟨v9, rfl, o9, b9⟩; obtain ⟨A9, c9, rfl, -, -, x9⟩ := o9.slice)
                      | (go_at_call 32; refine (HR2.out _ (And.right (by assumption))).mono ?_; rintro e1 w10 ⟨A10, c10, rfl, x10, b10⟩; have x9' : HasPrs w10 w9.heap.size A9 P.length P := ⟨x9.1, x9.2.belowOf b10 (Nat.le_refl _)⟩)
                      | (go_at_call 30; refine (samePairs_any A9 A10 P.length c9 c10 _ _ P w10 x9' x10 (by unfold maxLen; omega)).mono ?_; rintro e1 w11 ⟨rfl, b11⟩))
                  all_goals
                    have HE : Hid (EngMap w2 e bm (30 * (j + 1)) lim (mapAll ((crLists rs).take (j + 1)).flatten []) (mapAll ((crLists rs).take (j + 1)).flatten []) w11) := Lib.hid (by rw [HMj.out]; exact HM6.out.next (And.right (by assumption)))
                    clear o9 b9 x9 b10 x10 x9' b11
                    go_wp2
                    go_roundw
                    case rel => exact ⟨j + 1, by omega, by go_num, HE⟩
                    case measure => simp [intOf]; omega
            | false =>
              have HM6 := HM5
              clear HM5
              generalize w5 = w6 at *
              obtain ⟨pairs, tv, rv, T, rse, mv, hE, hP, hMx, hmap, -⟩ := HM6.out
              obtain ⟨Am, cm, rfl, -, -, hxm⟩ := hmap.row.slice
              obtain ⟨NM, hNM⟩ : ∃ NM, M.length = NM := ⟨_, rfl⟩
              have hbox := hmap.box
              rw [hNM] at hxm hbox
              have hPP : PairsP (30 * (j + 1)) M := hMx ▸ PairsP.of hP
              have hNM9 : NM ≤ 9000 := by rw [← hNM]; exact Nat.le_trans hPP.len (by omega)
              have hge := get_eq hP.runs key
              rw [hMx] at hge
              have HG1 := Lib.hid (engGet_any hE hP (by omega) key)
              have HG2 := Lib.hid (fun wx (hx : Below w6.heap.size w6 wx) => mapGet_any (hbox.below hx hbox.lt) ((hxm.belowOf hx (Nat.le_refl _)).more hx.size) hNM9 key)
              have HR1 := Lib.hid (fun wx (hx : Below w6.heap.size w6 wx) => engRange_any (hE.below hx) hP (by omega) lo hi kk)
              have HR2 := Lib.hid (fun wx (hx : Below w6.heap.size w6 wx) => mapRange_any (hbox.below hx hbox.lt) ((hxm.belowOf hx (Nat.le_refl _)).more hx.size) hNM9 hPP.run hPP.live lo hi kk)
              rw [hMx] at HR1
              obtain ⟨P, hPe⟩ : ∃ P, ((sliceL lo.data.toList hi.data.toList M).map prOf).take kk.toNat = P := ⟨_, rfl⟩
              rw [hPe] at HR1 HR2
              have hPl : P.length ≤ 9000 := by
                rw [← hPe]
                refine Nat.le_trans (List.length_take_le' _ _) ?_
                rw [List.length_map]
                exact Nat.le_trans (slice_len _ _ _) (by rw [hNM]; exact hNM9)
              obtain ⟨gv, hgv⟩ : ∃ gv, (newC key (T :: crLists rse)).v = gv := ⟨_, rfl⟩
              obtain ⟨gb, hgb⟩ : ∃ gb, (!(newC key (T :: crLists rse)).g) = gb := ⟨_, rfl⟩
              rw [hgv, hgb] at hge HG1
              have Hge := Lib.hid hge
              have hbw := HM6.out.below
              have HB6 : Hid (∀ wx, Below w6.heap.size w6 wx → (wx.cell? ⟨w.heap.size, 0, none⟩ = some (.string lo) ∧ wx.cell? ⟨w.heap.size, 1, none⟩ = some (.string hi)) ∧ Below w6.heap.size w6 wx) := Lib.hid fun wx hx => ⟨HBX.out wx (hbw.trans (hx.mono hbw.size)), hx⟩
              clear hE hP hMx hmap hxm hbox hPP hge hPe hgv hgb hNM hbw
              go_wp2_with fail
              refine HG1.out.mono ?_
              rintro e' w7 ⟨rfl, b7⟩
              have HB7 := Lib.hid b7
              have HG7 := Lib.hid (HG2.out w7 b7)
              clear b7 HG1 HG2
              go_wp2_with fail
              refine HG7.out.mono ?_
              rintro e' w8 ⟨hres, b8⟩
              obtain rfl : e' = .returned (.tuple #[.string gv, .bool gb]) := by
                rcases Hge.out with ⟨h1, h2, h3⟩ | ⟨c, h1, h2, h3⟩ <;> rcases hres with ⟨h4, h5⟩ | ⟨c', h4, h5⟩
                · rw [h5, h2, h3]
                · rw [h1] at h4; cases h4
                · rw [h1] at h4; cases h4
                · rw [h1] at h4; injection h4 with h4; subst h4; rw [h5, h2, h3]
              have HB8 : Hid (Below w6.heap.size w6 w8) := Lib.hid (HB7.out.trans (b8.mono HB7.out.size))
              clear hres b8 HG7
              go_wp2
              go_region_held3 (fun wx => (wx.cell? ⟨w.heap.size, 0, none⟩ = some (.string lo) ∧ wx.cell? ⟨w.heap.size, 1, none⟩ = some (.string hi)) ∧ Below w6.heap.size w6 wx)
                (first | exact HB6.out _ HB8.out.drew | exact HB6.out _ (keep10 (And.right (by assumption)) b9) | exact HB6.out _ (keep10 (And.right (by assumption)) b10) | exact HB6.out _ (keep10 (And.right (by assumption)) b11))
                (first
                  | (go_at_call 31; refine (HR1.out _ (And.right (by assumption))).mono ?_; rintro e1 w9 ⟨v9, rfl, o9, b9⟩; obtain ⟨A9, c9, rfl, -, -, x9⟩ := o9.slice)
                  | (go_at_call 32; refine (HR2.out _ (And.right (by assumption))).mono ?_; rintro e1 w10 ⟨A10, c10, rfl, x10, b10⟩; have x9' : HasPrs w10 w9.heap.size A9 P.length P := ⟨x9.1, x9.2.belowOf b10 (Nat.le_refl _)⟩)
                  | (go_at_call 30; refine (samePairs_any A9 A10 P.length c9 c10 _ _ P w10 x9' x10 (by unfold maxLen; omega)).mono ?_; rintro e1 w11 ⟨rfl, b11⟩))
              all_goals
                have HE : Hid (EngMap w2 e bm (30 * (j + 1)) lim (mapAll ((crLists rs).take (j + 1)).flatten []) (mapAll ((crLists rs).take (j + 1)).flatten []) w11) := Lib.hid (by rw [HMj.out]; exact HM6.out.next (And.right (by assumption)))
                clear o9 b9 x9 b10 x10 x9' b11
                go_wp2
                go_roundw
                case rel => exact ⟨j + 1, by omega, by go_num, HE⟩
                case measure => simp [intOf]; omega
          · have HM6 := HM5
            clear HM5
            generalize w5 = w6 at *
            obtain ⟨pairs, tv, rv, T, rse, mv, hE, hP, hMx, hmap, -⟩ := HM6.out
            obtain ⟨Am, cm, rfl, -, -, hxm⟩ := hmap.row.slice
            obtain ⟨NM, hNM⟩ : ∃ NM, M.length = NM := ⟨_, rfl⟩
            have hbox := hmap.box
            rw [hNM] at hxm hbox
            have hPP : PairsP (30 * (j + 1)) M := hMx ▸ PairsP.of hP
            have hNM9 : NM ≤ 9000 := by rw [← hNM]; exact Nat.le_trans hPP.len (by omega)
            have hge := get_eq hP.runs key
            rw [hMx] at hge
            have HG1 := Lib.hid (engGet_any hE hP (by omega) key)
            have HG2 := Lib.hid (fun wx (hx : Below w6.heap.size w6 wx) => mapGet_any (hbox.below hx hbox.lt) ((hxm.belowOf hx (Nat.le_refl _)).more hx.size) hNM9 key)
            have HR1 := Lib.hid (fun wx (hx : Below w6.heap.size w6 wx) => engRange_any (hE.below hx) hP (by omega) lo hi kk)
            have HR2 := Lib.hid (fun wx (hx : Below w6.heap.size w6 wx) => mapRange_any (hbox.below hx hbox.lt) ((hxm.belowOf hx (Nat.le_refl _)).more hx.size) hNM9 hPP.run hPP.live lo hi kk)
            rw [hMx] at HR1
            obtain ⟨P, hPe⟩ : ∃ P, ((sliceL lo.data.toList hi.data.toList M).map prOf).take kk.toNat = P := ⟨_, rfl⟩
            rw [hPe] at HR1 HR2
            have hPl : P.length ≤ 9000 := by
              rw [← hPe]
              refine Nat.le_trans (List.length_take_le' _ _) ?_
              rw [List.length_map]
              exact Nat.le_trans (slice_len _ _ _) (by rw [hNM]; exact hNM9)
            obtain ⟨gv, hgv⟩ : ∃ gv, (newC key (T :: crLists rse)).v = gv := ⟨_, rfl⟩
            obtain ⟨gb, hgb⟩ : ∃ gb, (!(newC key (T :: crLists rse)).g) = gb := ⟨_, rfl⟩
            rw [hgv, hgb] at hge HG1
            have Hge := Lib.hid hge
            have hbw := HM6.out.below
            have HB6 : Hid (∀ wx, Below w6.heap.size w6 wx → (wx.cell? ⟨w.heap.size, 0, none⟩ = some (.string lo) ∧ wx.cell? ⟨w.heap.size, 1, none⟩ = some (.string hi)) ∧ Below w6.heap.size w6 wx) := Lib.hid fun wx hx => ⟨HBX.out wx (hbw.trans (hx.mono hbw.size)), hx⟩
            clear hE hP hMx hmap hxm hbox hPP hge hPe hgv hgb hNM hbw
            go_wp2_with fail
            refine HG1.out.mono ?_
            rintro e' w7 ⟨rfl, b7⟩
            have HB7 := Lib.hid b7
            have HG7 := Lib.hid (HG2.out w7 b7)
            clear b7 HG1 HG2
            go_wp2_with fail
            refine HG7.out.mono ?_
            rintro e' w8 ⟨hres, b8⟩
            obtain rfl : e' = .returned (.tuple #[.string gv, .bool gb]) := by
              rcases Hge.out with ⟨h1, h2, h3⟩ | ⟨c, h1, h2, h3⟩ <;> rcases hres with ⟨h4, h5⟩ | ⟨c', h4, h5⟩
              · rw [h5, h2, h3]
              · rw [h1] at h4; cases h4
              · rw [h1] at h4; cases h4
              · rw [h1] at h4; injection h4 with h4; subst h4; rw [h5, h2, h3]
            have HB8 : Hid (Below w6.heap.size w6 w8) := Lib.hid (HB7.out.trans (b8.mono HB7.out.size))
            clear hres b8 HG7
            go_wp2
            go_region_held3 (fun wx => (wx.cell? ⟨w.heap.size, 0, none⟩ = some (.string lo) ∧ wx.cell? ⟨w.heap.size, 1, none⟩ = some (.string hi)) ∧ Below w6.heap.size w6 wx)
              (first | exact HB6.out _ HB8.out.drew | exact HB6.out _ (keep10 (And.right (by assumption)) b9) | exact HB6.out _ (keep10 (And.right (by assumption)) b10) | exact HB6.out _ (keep10 (And.right (by assumption)) b11))
              (first
                | (go_at_call 31; refine (HR1.out _ (And.right (by assumption))).mono ?_; rintro e1 w9 ⟨v9, rfl, o9, b9⟩; obtain ⟨A9, c9, rfl, -, -, x9⟩ := o9.slice)
                | (go_at_call 32; refine (HR2.out _ (And.right (by assumption))).mono ?_; rintro e1 w10 ⟨A10, c10, rfl, x10, b10⟩; have x9' : HasPrs w10 w9.heap.size A9 P.length P := ⟨x9.1, x9.2.belowOf b10 (Nat.le_refl _)⟩)
                | (go_at_call 30; refine (samePairs_any A9 A10 P.length c9 c10 _ _ P w10 x9' x10 (by unfold maxLen; omega)).mono ?_; rintro e1 w11 ⟨rfl, b11⟩))
            all_goals
              have HE : Hid (EngMap w2 e bm (30 * (j + 1)) lim (mapAll ((crLists rs).take (j + 1)).flatten []) (mapAll ((crLists rs).take (j + 1)).flatten []) w11) := Lib.hid (by rw [HMj.out]; exact HM6.out.next (And.right (by assumption)))
              clear o9 b9 x9 b10 x10 x9' b11
              go_wp2
              go_roundw
              case rel => exact ⟨j + 1, by omega, by go_num, HE⟩
              case measure => simp [intOf]; omega
        · obtain rfl : j = n := by omega
          have E : Hid ((crLists rs).take j = crLists rs) := Lib.hid (List.take_of_length_le (by have := Hl.out; omega))
          obtain ⟨pairs, tv, rv, T, rse, mv, hE, hP, hMx, hmap, -⟩ := HM.out
          obtain ⟨Am, cm, rfl, -, -, hxm⟩ := hmap.row.slice
          have HS := Lib.hid (same_any hE hP (by omega) hMx hmap.box hxm)
          have HW : Hid (Below w.heap.size w wr) := Lib.hid (Hw2.out.trans (HM.out.below.mono (by omega)))
          clear hE hP hMx hmap hxm
          go_wp2_with fail
          refine HS.out.mono ?_
          rintro e' w9 ⟨rfl, b9⟩
          have HZ := Lib.hid (HW.out.trans (b9.mono HW.out.size))
          clear b9
          go_wp2
          go_ret
          exact ⟨rfl, HZ.out⟩

namespace lawEnginePlays
open Go.ChangeShapes Go.WideShapes Go.ChangeAt

theorem own : ownKnob Try.prog.godebug = none := by kernel_rfl
theorem kids : Kids Try.prog (· < Try.prog.types.size) := kids_rows (by kernel_rfl) (by kernel_rfl)
theorem full : ∀ t e, t < Try.prog.types.size → Try.prog.underlying t = some (.slice e) → 0 < Try.prog.cellsOf e := slices_full_of Try.prog (by kernel_rfl)

set_option maxRecDepth 100000 in
theorem lifted (os : Os) (started : os.Started) (H : Type) (enc : TypeId × Value → H) :
    ReturnsInHanded {} Try.checked os 6 .any (Rows.enginePlaysSpec.pre6 enc Try.prog Try.f6 Rows.enginePlaysRow.domain false) (Rows.enginePlaysSpec.post enc Try.prog Try.f6 false true false false) := by
  refine returnsInHanded_of_change (C := Try.checked) own started (by kernel_rfl) Try.func6
    (ChangeSpec.witness6 (enc := enc) (C := Try.checked) false ⟨#[], #[.slice none 0 0, .int .i64 0, .slice none 0 0, .string ⟨#[]⟩, .agg #[.string ⟨#[]⟩, .string ⟨#[]⟩], .int .i64 0], []⟩ 8 (by kernel_rfl) (by kernel_rfl) (by kernel_rfl) (by kernel_rfl)) ?_
  intro W base args ds gs before hval0 hW _ _
  have hval : ∀ (j : Nat) t v, Try.f6.params[j]? = some t → args[j]? = some v → Value.okWide Try.prog W .any base t v := hval0
  have hW' := hW
  obtain ⟨p, q, hA0, hV, rfl, _, _⟩ := hW
  obtain ⟨rfl, rfl⟩ := trodVars_none hV
  have hA : DataW.TrodAll enc Try.prog W 0 (fun _ => true) true Try.f6.params.toList args.toList ds p := hA0
  rw [Try.params6] at hA hval
  obtain ⟨v0, vs0, d0, ds0, p0, q0, hargs, rfl, rfl, h0, r0⟩ := trodAll_cons hA
  obtain ⟨v1, vs1, d1, ds1, p1, q1, rfl, rfl, rfl, h1, r1⟩ := trodAll_cons r0
  obtain ⟨v2, vs2, d2, ds2, p2, q2, rfl, rfl, rfl, h2, r2⟩ := trodAll_cons r1
  obtain ⟨v3, vs3, d3, ds3, p3, q3, rfl, rfl, rfl, h3, r3⟩ := trodAll_cons r2
  obtain ⟨v4, vs4, d4, ds4, p4, q4, rfl, rfl, rfl, h4, r4⟩ := trodAll_cons r3
  obtain ⟨v5, vs5, d5, ds5, p5, q5, rfl, rfl, rfl, h5, r5⟩ := trodAll_cons r4
  obtain ⟨rfl, rfl, rfl⟩ := trodAll_nil r5
  obtain rfl : args = #[v0, v1, v2, v3, v4, v5] := by cases args; simp_all
  have hlt := hW'.lt
  obtain ⟨A0, n0, c0, l0, rfl, hnc0, hm0, hb0, hs0⟩ := open_crs Try.underlying29 (by kernel_rfl) Try.underlying22 Try.underlying38 (by kernel_rfl) ⟨rfl, rfl, rfl⟩ ⟨by kernel_rfl, by kernel_rfl, by kernel_rfl⟩ ⟨by kernel_rfl, by kernel_rfl, by kernel_rfl⟩ (hval 0 29 v0 rfl rfl) h0 (fun x hx => hlt x (by simp [hx]))
  obtain ⟨k1, rfl, _, _, _⟩ := open_int Try.underlying3 (hval 1 3 v1 rfl rfl) h1
  obtain ⟨A2, n2, c2, f2, rfl, hn2, hnc2, hb2⟩ := open_bls Try.underlying39 Try.underlying4 (by kernel_rfl) (hval 2 39 v2 rfl rfl) h2 (fun x hx => hlt x (by simp [hx]))
  obtain ⟨s3, rfl, _, _, ws3⟩ := Go.ChangeMaps.open_string Try.underlying9 (hval 3 9 v3 rfl rfl) h3
  obtain ⟨x4, y4, rfl, wx4, wy4⟩ := open_range Try.underlying35 (by kernel_rfl) ⟨rfl, rfl⟩ ⟨by kernel_rfl, by kernel_rfl⟩ ⟨by kernel_rfl, by kernel_rfl⟩ (hval 4 35 v4 rfl rfl) h4
  obtain ⟨k5, rfl, _, _, _⟩ := open_int Try.underlying3 (hval 5 3 v5 rfl rfl) h5
  refine (plays_walk A0 A2 n0 c0 n2 c2 k1 k5 l0 f2 s3 x4 y4 W hb0 hnc0 hm0 hs0 hb2 ⟨ws3, wx4, wy4⟩).mono fun e W' ⟨he, hbel⟩ => ?_
  subst he
  exact ⟨_, rfl, law_post kids full (of_decide_eq_true (by kernel_rfl)) Try.underlying4 rfl rfl rfl hW' hbel⟩

theorem proved : Rows.EnginePlaysSaid :=
  OpenClaim.holds_of_wide 6 Try.f6 rfl rfl rfl rfl rfl rfl rfl ⟨rfl, rfl, rfl, rfl, rfl⟩ rfl rfl rfl rfl rfl (by kernel_rfl) Try.func6 (by kernel_rfl)
    (of_decide_eq_true (by kernel_rfl)) (by unfold Func.isWrapper; first | (rw [if_pos (by decide +kernel)]; kernel_rfl) | (rw [if_neg (by decide +kernel)]; exact ⟨rfl, rfl⟩))
    (fun os started H enc _ => lifted os started H enc)
end lawEnginePlays

end Go.Proofs.Ytlacpnokcabeoaa
