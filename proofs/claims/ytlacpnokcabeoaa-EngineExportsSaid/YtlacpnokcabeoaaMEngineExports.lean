/- EngineExports: what is exported is what the document says, and any bytes are imported as it says. No condition. -/
import Derived.Test.YtlacpnokcabeoaaMExD
import Derived.Test.YtlacpnokcabeoaaMExG
import Derived.Test.YtlacpnokcabeoaaMExJ
import Derived.Test.YtlacpnokcabeoaaMExA
import Derived.Test.YtlacpnokcabeoaaMExC
import Derived.Deep.RegionHeld3
import Derived.Test.YtlacpnokcabeoaaMBchB
import Derived.Test.YtlacpnokcabeoaaMBchC
import Derived.Test.YtlacpnokcabeoaaMExO
namespace Go.Proofs.Ytlacpnokcabeoaa
open Go.RowKit
open Go.Lib (strCells compareBytes)

theorem bodyL_succ {l : List Chg} {k : Nat} {c : Chg} (h : l[k]? = some c) : bodyL (l.take (k + 1)) = bodyL (l.take k) ++ (textForm c.k.data.toList ++ ([if c.g then 1 else 0] ++ textForm c.v.data.toList)) := by
  rw [take_snocC h, bodyL_app]
  simp [bodyL, chgForm, goneN_one]
theorem own_eqB {w : World} {B m m' : Nat} {v : Value} {xs xs' : List Value} (h : w.ownsRow B 5 1 v m xs) (hm : m = m') (hx : xs = xs') : w.ownsRow B 5 1 v m' xs' := by
  subst hm
  subst hx
  exact h
/-- bytes that the call owns -/
def OwnBs (w : World) (B : Nat) (v : Value) (l : List UInt8) : Prop := w.ownsRow B 5 1 v l.length (byteCells l)
theorem OwnBs.app {w' : World} {B m : Nat} {v : Value} {a b : List UInt8} (h : w'.ownsRow B 5 1 v (a.length + m) (byteCells a ++ byteCells b)) (hm : m = b.length) : OwnBs w' B v (a ++ b) := by
  subst hm
  unfold OwnBs
  rw [List.length_append, byteCells_app]
  exact h
set_option maxRecDepth 100000 in
set_option maxHeartbeats 3200000 in
theorem refPack_any (A : Option Addr) (n ca C : Nat) (l : List Chg) (w : World) (h : HasChs w C A n l) (hC : C ≤ w.heap.size) (hn : n ≤ 1200) (hs : ∀ x ∈ l, x.k.size ≤ 4000 ∧ x.v.size ≤ 4000) :
    Calls Try.prog 64 #[.slice A n ca] w (PackPost w.heap.size l w) := by
  have Hw := Lib.hid (refRight_any A n ca C l w h (by unfold maxLen; omega) hC)
  have H := Lib.hid h
  have HC := Lib.hid hC
  have Hs := Lib.hid hs
  have Hl := Lib.hid h.1
  clear h hC hs
  by_cases hr : Run l
  · have Hr := Lib.hid hr
    rw [runB_true hr] at Hw
    clear hr
    have Hbl : Hid (∀ k, (bodyL (l.take k)).length ≤ 10800000) := Lib.hid fun k => by
      have h1 := bodyL_le (l := l.take k) fun x hx => Hs.out x (List.mem_of_mem_take hx)
      rw [List.length_take, Hl.out] at h1
      omega
    have Hnl : Hid ((numForm n).length ≤ 9) := Lib.hid (numForm_len9 (by omega))
    go_enter Try.func64, Try.ntmps64
    go_wp2_with fail
    refine Hw.out.mono ?_
    rintro e w1 ⟨rfl, hb1⟩
    have Hb1 := Lib.hid hb1
    clear hb1
    go_wp2_with fail
    refine (refPutNum_any (n : Int) w1 (by omega)).mono ?_
    rintro e w2 ⟨v2, rfl, ho2, hb2⟩
    rw [if_neg (by omega), Int.toNat_natCast] at ho2
    have Ho2 : Hid (OwnBs w2 w.heap.size v2 (numForm n ++ bodyL (l.take 0))) := Lib.hid (by simp [bodyL]; exact own_base ho2 Hb1.out.size)
    have Hb2 := Lib.hid (Hb1.out.trans (hb2.mono Hb1.out.size))
    clear ho2 hb2
    go_wp2
    go_loopw [4, 5] (fun o i wr => ∃ k : Nat, k ≤ n ∧ i = .int .i64 (k : Int) ∧ OwnBs wr w.heap.size o (numForm n ++ bodyL (l.take k)) ∧ Below w.heap.size w wr) (fun _ i _ => n - (intOf i).toNat)
    case atStart => exact ⟨0, by omega, rfl, Ho2.out, Hb2.out⟩
    case round =>
      clear Ho2 Hb2
      obtain ⟨k, hk, rfl, ho, hb⟩ := hrel
      have Ho := Lib.hid ho
      have Hb := Lib.hid hb
      have hsz := hb.size
      clear hb ho
      by_cases hlt : k < n
      · obtain ⟨a, y, rfl, hab, hy, c0, c1, c2⟩ := (H.out.belowOf Hb.out HC.out).at_ hlt
        have Hbs := Lib.hid (bodyL_succ hy)
        have hys := Hs.out y (List.mem_of_getElem? hy)
        have Hy := Lib.hid hy
        have Hlen : Hid ((numForm n ++ bodyL (l.take k)).length ≤ 10800009) := Lib.hid (by rw [List.length_append]; have := Hbl.out k; have := Hnl.out; omega)
        clear hy
        obtain ⟨yk, yv, yg⟩ := y
        simp only at c0 c1 c2 hys Hbs
        have hlk := textForm_le (s := yk.data.toList) (by rw [← Lib.size_eq]; exact hys.1)
        have hlv := textForm_le (s := yv.data.toList) (by rw [← Lib.size_eq]; exact hys.2)
        cases yg with
        | false =>
          go_wp2_with fail
          refine (refPutText_any yk wr (by omega)).mono ?_
          rintro e w3 ⟨v3, rfl, o3, b3⟩
          obtain ⟨A3, m3, rfl, -, -, x3⟩ := own_slice o3
          have X3 := Lib.hid x3
          have Ho3 := Lib.hid (own_below Ho.out b3)
          have Hb3 := Lib.hid (Hb.out.trans (b3.mono hsz))
          have hsz3 : w.heap.size ≤ w3.heap.size := Nat.le_trans hsz b3.size
          have Hr3 := Lib.hid (b3.mono hsz)
          clear o3 x3 b3
          have Hpost4 : Hid (∀ v4 w4, w4.ownsRow w.heap.size 5 1 v4 ((numForm n ++ bodyL (l.take k)).length + (textForm yk.data.toList).length) (byteCells (numForm n ++ bodyL (l.take k)) ++ byteCells (textForm yk.data.toList)) → w3.grownBy w4 _ →
              OwnBs w4 w.heap.size v4 ((numForm n ++ bodyL (l.take k)) ++ textForm yk.data.toList) ∧ Below w.heap.size w w4 ∧ w.heap.size ≤ w4.heap.size ∧ w4.cell? ⟨(a.add (k * 3)).block, (a.add (k * 3)).off + 2, none⟩ = some (.bool false) ∧ w4.cell? ⟨(a.add (k * 3)).block, (a.add (k * 3)).off + 1, none⟩ = some (.string yv)) := Lib.hid fun v4 w4 o4 g4 => by
            have hbB : Below w.heap.size w3 w4 := (Below.refl _ _).grown g4 hsz3 fun g e => (Ho3.out.lt g e).1
            exact ⟨OwnBs.app o4 rfl, Hb3.out.trans hbB, (Hb3.out.trans hbB).size, ((Hr3.out.trans hbB).cell (p := ⟨(a.add (k * 3)).block, (a.add (k * 3)).off + 2, none⟩) (by show (a.add (k * 3)).block < _; rw [addr_block]; exact Nat.lt_of_lt_of_le hab HC.out)).trans c2, ((Hr3.out.trans hbB).cell (p := ⟨(a.add (k * 3)).block, (a.add (k * 3)).off + 1, none⟩) (by show (a.add (k * 3)).block < _; rw [addr_block]; exact Nat.lt_of_lt_of_le hab HC.out)).trans c1⟩
          have Hlen4 : Hid (((numForm n ++ bodyL (l.take k)) ++ textForm yk.data.toList).length ≤ 10805000) := Lib.hid (by rw [List.length_append]; have := Hlen.out; omega)
          clear c0 c1 c2
          go_wp2_with (first
            | (at_builtin; refine wpList_append_has rfl (.tmp 18) (.tmp 24) _ rfl 5 u8_elem Try.underlying63 rfl Ho3.out rfl X3.out (byteCells_one _) (by have := Hlen.out; simp only [maxLen]; omega) (by have := Hlen.out; omega) hsz3 ?_; intro v4 w4 o4 g4 _; obtain ⟨ho4, hb4, hsz4, hcg, hcv⟩ := Hpost4.out v4 w4 o4 g4; have Ho4 := Lib.hid ho4; have Hb4 := Lib.hid hb4; clear ho4 hb4; have hszL : w.heap.size ≤ (w4.alloc (Obj.cells #[.int .u8 0] 5)).heap.size := (by simp only [World.size_alloc]; omega))
            | (at_builtin; refine wpList_append_has rfl (.tmp 34) (.tmp 35) _ rfl 5 u8_elem Try.underlying63 rfl (own_below Ho4.out (below_box (Obj.cells #[.int .u8 0] 5))) rfl (Has.lit w4 #[.int .u8 0] 5) (fun u hu => by simp at hu; subst hu; rfl) (by have := Hlen4.out; simp only [maxLen]; omega) (by have := Hlen4.out; omega) hszL ?_; intro v5 w5 o5 g5 _; have hbA : Below w.heap.size w4 w5 := ((Below.refl _ w4).alloc hsz4 (Obj.cells #[.int .u8 0] 5)).trans ((Below.refl _ _).grown g5 hszL fun g e => (Ho4.out.lt g e).1); have hcv5 : w5.cell? ⟨(a.add (k * 3)).block, (a.add (k * 3)).off + 1, none⟩ = some (.string yv) := (hbA.cell (p := ⟨(a.add (k * 3)).block, (a.add (k * 3)).off + 1, none⟩) (by show (a.add (k * 3)).block < _; rw [addr_block]; exact Nat.lt_of_lt_of_le hab HC.out)).trans hcv))
          have Ho5 : Hid (OwnBs w5 w.heap.size v5 ((numForm n ++ bodyL (l.take k)) ++ textForm yk.data.toList ++ [0])) := Lib.hid (OwnBs.app (b := [0]) (m := 1) o5 rfl)
          have Hb5 := Lib.hid (Hb4.out.trans hbA)
          have hsz5 : w.heap.size ≤ w5.heap.size := Hb5.out.size
          clear o5 g5 hbA
          refine (refPutText_any yv w5 (by omega)).mono ?_
          rintro e w6 ⟨v6, rfl, o6, b6⟩
          obtain ⟨A6, m6, rfl, -, -, x6⟩ := own_slice o6
          have X6 := Lib.hid x6
          have Ho6 := Lib.hid (own_below Ho5.out b6)
          have Hb6 := Lib.hid (Hb5.out.trans (b6.mono hsz5))
          have hsz6 : w.heap.size ≤ w6.heap.size := Nat.le_trans hsz5 b6.size
          have Hlen6 : Hid (((numForm n ++ bodyL (l.take k)) ++ textForm yk.data.toList ++ [0]).length ≤ 10810000) := Lib.hid (by rw [List.length_append]; have := Hlen4.out; simp only [List.length_cons, List.length_nil]; omega)
          clear o6 x6 b6
          go_wp2_with (at_builtin; refine wpList_append_has rfl (.tmp 37) (.tmp 43) _ rfl 5 u8_elem Try.underlying63 rfl Ho6.out rfl X6.out (byteCells_one _) (by have := Hlen6.out; simp only [maxLen]; omega) (by have := Hlen6.out; omega) hsz6 ?_; intro v7 w7 o7 g7 _)
          have Ho7 : Hid (OwnBs w7 w.heap.size v7 (numForm n ++ bodyL (l.take (k + 1)))) := Lib.hid (by
            have h1 := OwnBs.app (a := (numForm n ++ bodyL (l.take k)) ++ textForm yk.data.toList ++ [0]) (b := textForm yv.data.toList) o7 rfl
            rw [Hbs.out]
            simpa [List.append_assoc] using h1)
          have Hb7 := Lib.hid (Hb6.out.trans ((Below.refl _ _).grown g7 hsz6 fun g e => (Ho6.out.lt g e).1))
          clear o7 g7
          go_wp2
          go_roundw
          case rel => exact ⟨k + 1, by omega, by go_num, Ho7.out, Hb7.out⟩
          case measure => simp [intOf]; omega
        | true =>
          go_wp2_with fail
          refine (refPutText_any yk wr (by omega)).mono ?_
          rintro e w3 ⟨v3, rfl, o3, b3⟩
          obtain ⟨A3, m3, rfl, -, -, x3⟩ := own_slice o3
          have X3 := Lib.hid x3
          have Ho3 := Lib.hid (own_below Ho.out b3)
          have Hb3 := Lib.hid (Hb.out.trans (b3.mono hsz))
          have hsz3 : w.heap.size ≤ w3.heap.size := Nat.le_trans hsz b3.size
          have Hr3 := Lib.hid (b3.mono hsz)
          clear o3 x3 b3
          have Hpost4 : Hid (∀ v4 w4, w4.ownsRow w.heap.size 5 1 v4 ((numForm n ++ bodyL (l.take k)).length + (textForm yk.data.toList).length) (byteCells (numForm n ++ bodyL (l.take k)) ++ byteCells (textForm yk.data.toList)) → w3.grownBy w4 _ →
              OwnBs w4 w.heap.size v4 ((numForm n ++ bodyL (l.take k)) ++ textForm yk.data.toList) ∧ Below w.heap.size w w4 ∧ w.heap.size ≤ w4.heap.size ∧ w4.cell? ⟨(a.add (k * 3)).block, (a.add (k * 3)).off + 2, none⟩ = some (.bool true) ∧ w4.cell? ⟨(a.add (k * 3)).block, (a.add (k * 3)).off + 1, none⟩ = some (.string yv)) := Lib.hid fun v4 w4 o4 g4 => by
            have hbB : Below w.heap.size w3 w4 := (Below.refl _ _).grown g4 hsz3 fun g e => (Ho3.out.lt g e).1
            exact ⟨OwnBs.app o4 rfl, Hb3.out.trans hbB, (Hb3.out.trans hbB).size, ((Hr3.out.trans hbB).cell (p := ⟨(a.add (k * 3)).block, (a.add (k * 3)).off + 2, none⟩) (by show (a.add (k * 3)).block < _; rw [addr_block]; exact Nat.lt_of_lt_of_le hab HC.out)).trans c2, ((Hr3.out.trans hbB).cell (p := ⟨(a.add (k * 3)).block, (a.add (k * 3)).off + 1, none⟩) (by show (a.add (k * 3)).block < _; rw [addr_block]; exact Nat.lt_of_lt_of_le hab HC.out)).trans c1⟩
          have Hlen4 : Hid (((numForm n ++ bodyL (l.take k)) ++ textForm yk.data.toList).length ≤ 10805000) := Lib.hid (by rw [List.length_append]; have := Hlen.out; omega)
          clear c0 c1 c2
          go_wp2_with (first
            | (at_builtin; refine wpList_append_has rfl (.tmp 18) (.tmp 24) _ rfl 5 u8_elem Try.underlying63 rfl Ho3.out rfl X3.out (byteCells_one _) (by have := Hlen.out; simp only [maxLen]; omega) (by have := Hlen.out; omega) hsz3 ?_; intro v4 w4 o4 g4 _; obtain ⟨ho4, hb4, hsz4, hcg, hcv⟩ := Hpost4.out v4 w4 o4 g4; have Ho4 := Lib.hid ho4; have Hb4 := Lib.hid hb4; clear ho4 hb4; have hszL : w.heap.size ≤ (w4.alloc (Obj.cells #[.int .u8 1] 5)).heap.size := (by simp only [World.size_alloc]; omega))
            | (at_builtin; refine wpList_append_has rfl (.tmp 31) (.tmp 32) _ rfl 5 u8_elem Try.underlying63 rfl (own_below Ho4.out (below_box (Obj.cells #[.int .u8 1] 5))) rfl (Has.lit w4 #[.int .u8 1] 5) (fun u hu => by simp at hu; subst hu; rfl) (by have := Hlen4.out; simp only [maxLen]; omega) (by have := Hlen4.out; omega) hszL ?_; intro v5 w5 o5 g5 _; have hbA : Below w.heap.size w4 w5 := ((Below.refl _ w4).alloc hsz4 (Obj.cells #[.int .u8 1] 5)).trans ((Below.refl _ _).grown g5 hszL fun g e => (Ho4.out.lt g e).1); have hcv5 : w5.cell? ⟨(a.add (k * 3)).block, (a.add (k * 3)).off + 1, none⟩ = some (.string yv) := (hbA.cell (p := ⟨(a.add (k * 3)).block, (a.add (k * 3)).off + 1, none⟩) (by show (a.add (k * 3)).block < _; rw [addr_block]; exact Nat.lt_of_lt_of_le hab HC.out)).trans hcv))
          have Ho5 : Hid (OwnBs w5 w.heap.size v5 ((numForm n ++ bodyL (l.take k)) ++ textForm yk.data.toList ++ [1])) := Lib.hid (OwnBs.app (b := [1]) (m := 1) o5 rfl)
          have Hb5 := Lib.hid (Hb4.out.trans hbA)
          have hsz5 : w.heap.size ≤ w5.heap.size := Hb5.out.size
          clear o5 g5 hbA
          refine (refPutText_any yv w5 (by omega)).mono ?_
          rintro e w6 ⟨v6, rfl, o6, b6⟩
          obtain ⟨A6, m6, rfl, -, -, x6⟩ := own_slice o6
          have X6 := Lib.hid x6
          have Ho6 := Lib.hid (own_below Ho5.out b6)
          have Hb6 := Lib.hid (Hb5.out.trans (b6.mono hsz5))
          have hsz6 : w.heap.size ≤ w6.heap.size := Nat.le_trans hsz5 b6.size
          have Hlen6 : Hid (((numForm n ++ bodyL (l.take k)) ++ textForm yk.data.toList ++ [1]).length ≤ 10810000) := Lib.hid (by rw [List.length_append]; have := Hlen4.out; simp only [List.length_cons, List.length_nil]; omega)
          clear o6 x6 b6
          go_wp2_with (at_builtin; refine wpList_append_has rfl (.tmp 37) (.tmp 43) _ rfl 5 u8_elem Try.underlying63 rfl Ho6.out rfl X6.out (byteCells_one _) (by have := Hlen6.out; simp only [maxLen]; omega) (by have := Hlen6.out; omega) hsz6 ?_; intro v7 w7 o7 g7 _)
          have Ho7 : Hid (OwnBs w7 w.heap.size v7 (numForm n ++ bodyL (l.take (k + 1)))) := Lib.hid (by
            have h1 := OwnBs.app (a := (numForm n ++ bodyL (l.take k)) ++ textForm yk.data.toList ++ [1]) (b := textForm yv.data.toList) o7 rfl
            rw [Hbs.out]
            simpa [List.append_assoc] using h1)
          have Hb7 := Lib.hid (Hb6.out.trans ((Below.refl _ _).grown g7 hsz6 fun g e => (Ho6.out.lt g e).1))
          clear o7 g7
          go_wp2
          go_roundw
          case rel => exact ⟨k + 1, by omega, by go_num, Ho7.out, Hb7.out⟩
          case measure => simp [intOf]; omega
      · obtain rfl : k = n := by omega
        have E : Hid (l.take k = l) := Lib.hid (List.take_of_length_le (by have := Hl.out; omega))
        have HE : Hid (numForm k ++ bodyL (l.take k) = packL l) := Lib.hid (by rw [E.out]; unfold packL; rw [Hl.out])
        rw [HE.out] at Ho
        go_wp2
        go_ret2
        exact ⟨Hb.out, .inl ⟨Hr.out, _, rfl, Ho.out⟩⟩
  · have Hr := Lib.hid hr
    rw [runB_false hr] at Hw
    clear hr
    go_enter Try.func64, Try.ntmps64
    go_wp2_with fail
    refine Hw.out.mono ?_
    rintro e w1 ⟨rfl, hb1⟩
    have Hb1 := Lib.hid hb1
    clear hb1
    go_wp2
    go_ret2
    exact ⟨Hb1.out, .inr ⟨Hr.out, rfl⟩⟩
end Go.Proofs.Ytlacpnokcabeoaa

namespace Go.Proofs.Ytlacpnokcabeoaa
open Go.RowKit
open Go.Lib (strCells compareBytes)

theorem box5 {w wz : World} {a b c d e : Value} {t : TypeId} (hb : Below (w.heap.size + 1) (w.alloc (.cells #[a, b, c, d, e] t)) wz) :
    wz.cell? ⟨w.heap.size, 0, none⟩ = some a ∧ wz.cell? ⟨w.heap.size, 1, none⟩ = some b ∧ wz.cell? ⟨w.heap.size, 2, none⟩ = some c ∧ wz.cell? ⟨w.heap.size, 3, none⟩ = some d ∧ wz.cell? ⟨w.heap.size, 4, none⟩ = some e := by
  have hx := (Box.made w t #[a, b, c, d, e]).below hb (by simp)
  exact ⟨hx.cell 0, hx.cell 1, hx.cell 2, hx.cell 3, hx.cell 4⟩
set_option maxRecDepth 100000 in
set_option maxHeartbeats 6400000 in
theorem refUnpack_any (A : Option Addr) (n c C : Nat) (b : List UInt8) (w : World) (h : HasBytes w C A n b) (hC : C ≤ w.heap.size) (hn : n ≤ 1000000) (hnc : n ≤ c) :
    Calls Try.prog 40 #[.slice A n c] w (UnpackPost (unpackT b) w) := by
  obtain ⟨⟨x, u, ne⟩, hnn⟩ : ∃ r, getNum b 0 = r := ⟨_, rfl⟩
  have Hn := Lib.hid (refNum_any A n c C 0 b w h hC (by omega))
  rw [hnn] at Hn
  simp only [got] at Hn
  have HN := Lib.hid hnn
  have H := Lib.hid h
  have HC := Lib.hid hC
  have Hl := Lib.hid h.len
  have Hnum := Lib.hid (fun (p : Nat) wx (hx : Below w.heap.size w wx) => refNum_any A n c C (p : Int) b wx (Has.belowOf h hx hC) (Nat.le_trans hC hx.size) (by omega))
  have Htxt := Lib.hid (fun (p : Nat) wx (hx : Below w.heap.size w wx) => refText_any A n c C (p : Int) 9223372036854775807 b wx (Has.belowOf h hx hC) (Nat.le_trans hC hx.size) (by omega) hnc)
  have hbd : ne = 0 → x < 9223372036854775808 ∧ u ≤ n := fun e => by
    have := getNum_bound (l := b) (p := 0) (by rw [hnn]; exact e)
    rw [hnn, h.len] at this
    exact ⟨this.2.1, this.2.2.2⟩
  clear h hC hnn
  by_cases h1 : ne = 0
  · subst h1
    obtain ⟨hx, hu⟩ := hbd rfl
    have Hub := Lib.hid hu
    clear hbd hu
    go_enter Try.func40, Try.ntmps40
    go_wp2_with fail
    refine Hn.out.mono ?_
    rintro e w1 ⟨rfl, hb1⟩
    have Hb1 := Lib.hid hb1
    clear hb1
    go_wp2
    go_loopw [5, 6, 7, 8, 9, 10] (fun av o iv _ _ _ wr => ∃ (i q : Nat) (acc : List Chg), iv = .int .i64 (i : Int) ∧ av = .int .i64 (q : Int) ∧ Hid (i ≤ x) ∧ OwnChs wr (w1.heap.size + 1) o acc ∧ Hid (readC b i u = (0, acc, q)) ∧ Below (w1.heap.size + 1) (w1.alloc (Obj.cells #[.int .i64 (x : Int), .string ⟨#[]⟩, .slice none 0 0, .int .i64 (u : Int), .int .i64 (0 : Int)] 99)) wr) (fun _ _ iv _ _ _ _ => x - (intOf iv).toNat)
    case atStart => exact ⟨0, u, [], rfl, rfl, Lib.hid (by omega), OwnChs.nil _ _, Lib.hid rfl, Below.refl _ _⟩
    case round =>
      obtain ⟨i, q, acc, rfl, rfl, Hi, ho, Hrd, hb⟩ := hrel
      have Ho := Lib.hid ho
      have Hb := Lib.hid hb
      have hsz : w1.heap.size + 1 ≤ wr.heap.size := by have := hb.size; simpa using this
      obtain ⟨z0, -, -, -, -⟩ := box5 hb
      have hok := readC_ok (b := b) (m := i) (p := u) (by rw [Hrd.out]) (by rw [Hl.out]; exact Hub.out)
      rw [Hrd.out, Hl.out] at hok
      obtain ⟨k1, k2, k3, k4, -⟩ := hok
      simp only at k1 k2 k3 k4
      have Hwr := Lib.hid (Hb1.out.trans ((below_in hb (Nat.le_refl _)).mono Hb1.out.size))
      have hwsz : w.heap.size ≤ w1.heap.size := Hb1.out.size
      clear ho hb k1
      by_cases hlt : i < x
      · obtain ⟨⟨ts, tq, te⟩, ht⟩ : ∃ r, getText b q 9223372036854775807 = r := ⟨_, rfl⟩
        have Ht := Lib.hid (Htxt.out q wr Hwr.out)
        rw [ht] at Ht
        simp only [got] at Ht
        have HT := Lib.hid ht
        have hi63 : i < 4000000 := by omega
        clear ht
        by_cases h1 : te = 0
        · subst h1
          go_wp2_with fail
          refine Ht.out.mono ?_
          rintro e w2 ⟨rfl, hb2⟩
          have Hw2 := Lib.hid (Hwr.out.trans (hb2.mono Hwr.out.size))
          have hsz2 : wr.heap.size ≤ w2.heap.size := hb2.size
          have Hr2 := Lib.hid hb2
          have Hw3 := Lib.hid (Hw2.out.alloc Hw2.out.size (Obj.cells #[.int .i64 (0 : Int), .string ⟨ts.toArray⟩, .slice none 0 0, .int .i64 (tq : Int), .int .i64 (0 : Int)] 99))
          clear hb2
          obtain ⟨⟨nx, nu, ge⟩, hg⟩ : ∃ r, getNum b tq = r := ⟨_, rfl⟩
          have Hg := Lib.hid (Hnum.out tq _ Hw3.out)
          rw [hg] at Hg
          simp only [got] at Hg
          have HG := Lib.hid hg
          clear hg
          by_cases h2 : ge = 0
          · subst h2
            go_wp2_with fail
            refine Hg.out.mono ?_
            rintro e w4 ⟨rfl, hb4⟩
            have hb4' : Below (w2.heap.size + 1) (w2.alloc (Obj.cells #[.int .i64 (0 : Int), .string ⟨ts.toArray⟩, .slice none 0 0, .int .i64 (tq : Int), .int .i64 (0 : Int)] 99)) w4 := by simpa using hb4
            have Hk4 := Lib.hid hb4'
            have Hw4 := Lib.hid (Hw3.out.trans (hb4.mono Hw3.out.size))
            have hsz4 : w2.heap.size + 1 ≤ w4.heap.size := by have := hb4'.size; simpa using this
            have Hw5 := Lib.hid (Hw4.out.alloc Hw4.out.size (Obj.cells #[.int .i64 (nx : Int), .string ⟨#[]⟩, .slice none 0 0, .int .i64 (nu : Int), .int .i64 (0 : Int)] 99))
            clear hb4
            by_cases h3 : 1 < nx
            · have E := Lib.hid (unpackT_e2 HN.out (readC_err Hrd.out hlt (by rw [getChg_e3 HT.out HG.out h3]; simp)) (by rw [getChg_e3 HT.out HG.out h3]; simp))
              rw [getChg_e3 HT.out HG.out h3] at E
              clear hb4'
              go_wp2
              go_ret2
              exact ⟨_, by rw [E.out]; rfl, by rw [E.out]; exact OwnChs.nil _ _, Hw5.out⟩
            · obtain ⟨⟨vs, vq, ve⟩, hv⟩ : ∃ r, getText b nu 9223372036854775807 = r := ⟨_, rfl⟩
              have Hv := Lib.hid (Htxt.out nu _ Hw5.out)
              rw [hv] at Hv
              simp only [got] at Hv
              have HV := Lib.hid hv
              clear hv hb4'
              by_cases h4 : ve = 0
              · subst h4
                have Hc5 := Lib.hid (getChg_e5 HT.out HG.out h3 HV.out)
                have Hrd1 := Lib.hid (readC_step Hrd.out (by rw [Hc5.out]))
                rw [Hc5.out] at Hrd1
                have hx01 : nx = 0 ∨ nx = 1 := by omega
                clear h3
                rcases hx01 with rfl | rfl
                · go_wp2_with fail
                  refine Hv.out.mono ?_
                  rintro e w6 ⟨rfl, hb6⟩
                  have hb6' : Below (w4.heap.size + 1) (w4.alloc (Obj.cells #[.int .i64 (0 : Int), .string ⟨#[]⟩, .slice none 0 0, .int .i64 (nu : Int), .int .i64 (0 : Int)] 99)) w6 := by simpa using hb6
                  have Hw6 := Lib.hid (Hw5.out.trans (hb6.mono Hw5.out.size))
                  have hsz6 : w4.heap.size + 1 ≤ w6.heap.size := by have := hb6'.size; simpa using this
                  have hk7 : Below (w2.heap.size + 1) (w2.alloc (Obj.cells #[.int .i64 (0 : Int), .string ⟨ts.toArray⟩, .slice none 0 0, .int .i64 (tq : Int), .int .i64 (0 : Int)] 99)) (w6.alloc (Obj.cells #[.int .i64 (0 : Int), .string ⟨vs.toArray⟩, .slice none 0 0, .int .i64 (vq : Int), .int .i64 (0 : Int)] 99)) := (Hk4.out.trans ((((Below.refl _ w4).alloc (Nat.le_refl _) _).trans (hb6'.mono (by omega))).mono hsz4)).alloc (by omega) _
                  have hg7 : Below (w4.heap.size + 1) (w4.alloc (Obj.cells #[.int .i64 (0 : Int), .string ⟨#[]⟩, .slice none 0 0, .int .i64 (nu : Int), .int .i64 (0 : Int)] 99)) (w6.alloc (Obj.cells #[.int .i64 (0 : Int), .string ⟨vs.toArray⟩, .slice none 0 0, .int .i64 (vq : Int), .int .i64 (0 : Int)] 99)) := hb6'.alloc (by omega) _
                  obtain ⟨-, t1, -, -, -⟩ := box5 hk7
                  obtain ⟨g0, -, -, -, -⟩ := box5 hg7
                  have hr7 : Below wr.heap.size wr (w6.alloc (Obj.cells #[.int .i64 (0 : Int), .string ⟨vs.toArray⟩, .slice none 0 0, .int .i64 (vq : Int), .int .i64 (0 : Int)] 99)) := (Hr2.out.trans ((((Below.refl _ w2).alloc (Nat.le_refl _) (Obj.cells #[.int .i64 (0 : Int), .string ⟨ts.toArray⟩, .slice none 0 0, .int .i64 (tq : Int), .int .i64 (0 : Int)] 99)).trans (hk7.mono (by omega))).mono hsz2))
                  have Ho7 := Lib.hid (Ho.out.below hr7)
                  have Hb7 : Hid (Below (w1.heap.size + 1) (w1.alloc (Obj.cells #[.int .i64 (x : Int), .string ⟨#[]⟩, .slice none 0 0, .int .i64 (u : Int), .int .i64 (0 : Int)] 99)) (w6.alloc (Obj.cells #[.int .i64 (0 : Int), .string ⟨vs.toArray⟩, .slice none 0 0, .int .i64 (vq : Int), .int .i64 (0 : Int)] 99))) := Lib.hid (Hb.out.trans (hr7.mono hsz))
                  have hsz7 : w1.heap.size + 1 ≤ (w6.alloc (Obj.cells #[.int .i64 (0 : Int), .string ⟨vs.toArray⟩, .slice none 0 0, .int .i64 (vq : Int), .int .i64 (0 : Int)] 99)).heap.size := Nat.le_trans hsz hr7.size
                  have Hvb : Hid (Box (w6.alloc (Obj.cells #[.int .i64 (0 : Int), .string ⟨vs.toArray⟩, .slice none 0 0, .int .i64 (vq : Int), .int .i64 (0 : Int)] 99)) w6.heap.size 99 #[.int .i64 (0 : Int), .string ⟨vs.toArray⟩, .slice none 0 0, .int .i64 (vq : Int), .int .i64 (0 : Int)]) := Lib.hid (Box.made _ _ _)
                  have hszA : w1.heap.size + 1 ≤ ((w6.alloc (Obj.cells #[.int .i64 (0 : Int), .string ⟨vs.toArray⟩, .slice none 0 0, .int .i64 (vq : Int), .int .i64 (0 : Int)] 99)).alloc (Obj.cells #[.string ⟨ts.toArray⟩, .string ⟨vs.toArray⟩, .bool false] 38)).heap.size := by simp only [World.size_alloc] at hsz7 ⊢; omega
                  clear hb6 hb6' hk7 hg7 hr7
                  have Hlit : Hid (Has ((w6.alloc (Obj.cells #[.int .i64 (0 : Int), .string ⟨vs.toArray⟩, .slice none 0 0, .int .i64 (vq : Int), .int .i64 (0 : Int)] 99)).alloc (Obj.cells #[.string ⟨ts.toArray⟩, .string ⟨vs.toArray⟩, .bool false] 38)) (w6.heap.size + 1 + 1) (some ⟨w6.heap.size + 1, 0, none⟩) (1 * 3) (chgCells [⟨⟨ts.toArray⟩, ⟨vs.toArray⟩, false⟩])) := Lib.hid (by have h := chg_lit (w6.alloc (Obj.cells #[.int .i64 (0 : Int), .string ⟨vs.toArray⟩, .slice none 0 0, .int .i64 (vq : Int), .int .i64 (0 : Int)] 99)) ⟨⟨ts.toArray⟩, ⟨vs.toArray⟩, false⟩; simp only [World.size_alloc] at h; exact h)
                  go_wp2_with (at_builtin; refine wpList_append_hasN rfl (.tmp 55) (.tmp 64) _ rfl 38 chg_elem (by omega) Try.underlying22 rfl (own_drawn Ho7.out 0 _) rfl Hlit.out (chgCells_one _) (by simp only [maxLen]; omega) (by omega) hszA ?_; intro v8 w8 hown8 hg8 _; have hvn := ((Hvb.out.alloc (Obj.cells #[.string ⟨ts.toArray⟩, .string ⟨vs.toArray⟩, .bool false] 38)).grown hg8 (fun e => (by obtain ⟨cur, hc⟩ := own_typeP Ho7.out e.symm; have hbv := Hvb.out; unfold Box at hbv; rw [hbv] at hc; injection hc with hc; injection hc with _ hc _; exact absurd hc (by decide)))).cell 3)
                  have Hb8 := Lib.hid (below_app (k := 0) Hb7.out Ho7.out hg8 hsz7)
                  have Hown8 : Hid (OwnChs w8 (w1.heap.size + 1) v8 (acc ++ [⟨⟨ts.toArray⟩, ⟨vs.toArray⟩, false⟩])) := Lib.hid (by unfold OwnChs; rw [List.length_append, chgCells_app]; exact hown8)
                  clear hg8 hown8
                  go_wp2
                  go_roundw
                  case rel => exact ⟨i + 1, vq, _, by go_num, rfl, Lib.hid (by omega), Hown8.out, Hrd1, Hb8.out⟩
                  case measure => simp [intOf]; omega
                · go_wp2_with fail
                  refine Hv.out.mono ?_
                  rintro e w6 ⟨rfl, hb6⟩
                  have hb6' : Below (w4.heap.size + 1) (w4.alloc (Obj.cells #[.int .i64 (1 : Int), .string ⟨#[]⟩, .slice none 0 0, .int .i64 (nu : Int), .int .i64 (0 : Int)] 99)) w6 := by simpa using hb6
                  have Hw6 := Lib.hid (Hw5.out.trans (hb6.mono Hw5.out.size))
                  have hsz6 : w4.heap.size + 1 ≤ w6.heap.size := by have := hb6'.size; simpa using this
                  have hk7 : Below (w2.heap.size + 1) (w2.alloc (Obj.cells #[.int .i64 (0 : Int), .string ⟨ts.toArray⟩, .slice none 0 0, .int .i64 (tq : Int), .int .i64 (0 : Int)] 99)) (w6.alloc (Obj.cells #[.int .i64 (0 : Int), .string ⟨vs.toArray⟩, .slice none 0 0, .int .i64 (vq : Int), .int .i64 (0 : Int)] 99)) := (Hk4.out.trans ((((Below.refl _ w4).alloc (Nat.le_refl _) _).trans (hb6'.mono (by omega))).mono hsz4)).alloc (by omega) _
                  have hg7 : Below (w4.heap.size + 1) (w4.alloc (Obj.cells #[.int .i64 (1 : Int), .string ⟨#[]⟩, .slice none 0 0, .int .i64 (nu : Int), .int .i64 (0 : Int)] 99)) (w6.alloc (Obj.cells #[.int .i64 (0 : Int), .string ⟨vs.toArray⟩, .slice none 0 0, .int .i64 (vq : Int), .int .i64 (0 : Int)] 99)) := hb6'.alloc (by omega) _
                  obtain ⟨-, t1, -, -, -⟩ := box5 hk7
                  obtain ⟨g0, -, -, -, -⟩ := box5 hg7
                  have hr7 : Below wr.heap.size wr (w6.alloc (Obj.cells #[.int .i64 (0 : Int), .string ⟨vs.toArray⟩, .slice none 0 0, .int .i64 (vq : Int), .int .i64 (0 : Int)] 99)) := (Hr2.out.trans ((((Below.refl _ w2).alloc (Nat.le_refl _) (Obj.cells #[.int .i64 (0 : Int), .string ⟨ts.toArray⟩, .slice none 0 0, .int .i64 (tq : Int), .int .i64 (0 : Int)] 99)).trans (hk7.mono (by omega))).mono hsz2))
                  have Ho7 := Lib.hid (Ho.out.below hr7)
                  have Hb7 : Hid (Below (w1.heap.size + 1) (w1.alloc (Obj.cells #[.int .i64 (x : Int), .string ⟨#[]⟩, .slice none 0 0, .int .i64 (u : Int), .int .i64 (0 : Int)] 99)) (w6.alloc (Obj.cells #[.int .i64 (0 : Int), .string ⟨vs.toArray⟩, .slice none 0 0, .int .i64 (vq : Int), .int .i64 (0 : Int)] 99))) := Lib.hid (Hb.out.trans (hr7.mono hsz))
                  have hsz7 : w1.heap.size + 1 ≤ (w6.alloc (Obj.cells #[.int .i64 (0 : Int), .string ⟨vs.toArray⟩, .slice none 0 0, .int .i64 (vq : Int), .int .i64 (0 : Int)] 99)).heap.size := Nat.le_trans hsz hr7.size
                  have Hvb : Hid (Box (w6.alloc (Obj.cells #[.int .i64 (0 : Int), .string ⟨vs.toArray⟩, .slice none 0 0, .int .i64 (vq : Int), .int .i64 (0 : Int)] 99)) w6.heap.size 99 #[.int .i64 (0 : Int), .string ⟨vs.toArray⟩, .slice none 0 0, .int .i64 (vq : Int), .int .i64 (0 : Int)]) := Lib.hid (Box.made _ _ _)
                  have hszA : w1.heap.size + 1 ≤ ((w6.alloc (Obj.cells #[.int .i64 (0 : Int), .string ⟨vs.toArray⟩, .slice none 0 0, .int .i64 (vq : Int), .int .i64 (0 : Int)] 99)).alloc (Obj.cells #[.string ⟨ts.toArray⟩, .string ⟨vs.toArray⟩, .bool true] 38)).heap.size := by simp only [World.size_alloc] at hsz7 ⊢; omega
                  clear hb6 hb6' hk7 hg7 hr7
                  have Hlit : Hid (Has ((w6.alloc (Obj.cells #[.int .i64 (0 : Int), .string ⟨vs.toArray⟩, .slice none 0 0, .int .i64 (vq : Int), .int .i64 (0 : Int)] 99)).alloc (Obj.cells #[.string ⟨ts.toArray⟩, .string ⟨vs.toArray⟩, .bool true] 38)) (w6.heap.size + 1 + 1) (some ⟨w6.heap.size + 1, 0, none⟩) (1 * 3) (chgCells [⟨⟨ts.toArray⟩, ⟨vs.toArray⟩, true⟩])) := Lib.hid (by have h := chg_lit (w6.alloc (Obj.cells #[.int .i64 (0 : Int), .string ⟨vs.toArray⟩, .slice none 0 0, .int .i64 (vq : Int), .int .i64 (0 : Int)] 99)) ⟨⟨ts.toArray⟩, ⟨vs.toArray⟩, true⟩; simp only [World.size_alloc] at h; exact h)
                  go_wp2_with (at_builtin; refine wpList_append_hasN rfl (.tmp 55) (.tmp 64) _ rfl 38 chg_elem (by omega) Try.underlying22 rfl (own_drawn Ho7.out 0 _) rfl Hlit.out (chgCells_one _) (by simp only [maxLen]; omega) (by omega) hszA ?_; intro v8 w8 hown8 hg8 _; have hvn := ((Hvb.out.alloc (Obj.cells #[.string ⟨ts.toArray⟩, .string ⟨vs.toArray⟩, .bool true] 38)).grown hg8 (fun e => (by obtain ⟨cur, hc⟩ := own_typeP Ho7.out e.symm; have hbv := Hvb.out; unfold Box at hbv; rw [hbv] at hc; injection hc with hc; injection hc with _ hc _; exact absurd hc (by decide)))).cell 3)
                  have Hb8 := Lib.hid (below_app (k := 0) Hb7.out Ho7.out hg8 hsz7)
                  have Hown8 : Hid (OwnChs w8 (w1.heap.size + 1) v8 (acc ++ [⟨⟨ts.toArray⟩, ⟨vs.toArray⟩, true⟩])) := Lib.hid (by unfold OwnChs; rw [List.length_append, chgCells_app]; exact hown8)
                  clear hg8 hown8
                  go_wp2
                  go_roundw
                  case rel => exact ⟨i + 1, vq, _, by go_num, rfl, Lib.hid (by omega), Hown8.out, Hrd1, Hb8.out⟩
                  case measure => simp [intOf]; omega
              · have heb : ((ve : Int) != 0) = true := by simpa using h4
                have E := Lib.hid (unpackT_e2 HN.out (readC_err Hrd.out hlt (by rw [getChg_e4 HT.out HG.out h3 HV.out h4]; exact h4)) (by rw [getChg_e4 HT.out HG.out h3 HV.out h4]; exact h4))
                rw [getChg_e4 HT.out HG.out h3 HV.out h4] at E
                clear h4
                go_wp2_with fail
                refine Hv.out.mono ?_
                rintro e w6 ⟨rfl, hb6⟩
                have Hw6 := Lib.hid (Hw5.out.trans (hb6.mono Hw5.out.size))
                have Hw7 := Lib.hid (Hw6.out.alloc Hw6.out.size (Obj.cells #[.int .i64 (0 : Int), .string ⟨vs.toArray⟩, .slice none 0 0, .int .i64 (vq : Int), .int .i64 (ve : Int)] 99))
                clear hb6
                go_wp2
                go_quiet (fail)
                go_wp2
                go_ret2
                exact ⟨_, by rw [E.out]; rfl, by rw [E.out]; exact OwnChs.nil _ _, below_dr Hw7.out _⟩
          · have heb : ((ge : Int) != 0) = true := by simpa using h2
            have E := Lib.hid (unpackT_e2 HN.out (readC_err Hrd.out hlt (by rw [getChg_e2 HT.out HG.out h2]; exact h2)) (by rw [getChg_e2 HT.out HG.out h2]; exact h2))
            rw [getChg_e2 HT.out HG.out h2] at E
            clear h2
            go_wp2_with fail
            refine Hg.out.mono ?_
            rintro e w4 ⟨rfl, hb4⟩
            have Hw4 := Lib.hid (Hw3.out.trans (hb4.mono Hw3.out.size))
            have Hw5 := Lib.hid (Hw4.out.alloc Hw4.out.size (Obj.cells #[.int .i64 (nx : Int), .string ⟨#[]⟩, .slice none 0 0, .int .i64 (nu : Int), .int .i64 (ge : Int)] 99))
            clear hb4
            go_wp2
            go_quiet (fail)
            go_wp2
            go_ret2
            exact ⟨_, by rw [E.out]; rfl, by rw [E.out]; exact OwnChs.nil _ _, below_dr Hw5.out _⟩
        · have heb : ((te : Int) != 0) = true := by simpa using h1
          have E := Lib.hid (unpackT_e2 HN.out (readC_err Hrd.out hlt (by rw [getChg_e1 HT.out h1]; exact h1)) (by rw [getChg_e1 HT.out h1]; exact h1))
          rw [getChg_e1 HT.out h1] at E
          clear h1
          go_wp2_with fail
          refine Ht.out.mono ?_
          rintro e w2 ⟨rfl, hb2⟩
          have Hw2 := Lib.hid (Hwr.out.trans (hb2.mono Hwr.out.size))
          have Hw3 := Lib.hid (Hw2.out.alloc Hw2.out.size (Obj.cells #[.int .i64 (0 : Int), .string ⟨ts.toArray⟩, .slice none 0 0, .int .i64 (tq : Int), .int .i64 (te : Int)] 99))
          clear hb2
          go_wp2
          go_quiet (fail)
          go_wp2
          go_ret2
          exact ⟨_, by rw [E.out]; rfl, by rw [E.out]; exact OwnChs.nil _ _, below_dr Hw3.out _⟩
      · obtain rfl : i = x := by have := Hi.out; omega
        by_cases hq : q = n
        · obtain ⟨Ao, co, rfl, -, -, hv⟩ := Ho.out.slice
          have Hw := Lib.hid (refRight_any Ao acc.length co wr.heap.size acc wr hv (by unfold maxLen; omega) (Nat.le_refl _))
          rw [k3] at Hw
          subst hq
          clear hv
          by_cases hrun : Run acc
          · have E := Lib.hid (unpackT_ok HN.out Hrd.out ⟨Hl.out.symm, hrun⟩)
            rw [runB_true hrun] at Hw
            clear hrun
            go_wp2_with fail
            refine Hw.out.mono ?_
            rintro e w2 ⟨rfl, hb2⟩
            have Hb2 := Lib.hid (Hwr.out.trans (hb2.mono Hwr.out.size))
            have Ho2 := Lib.hid (Ho.out.below hb2)
            rw [k3] at Ho2
            clear hb2
            go_wp2
            go_ret2
            exact ⟨_, by rw [E.out]; rfl, by rw [E.out]; exact own_baseN Ho2.out (by omega), Hb2.out⟩
          · have E := Lib.hid (unpackT_e3 HN.out Hrd.out (fun e => hrun e.2))
            rw [runB_false hrun] at Hw
            clear hrun
            go_wp2_with fail
            refine Hw.out.mono ?_
            rintro e w2 ⟨rfl, hb2⟩
            have Hb2 := Lib.hid (Hwr.out.trans (hb2.mono Hwr.out.size))
            clear hb2
            go_wp2
            go_ret2
            exact ⟨_, by rw [E.out]; rfl, by rw [E.out]; exact OwnChs.nil _ _, Hb2.out⟩
        · have hqb : ((q : Int) != (n : Int)) = true := by simp; omega
          have E := Lib.hid (unpackT_e3 HN.out Hrd.out (fun e => by have h1 := Hl.out; have h2 := e.1; omega))
          clear hq
          go_wp2
          go_ret2
          exact ⟨_, by rw [E.out]; rfl, by rw [E.out]; exact OwnChs.nil _ _, Hwr.out⟩
  · have h1b : ((ne : Int) != 0) = true := by simpa using h1
    have E := Lib.hid (unpackT_e1 HN.out h1)
    clear h1 hbd
    go_enter Try.func40, Try.ntmps40
    go_wp2_with fail
    refine Hn.out.mono ?_
    rintro e w1 ⟨rfl, hb1⟩
    have Hb1 := Lib.hid (hb1.alloc hb1.size (Obj.cells #[.int .i64 (x : Int), .string ⟨#[]⟩, .slice none 0 0, .int .i64 (u : Int), .int .i64 (ne : Int)] 99))
    clear hb1
    go_wp2
    go_quiet (fail)
    go_wp2
    go_ret2
    exact ⟨_, by rw [E.out]; rfl, by rw [E.out]; exact OwnChs.nil _ _, below_dr Hb1.out _⟩
end Go.Proofs.Ytlacpnokcabeoaa

namespace Go.Proofs.Ytlacpnokcabeoaa
open Go.RowKit
open Go.Lib (strCells compareBytes)

theorem keep10 {wr wx w' : World} (h : Below wr.heap.size wr wx) (hb : Below wx.heap.size wx w') : Below wr.heap.size wr w' := h.trans (hb.mono h.size)
theorem slice_all10 (M : List Chg) : sliceL [] [] M = M := List.filter_eq_self.2 fun c _ => by simp [inR]
theorem live_all {M : List Chg} (h : ∀ c ∈ M, c.g = false) : livesL M = M.map prOf := by
  unfold livesL liveL
  rw [List.filter_eq_self.2 fun c hc => by simp [h c hc]]
set_option maxRecDepth 100000 in
set_option maxHeartbeats 6400000 in
theorem same_any {w : World} {e b H N c : Nat} {A : Option Addr} {lim pairs : Int} {tv rv : Value} {T : List Chg} {rs : Crs} {M : List Chg} (h : EngAt w e lim pairs tv rv T rs) (hp : EngP H lim pairs T (crLists rs)) (hH : H ≤ 9000) (hM : absL (T :: crLists rs) = M)
    (hbx : Box w b 44 #[.slice A N c]) (hr : HasChs w w.heap.size A N M) :
    Calls Try.prog 33 #[.pointer (some ⟨e, 0, none⟩), .pointer (some ⟨b, 0, none⟩)] w fun e' w' => e' = .returned (.bool true) ∧ Below w.heap.size w w' := by
  have hlt := hbx.lt
  have hPP : PairsP H M := hM ▸ PairsP.of hp
  have hlen : M.length ≤ 9000 := Nat.le_trans hPP.len hH
  have hpl : pairs = (N : Int) := by rw [hp.num, hM, hr.1]
  have hN9 : N ≤ 9000 := by rw [← hr.1]; exact hlen
  obtain ⟨P, hP⟩ : ∃ P, M.map prOf = P := ⟨_, rfl⟩
  have hPl : P.length ≤ 9000 := by rw [← hP, List.length_map]; exact hlen
  have HLen : Hid (∀ wx, Below w.heap.size w wx → _) := Lib.hid fun wx (hx : Below w.heap.size w wx) => len_eng (h.below hx)
  have HRan : Hid (∀ wx, Below w.heap.size w wx → Calls Try.prog 31 #[.pointer (some ⟨e, 0, none⟩), .agg #[.string ⟨#[]⟩, .string ⟨#[]⟩], .int .i64 1099511627776] wx (RangePost P wx)) := Lib.hid fun wx hx => by
    have h1 := engRange_any (h.below hx) hp hH ⟨#[]⟩ ⟨#[]⟩ 1099511627776
    rw [hM] at h1
    have e1 : ((sliceL (⟨#[]⟩ : ByteArray).data.toList (⟨#[]⟩ : ByteArray).data.toList M).map prOf).take (1099511627776 : Int).toNat = P := by
      have e2 : sliceL (⟨#[]⟩ : ByteArray).data.toList (⟨#[]⟩ : ByteArray).data.toList M = M := slice_all10 M
      rw [e2, hP]
      exact List.take_of_length_le (by omega)
    rw [e1] at h1
    exact h1
  have HLiv : Hid (∀ wx, Below w.heap.size w wx → Calls Try.prog 61 #[.slice A N c] wx (GivesP wx.heap.size P wx)) := Lib.hid fun wx hx => by
    have h1 := refLive_any A N c w.heap.size M wx (hr.belowOf hx (Nat.le_refl _)) hx.size hN9
    rw [livesT_run hPP.run, live_all hPP.live, hP] at h1
    exact h1
  have HK : Hid (∀ wx, Below w.heap.size w wx → wx.cell? ⟨b, 0, none⟩ = some (.slice A N c) ∧ Below w.heap.size w wx) := Lib.hid fun wx hx => ⟨(hbx.below hx hlt).cell 0, hx⟩
  rw [hpl] at HLen
  have d0 := (HK.out w (Below.refl _ _)).1
  clear h hp hM hbx hr hP hPP hlen hpl
  go_enter Try.func33, Try.ntmps33
  go_wp2
  go_region_held3 (fun wx => wx.cell? ⟨b, 0, none⟩ = some (.slice A N c) ∧ Below w.heap.size w wx)
    (first | exact HK.out _ (Below.refl _ _).drew | exact HK.out _ (keep10 (And.right (by assumption)) b1) | exact HK.out _ (keep10 (And.right (by assumption)) b2) | exact HK.out _ (keep10 (And.right (by assumption)) b3) | exact HK.out _ (keep10 (And.right (by assumption)) b4))
    (first
      | (go_at_call 42; refine (HLen.out _ (And.right (by assumption))).mono ?_; rintro e1 w11 ⟨rfl, b1⟩)
      | (go_at_call 31; refine (HRan.out _ (And.right (by assumption))).mono ?_; rintro e1 w12 ⟨v2, rfl, o2, b2⟩; obtain ⟨A2, c2, rfl, -, -, x2⟩ := o2.slice)
      | (go_at_call 61; refine (HLiv.out _ (And.right (by assumption))).mono ?_; rintro e1 w13 ⟨v3, rfl, o3, b3⟩; obtain ⟨A3, c3, rfl, -, -, x3⟩ := o3.slice; have x2' : HasPrs w13 w12.heap.size A2 P.length P := ⟨x2.1, x2.2.belowOf b3 (Nat.le_refl _)⟩)
      | (go_at_call 30; refine (samePairs_any A2 A3 P.length c2 c3 _ _ P w13 x2' x3 (by unfold maxLen; omega)).mono ?_; rintro e1 w14 ⟨rfl, b4⟩))
  all_goals
    have HE : Hid (Below w.heap.size w w14) := Lib.hid (And.right (by assumption))
    go_wp2
    go_ret
    exact ⟨rfl, HE.out⟩
set_option maxRecDepth 100000 in
theorem refExport_any {w : World} {b N c : Nat} {A : Option Addr} {M : List Chg} (hbx : Box w b 44 #[.slice A N c]) (hr : HasChs w w.heap.size A N M) (hR : Run M) (hN : N ≤ 1200) (hs : ∀ x ∈ M, x.k.size ≤ 4000 ∧ x.v.size ≤ 4000) :
    Calls Try.prog 38 #[.pointer (some ⟨b, 0, none⟩)] w fun e' w' => ∃ v, e' = .returned v ∧ w'.ownsRow w.heap.size 5 1 v (packL M).length (byteCells (packL M)) ∧ Below w.heap.size w w' := by
  have Hp := Lib.hid (refPack_any A N c w.heap.size M w hr (Nat.le_refl _) hN hs)
  have HR := Lib.hid hR
  have d0 : w.cell? ⟨b, 0, none⟩ = some (.slice A N c) := hbx.cell 0
  clear hbx hr hR hs
  go_enter Try.func38, Try.ntmps38
  go_wp2_with fail
  refine Hp.out.mono ?_
  rintro e1 w1 ⟨hb, hc⟩
  obtain ⟨v, rfl, ho⟩ : ∃ v, e1 = .returned (.tuple #[v, .int .i64 0]) ∧ w1.ownsRow w.heap.size 5 1 v (packL M).length (byteCells (packL M)) := by
    rcases hc with ⟨-, h1⟩ | ⟨h1, -⟩
    · exact h1
    · exact absurd HR.out h1
  have HO := Lib.hid (And.intro ho hb)
  clear hc ho hb
  go_wp2
  go_ret
  exact ⟨v, rfl, HO.out.1, HO.out.2⟩

end Go.Proofs.Ytlacpnokcabeoaa

namespace Go.Proofs.Ytlacpnokcabeoaa
open Go.RowKit
open Go.Lib (strCells compareBytes)

theorem goneI_any (c : Chg) (w : World) : Calls Try.prog 67 #[cagg c] w fun e w' => e = .returned (.bool c.g) ∧ Below w.heap.size w w' := by
  obtain ⟨ck, cv, cg⟩ := c
  unfold cagg
  go_enter Try.func67, Try.ntmps67
  go_wp2
  go_ret
  exact ⟨rfl, below_box _⟩
set_option maxRecDepth 100000 in
set_option maxHeartbeats 1600000 in
theorem indexGoneI_any (A : Option Addr) (n c C : Nat) (l : List Chg) (w : World) (h : HasChs w C A n l) (hC : C ≤ w.heap.size) (hn : n ≤ 1000000) :
    Calls Try.prog 92 #[.slice A n c, .func (.func 67) #[] #[]] w (GoneAt l w) := by
  have H := Lib.hid h
  have Hl := Lib.hid h.1
  have Hc := Lib.hid goneI_any
  unfold cagg at Hc
  clear h
  go_enter Try.func92, Try.ntmps92
  go_wp2
  go_loopw [5, 8] (fun _ iv wr => ∃ k : Nat, k ≤ n ∧ iv = .int .i64 (k : Int) ∧ Hid (∀ c ∈ l.take k, c.g = false) ∧ Below w.heap.size w wr) (fun _ iv _ => n - (intOf iv).toNat)
  case atStart => exact ⟨0, by omega, rfl, Lib.hid (by simp), Below.refl _ _⟩
  case round =>
    obtain ⟨k, hk, rfl, Hp, hb⟩ := hrel
    have Hb := Lib.hid hb
    have hsz := hb.size
    clear hb
    by_cases hlt : k < n
    · obtain ⟨a, y, rfl, hab, hy, c0, c1, c2⟩ := (H.out.belowOf Hb.out hC).at_ hlt
      have Hy := Lib.hid hy
      have hk0 : (0 : Int) ≤ (k : Int) := by omega
      have hk1 : (k : Int) < (n : Int) := by omega
      obtain ⟨yk, yv, yg⟩ := y
      have Hc1 := Lib.hid (fun wx => Hc.out ⟨yk, yv, yg⟩ wx)
      simp only at c0 c1 c2 Hc1
      clear hy
      cases yg with
      | false =>
        have Hp1 : Hid (∀ c ∈ l.take (k + 1), c.g = false) := Lib.hid (by
          rw [List.take_add_one, Hy.out]
          intro x hx
          rcases List.mem_append.1 hx with hx | hx
          · exact Hp.out x hx
          · simp at hx; subst hx; rfl)
        go_wp2_with fail
        refine (Hc1.out _).mono ?_
        rintro e w2 ⟨rfl, hb2⟩
        have Hb2 := Lib.hid (Hb.out.trans (hb2.mono hsz))
        clear hb2
        go_wp2
        go_roundw
        case rel => exact ⟨k + 1, by omega, by go_num, Hp1, Hb2.out⟩
        case measure => simp [intOf]; omega
      | true =>
        go_wp2_with fail
        refine (Hc1.out _).mono ?_
        rintro e w2 ⟨rfl, hb2⟩
        have Hb2 := Lib.hid (Hb.out.trans (hb2.mono hsz))
        clear hb2
        go_wp2
        go_ret
        exact ⟨Hb2.out, .inr ⟨k, _, rfl, Hy.out, rfl, Hp.out⟩⟩
    · have E : Hid (∀ c ∈ l, c.g = false) := Lib.hid (by have h1 := Hp.out; rwa [List.take_of_length_le (by have := Hl.out; omega)] at h1)
      obtain rfl : k = n := by omega
      go_wp2
      go_ret
      exact ⟨Hb.out, .inl ⟨rfl, E.out⟩⟩
def anyGone (l : List Chg) : Bool := l.any (·.g)
theorem anyGone_false {l : List Chg} (h : ∀ c ∈ l, c.g = false) : anyGone l = false := by
  unfold anyGone
  rw [List.any_eq_false]
  intro x hx
  rw [h x hx]
  exact Bool.false_ne_true
set_option maxRecDepth 100000 in
theorem containsGone_any (A : Option Addr) (n c C : Nat) (l : List Chg) (w : World) (h : HasChs w C A n l) (hC : C ≤ w.heap.size) (hn : n ≤ 1000000) :
    Calls Try.prog 66 #[.slice A n c, .func (.func 67) #[] #[]] w fun e w' => e = .returned (.bool (anyGone l)) ∧ Below w.heap.size w w' := by
  have Hi := Lib.hid (indexGoneI_any A n c C l w h hC hn)
  obtain ⟨r, hr⟩ : ∃ r, anyGone l = r := ⟨_, rfl⟩
  have Hr := Lib.hid hr
  rw [hr]
  clear h hC hr
  go_enter Try.func66, Try.ntmps66
  go_wp2_with fail
  refine Hi.out.mono ?_
  rintro e w1 ⟨hb, ⟨rfl, hl⟩ | ⟨i, y, rfl, hi, hy, -⟩⟩
  · have hrr : r = false := Hr.out ▸ anyGone_false hl
    have Hb := Lib.hid hb
    subst hrr
    clear hb hl
    go_wp2
    go_ret
    exact ⟨rfl, Hb.out⟩
  · have hrr : r = true := by
      rw [← Hr.out]
      unfold anyGone
      rw [List.any_eq_true]
      exact ⟨y, List.mem_of_getElem? hi, hy⟩
    have Hb := Lib.hid hb
    have h0 : (0 : Int) ≤ (i : Int) := by omega
    subst hrr
    clear hb hi hy
    go_wp2
    go_ret
    exact ⟨rfl, Hb.out⟩
/-- what Import answers -/
def ImportPost (lim : Int) (r : Nat × List Chg) (w : World) (e' : Ending) (w' : World) : Prop :=
  Below w.heap.size w w' ∧ ((r.1 ≠ 0 ∧ e' = .returned (.tuple #[.pointer none, .int .i64 (r.1 : Int)])) ∨ (r.1 = 0 ∧ anyGone r.2 = true ∧ e' = .returned (.tuple #[.pointer none, .int .i64 3])) ∨
    (r.1 = 0 ∧ anyGone r.2 = false ∧ ∃ e rv v, e' = .returned (.tuple #[.pointer (some ⟨e, 0, none⟩), .int .i64 0]) ∧ w.heap.size ≤ e ∧ EngAt w' e lim (r.2.length : Int) (.slice none 0 0) rv [] (aloneR v r.2) ∧
      (∀ g, rv.ownBlock = some g → w.heap.size ≤ g) ∧ (∀ g, v.ownBlock = some g → w.heap.size ≤ g)))
set_option maxRecDepth 100000 in
set_option maxHeartbeats 1600000 in
theorem import_any (A : Option Addr) (n c C : Nat) (limit lim : Int) (b : List UInt8) (w : World) (h : HasBytes w C A n b) (hC : C ≤ w.heap.size) (hn : n ≤ 1000000) (hnc : n ≤ c) (hl : (if limit < 1 then 1 else limit) = lim) (hlen : (unpackT b).2.length ≤ 1000000) :
    Calls Try.prog 39 #[.slice A n c, .int .i64 limit] w (ImportPost lim (unpackT b) w) := by
  have Hu := Lib.hid (unpack_any A n c C b w h hC hn hnc)
  have Hm := Lib.hid (fun A n c l wx (h : HasChs wx wx.heap.size A n l) (hnc : n ≤ c) (hcm : c ≤ maxLen) (hk : KindOf wx (.slice A n c) 38) => made_any A n c l limit lim wx h hnc hcm hk hl)
  obtain ⟨⟨ne, L⟩, hr⟩ : ∃ r, unpackT b = r := ⟨_, rfl⟩
  rw [hr] at Hu hlen ⊢
  simp only at hlen
  clear h hC hr hnc hn hl
  by_cases h0 : ne = 0
  · subst h0
    go_enter Try.func39, Try.ntmps39
    go_wp2_with fail
    refine Hu.out.mono ?_
    rintro e w1 ⟨v, rfl, ho, hb⟩
    have Hk := Lib.hid (own_kind ho)
    have Hlt := Lib.hid (fun g hg => (ho.lt g hg).1)
    obtain ⟨A1, c1, rfl, h1, h2, h3⟩ := ho.slice
    have H3 := Lib.hid h3
    have Hb := Lib.hid hb
    have Hc := Lib.hid (containsGone_any A1 L.length c1 _ L w1 h3 (Nat.le_refl _) hlen)
    obtain ⟨r, hr⟩ : ∃ r, anyGone L = r := ⟨_, rfl⟩
    have Hr := Lib.hid hr
    rw [hr] at Hc
    obtain ⟨N, hN⟩ : ∃ N, L.length = N := ⟨_, rfl⟩
    have HN := Lib.hid hN
    rw [hN] at h1 H3 Hk Hc Hlt hlen ⊢
    clear ho h3 hb Hu hr hN
    have H12 := Lib.hid (And.intro h1 h2)
    clear h1 h2
    go_wp2_with fail
    refine Hc.out.mono ?_
    rintro e w2 ⟨rfl, hb2⟩
    have Hb2 := Lib.hid (Hb.out.trans (hb2.mono Hb.out.size))
    have Hmd := Lib.hid (Hm.out A1 N c1 L w2 ((H3.out.belowOf hb2 (Nat.le_refl _)).more hb2.size) H12.out.1 H12.out.2 (Hk.out.below hb2))
    clear hb2 Hm Hc H3 Hk
    cases r with
    | true =>
      go_wp2
      go_ret2
      exact ⟨Hb2.out, .inr (.inl ⟨rfl, Hr.out, rfl⟩)⟩
    | false =>
      go_wp2_with fail
      refine Hmd.out.mono ?_
      rintro e' w3 ⟨e, rv, rfl, he, hE, hrv, hb3⟩
      have HE := Lib.hid (And.intro hE hrv)
      have Hb3 := Lib.hid (Hb2.out.trans (hb3.mono Hb2.out.size))
      have hsz := Hb2.out.size
      clear hE hrv hb3 Hmd
      go_wp2
      go_ret2
      have hE := HE.out.1
      rw [HN.out] at hE
      exact ⟨Hb3.out, .inr (.inr ⟨rfl, Hr.out, e, rv, _, rfl, by omega, by simpa [HN.out] using HE.out.1, fun g hg => Nat.le_trans hsz (HE.out.2 g hg), Hlt.out⟩)⟩
  · have h0' : ((ne : Int) == 0) = false := by simpa using h0
    go_enter Try.func39, Try.ntmps39
    go_wp2_with fail
    refine Hu.out.mono ?_
    rintro e w1 ⟨v, rfl, -, hb⟩
    have Hb := Lib.hid hb
    clear hb Hu Hm
    go_wp2
    go_ret2
    exact ⟨Hb.out, .inl ⟨h0, rfl⟩⟩
end Go.Proofs.Ytlacpnokcabeoaa

namespace Go.Proofs.Ytlacpnokcabeoaa
open Go.RowKit
open Go.Lib (strCells compareBytes)

theorem bodyL_mem10 : ∀ {l : List Chg} {x : Chg}, x ∈ l → x.k.size ≤ (bodyL l).length ∧ x.v.size ≤ (bodyL l).length
  | [], _, h => by simp at h
  | c :: l, x, h => by
    have hc : c.k.size ≤ (chgForm c).length ∧ c.v.size ≤ (chgForm c).length := by
      simp only [chgForm, textForm, List.length_append, Lib.size_eq]
      omega
    simp only [bodyL, List.length_append]
    rcases List.mem_cons.1 h with rfl | h
    · omega
    · have := bodyL_mem10 h
      omega
theorem bodyL_many10 (l : List Chg) : l.length ≤ (bodyL l).length := by
  induction l with
  | nil => simp
  | cons c l ih =>
    have h5 : (numForm (goneN c.g)).length = 1 := by rw [goneN_one]; rfl
    simp only [bodyL, chgForm, List.length_append, List.length_cons]
    omega
theorem unpackT_small10 {b : List UInt8} {l : List Chg} (h : unpackT b = (0, l)) (hb : b.length ≤ 4000) : l.length ≤ 4000 ∧ (∀ x ∈ l, x.k.size ≤ 4000 ∧ x.v.size ≤ 4000) := by
  obtain ⟨h1, h2⟩ := unpack_pack h
  have hl : (bodyL l).length ≤ 4000 := by
    have := congrArg List.length h1
    simp only [packL, List.length_append] at this
    omega
  refine ⟨Nat.le_trans (bodyL_many10 l) hl, fun x hx => ?_⟩
  have := bodyL_mem10 hx
  omega
theorem unpackT_len10 (b : List UInt8) : (unpackT b).2.length ≤ b.length := by
  by_cases h : (unpackT b).1 = 0
  · have h1 := (unpack_pack (b := b) (l := (unpackT b).2) (by rw [← h])).1
    have h2 := bodyL_many10 (unpackT b).2
    have := congrArg List.length h1
    simp only [packL, List.length_append] at this
    omega
  · have : (unpackT b).2 = [] := by
      unfold unpackT at h ⊢
      simp only at h ⊢
      split
      · rfl
      · rename_i h1
        split
        · rfl
        · rename_i h2
          split
          · rename_i h3
            exfalso
            apply h
            rw [if_neg h1, if_neg h2, if_pos h3]
          · rfl
    rw [this]
    simp

def szL (l : List Chg) : Nat := (l.map fun c => c.k.size + c.v.size).sum
theorem sz_cons (c : Chg) (l : List Chg) : szL (c :: l) = (c.k.size + c.v.size) + szL l := by simp [szL]
theorem sz_app (a b : List Chg) : szL (a ++ b) = szL a + szL b := by simp [szL]
theorem sz_light {most : Nat} {l : List Chg} (h : LightC most l) : szL l ≤ 4000 := by
  have e : szL l = tot l := by
    unfold szL tot
    congr 1
    refine List.map_congr_left fun c hc => ?_
    have := h.mem hc
    unfold msz
    omega
  rw [e]
  exact h.2
theorem sz_mapP (c : Chg) : ∀ (M : List Chg), szL (mapP c M) ≤ szL M + (c.k.size + c.v.size)
  | [] => by unfold mapP; split <;> simp [szL]
  | y :: M => by
    have := sz_mapP c M
    unfold mapP
    split
    · rw [sz_cons, sz_cons]; omega
    · split <;> split <;> (simp only [sz_cons]; try omega)
theorem sz_mapAll : ∀ (l M : List Chg), szL (mapAll l M) ≤ szL M + szL l
  | [], M => by simp [mapAll, szL]
  | c :: l, M => by
    have h1 := sz_mapAll l (mapP c M)
    have h2 := sz_mapP c M
    show szL (mapAll l (mapP c M)) ≤ _
    rw [sz_cons]
    omega
theorem sz_flat : ∀ {L : List (List Chg)}, (∀ l ∈ L, szL l ≤ 4000) → szL L.flatten ≤ 4000 * L.length
  | [], _ => by simp [szL]
  | l :: L, h => by
    have h1 := h l (by simp)
    have h2 := sz_flat (L := L) fun x hx => h x (by simp [hx])
    rw [List.flatten_cons, sz_app, List.length_cons]
    omega
theorem body_sz : ∀ {l : List Chg}, (∀ x ∈ l, x.k.size ≤ 4000 ∧ x.v.size ≤ 4000) → (bodyL l).length ≤ szL l + 19 * l.length
  | [], _ => by simp [bodyL]
  | c :: l, h => by
    have h1 := h c (by simp)
    have h2 := body_sz (l := l) fun x hx => h x (by simp [hx])
    have h5 : (numForm (goneN c.g)).length = 1 := by rw [goneN_one]; rfl
    have h6 := numForm_len9 (k := c.k.data.toList.length) (by rw [← Lib.size_eq]; omega)
    have h7 := numForm_len9 (k := c.v.data.toList.length) (by rw [← Lib.size_eq]; omega)
    simp only [bodyL, chgForm, textForm, List.length_append, List.length_cons, sz_cons]
    rw [Lib.size_eq, Lib.size_eq]
    omega
theorem pack_sz {L : List (List Chg)} {M : List Chg} (hM : M = mapAll L.flatten []) (hL : L.length ≤ 40 ∧ ∀ l ∈ L, LightC 30 l) (hn : M.length ≤ 1200) (hs : ∀ x ∈ M, x.k.size ≤ 4000 ∧ x.v.size ≤ 4000) : (packL M).length ≤ 1000000 := by
  have h1 := body_sz hs
  have h2 := numForm_len9 (k := M.length) (by omega)
  have h3 := sz_mapAll L.flatten []
  have h4 := sz_flat (L := L) fun l hl => sz_light (hL.2 l hl)
  rw [← hM] at h3
  have h5 : szL [] = 0 := rfl
  have := hL.1
  simp only [packL, List.length_append]
  omega
end Go.Proofs.Ytlacpnokcabeoaa

namespace Go.Proofs.Ytlacpnokcabeoaa
open Go.RowKit
open Go.Lib (strCells compareBytes)

theorem crs_more {w : World} {B C n : Nat} {A : Option Addr} {rs : Crs} (h : HasCrs w B A n rs) (hB : B ≤ C) : HasCrs w C A n rs :=
  ⟨h.1.more hB, fun r hr => by
    obtain ⟨A', m, c, e, h1, h2, h3⟩ := h.2 r hr
    exact ⟨A', m, c, e, h1, h2, h3.more hB⟩⟩
/-- an engine that Import made -/
theorem import_eng {H : Nat} {lim : Int} {u : List Chg} (v : Value) (h : PairsP H u) (h1 : 1 ≤ lim) : EngP H lim (u.length : Int) [] (crLists (aloneR v u)) ∧ absL ([] :: crLists (aloneR v u)) = u := by
  rw [aloneR_lists]
  exact ⟨h.eng h1, abs_alone h.run h.live⟩
set_option maxRecDepth 100000 in
set_option maxHeartbeats 12800000 in
theorem exports_walk (A D : Option Addr) (n ca m cb : Nat) (limit : Int) (rs : Crs) (b : List UInt8) (w : World) (h : HasCrs w w.heap.size A n rs) (hnc : n ≤ ca) (hm : ca ≤ maxLen) (hs : ∀ l ∈ crLists rs, ∀ u ∈ l, u.k.size ≤ maxLen ∧ u.v.size ≤ maxLen)
    (h' : HasBytes w w.heap.size D m b) (hn' : m ≤ cb) :
    Calls Try.prog 8 #[.slice A n ca, .int .i64 limit, .slice D m cb] w fun e w' => e = .returned (.bool true) ∧ Below w.heap.size w w' := by
  have H := Lib.hid h
  have H' := Lib.hid h'
  have Hl' := Lib.hid h'.len
  have Hlt := Lib.hid (fun wx (hx : Below w.heap.size w wx) => light10_any A n ca w.heap.size rs wx (h.belowOf hx (Nat.le_refl _)) (by omega) hs)
  obtain ⟨lim, hlim⟩ : ∃ lim, (if limit < 1 then 1 else limit) = lim := ⟨_, rfl⟩
  have Hlim := Lib.hid hlim
  have Hlim1 : Hid (1 ≤ lim) := Lib.hid (by rw [← hlim]; split <;> omega)
  clear h h' hs hm hlim
  go_enter Try.func8, Try.ntmps8
  go_wp2_with fail
  refine (engAwake_any w).mono ?_
  rintro e w1 ⟨rfl, hb1⟩
  have Hb1 := Lib.hid hb1
  have Hlt1 := Lib.hid (Hlt.out w1 hb1)
  clear hb1 Hlt
  go_wp2_with fail
  refine Hlt1.out.mono ?_
  rintro e w2 ⟨bl, rfl, hbl, q, rfl⟩
  have Hb2 := Lib.hid (below_dr Hb1.out q)
  have Hbl := Lib.hid hbl
  clear hbl Hlt1
  generalize w1.drewN q = w2 at *
  have hsz2 : w.heap.size ≤ w2.heap.size := Hb2.out.size
  cases bl with
  | false =>
    go_wp2
    go_ret
    exact ⟨rfl, Hb2.out⟩
  | true =>
    have HL := Lib.hid (Hbl.out rfl)
    clear Hbl
    by_cases hk1 : 4000 < m
    · go_wp2
      go_ret
      exact ⟨rfl, Hb2.out⟩
    · have Hf := Lib.hid (filled_any A n ca rs limit lim w2 (crs_more (H.out.belowOf Hb2.out (Nat.le_refl _)) hsz2) HL.out Hlim.out Hlim1.out)
      go_wp2_with fail
      refine Hf.out.mono ?_
      rintro e' w6 ⟨e, bm, rfl, hEM⟩
      have hb6 := Hb2.out.trans (hEM.below.mono hsz2)
      have hMl := hEM.len
      obtain ⟨M, hM⟩ : ∃ M, mapAll (crLists rs).flatten [] = M := ⟨_, rfl⟩
      rw [hM] at hEM hMl
      obtain ⟨pairs, tv, rv, T, rse, mv, hE, hP, hMx, hmap, -⟩ := hEM
      have hPP : PairsP 1200 M := hMx ▸ PairsP.of hP
      obtain ⟨Am, cm, rfl, -, -, hxm⟩ := hmap.row.slice
      obtain ⟨NM, hNM⟩ : ∃ NM, M.length = NM := ⟨_, rfl⟩
      have hbox := hmap.box
      rw [hNM] at hxm hbox hMl
      have hZl : (packL M).length ≤ 1000000 := pack_sz hM.symm HL.out (by omega) hPP.small
      obtain ⟨Z, hZ⟩ : ∃ Z, packL M = Z := ⟨_, rfl⟩
      obtain ⟨N, hN⟩ : ∃ N, Z.length = N := ⟨_, rfl⟩
      have XA := Lib.hid (fun wx (hx : Below w6.heap.size w6 wx) => export_any (hE.below hx) hP (by omega))
      have XB := Lib.hid (fun wx (hx : Below w6.heap.size w6 wx) => refExport_any (hbox.below hx hbox.lt) (hxm.belowOf hx (Nat.le_refl _) |>.more hx.size) hPP.run hMl hPP.small)
      have SA := Lib.hid (fun wx (hx : Below w6.heap.size w6 wx) x li pa tv2 rv2 T2 rs2 (g1 : EngAt wx x li pa tv2 rv2 T2 rs2) (g2 : EngP 1200 li pa T2 (crLists rs2)) (g3 : absL (T2 :: crLists rs2) = M) => same_any g1 g2 (by omega) g3 (hbox.below hx hbox.lt) (hxm.belowOf hx (Nat.le_refl _) |>.more hx.size))
      have HPK : Hid (unpackT Z = (0, M)) := Lib.hid (by rw [← hZ]; exact pack_unpack (by omega) (fun c hc => by have := hPP.small c hc; rw [← Lib.size_eq, ← Lib.size_eq]; omega) hPP.run)
      rw [hMx] at XA
      rw [hZ, hN] at XA XB
      rw [hZ, hN] at hZl
      have HPP := Lib.hid hPP
      have Hb6 := Lib.hid hb6
      have HNM := Lib.hid hNM
      have hsz6 : w.heap.size ≤ w6.heap.size := hb6.size
      clear hE hP hMx hmap hxm hbox hZ hN hM hPP hb6 hNM Hf
      go_wp2
      refine wp_region_held_drew (S := fun _ => True) (by kernel_rfl) trivial (fun hHeld => ?_)
      refine wpAnyH_take (i := 0) (oi := ⟨some 31, _, _, _, _, _⟩) (v := (.pointer (some ⟨e, 0, none⟩))) rfl (by kernel_rfl) (by kernel_rfl) (by kernel_rfl) (fun _ _ _ h => h) (Or.inl ⟨by rfl, ?_⟩) (by assumption) ?_
      · intro w hSw; (try dsimp only at hSw); go_simp
      simp only [Act.put, List.setIfInBounds_toArray, List.set_cons_zero, List.set_cons_succ]
      refine wpAnyH_take (i := 1) (oi := ⟨some 32, _, _, _, _, _⟩) (v := (.bool false)) rfl (by kernel_rfl) (by kernel_rfl) (by kernel_rfl) (fun _ _ _ h => h) (Or.inl ⟨by rfl, ?_⟩) (by assumption) ?_
      · intro w hSw; (try dsimp only at hSw); go_simp
      simp only [Act.put, List.setIfInBounds_toArray, List.set_cons_zero, List.set_cons_succ]
      refine wpAnyH_take (i := 2) (oi := ⟨some 33, _, _, _, _, _⟩) (v := (.bool false)) rfl (by kernel_rfl) (by kernel_rfl) (by kernel_rfl) (fun _ _ _ h => h) (Or.inl ⟨by rfl, ?_⟩) (by assumption) ?_
      · intro w hSw; (try dsimp only at hSw); go_simp
      simp only [Act.put, List.setIfInBounds_toArray, List.set_cons_zero, List.set_cons_succ]
      refine wpAnyH_take (i := 3) (oi := ⟨some 34, _, _, _, _, _⟩) (v := (.pointer (some ⟨e, 0, none⟩))) rfl (by kernel_rfl) (by kernel_rfl) (by kernel_rfl) (fun _ _ _ h => h) (Or.inl ⟨by rfl, ?_⟩) (by assumption) ?_
      · intro w hSw; (try dsimp only at hSw); go_simp
      simp only [Act.put, List.setIfInBounds_toArray, List.set_cons_zero, List.set_cons_succ]
      refine wpAnyH_take (i := 6) (oi := ⟨some 37, _, _, _, _, _⟩) (v := (.pointer (some ⟨bm, 0, none⟩))) rfl (by kernel_rfl) (by kernel_rfl) (by kernel_rfl) (fun _ _ _ h => h) (Or.inl ⟨by rfl, ?_⟩) (by assumption) ?_
      · intro w hSw; (try dsimp only at hSw); go_simp
      simp only [Act.put, List.setIfInBounds_toArray, List.set_cons_zero, List.set_cons_succ]
      refine wpAnyH_ready (rs := [4]) (by kernel_rfl) (by simp) (AllReadyH.cons (o := ⟨some 35, _, _, _, _, _⟩) rfl (fun K hK => ?_) AllReadyH.nil)
      go_simp
      refine (XA.out _ ((Below.refl _ _).drew)).mono ?_
      rintro e' w7 ⟨vA, rfl, hoA, hbA⟩
      obtain ⟨AA, cA, rfl, -, -, hhA⟩ := own_slice hoA
      have HhA := Lib.hid hhA
      have HPA : Hid (Below w6.heap.size w6 w7) := Lib.hid (((Below.refl _ w6).drew).trans hbA)
      clear hoA hhA hbA
      refine hK.out _ _ trivial (fun _ => ?_)
      clear hK K
      refine held_more (S' := fun wx => (convert 63 9 (.slice AA N cA)).run Try.prog wx = .ok (.string ⟨Z.toArray⟩) wx) (fun _ _ => trivial) _ _ _ _ ?_
      have hS7 : (fun wx => (convert 63 9 (.slice AA N cA)).run Try.prog wx = .ok (.string ⟨Z.toArray⟩) wx) w7 := run_string_of (P := Try.prog) HhA.out cA 63 9 5 Try.underlying63 Try.underlying5 Try.underlying9
      refine wpAnyH_take (i := 5) (oi := ⟨some 36, _, _, _, _, _⟩) (v := (.string ⟨Z.toArray⟩)) rfl (by kernel_rfl) (by kernel_rfl) (by kernel_rfl) (fun _ _ _ h => h) (Or.inl ⟨by rfl, ?_⟩) (by assumption) ?_
      · intro w hSw; (try dsimp only at hSw); go_simp
      simp only [Act.put, List.setIfInBounds_toArray, List.set_cons_zero, List.set_cons_succ]
      refine wpAnyH_ready (rs := [7]) (by kernel_rfl) (by simp) (AllReadyH.cons (o := ⟨some 38, _, _, _, _, _⟩) rfl (fun K hK => ?_) AllReadyH.nil)
      go_simp
      refine (XB.out _ HPA.out).mono ?_
      rintro e' w8 ⟨vB, rfl, hoB, hbB⟩
      obtain ⟨AB, cB, rfl, -, -, hhB⟩ := own_slice hoB
      have HhB := Lib.hid hhB
      have HPB : Hid (Below w6.heap.size w6 w8) := Lib.hid (HPA.out.trans (hbB.mono HPA.out.size))
      have HhA8 := Lib.hid (HhA.out.belowOf hbB (Nat.le_refl _))
      have hS78 : (fun wx => (convert 63 9 (.slice AA N cA)).run Try.prog wx = .ok (.string ⟨Z.toArray⟩) wx) w8 := run_string_of (P := Try.prog) HhA8.out cA 63 9 5 Try.underlying63 Try.underlying5 Try.underlying9
      clear hoB hhB hbB
      refine hK.out _ _ hS78 (fun _ => ?_)
      clear hK K
      refine held_more (S' := fun wx => (convert 63 9 (.slice AA N cA)).run Try.prog wx = .ok (.string ⟨Z.toArray⟩) wx ∧ (convert 63 9 (.slice AB N cB)).run Try.prog wx = .ok (.string ⟨Z.toArray⟩) wx) (fun _ h => h.1) _ _ _ _ ?_
      have hS8 : (fun wx => (convert 63 9 (.slice AA N cA)).run Try.prog wx = .ok (.string ⟨Z.toArray⟩) wx ∧ (convert 63 9 (.slice AB N cB)).run Try.prog wx = .ok (.string ⟨Z.toArray⟩) wx) w8 := ⟨hS78, run_string_of (P := Try.prog) HhB.out cB 63 9 5 Try.underlying63 Try.underlying5 Try.underlying9⟩
      refine wpAnyH_take (i := 8) (oi := ⟨some 39, _, _, _, _, _⟩) (v := (.string ⟨Z.toArray⟩)) rfl (by kernel_rfl) (by kernel_rfl) (by kernel_rfl) (fun _ _ _ h => h) (Or.inl ⟨by rfl, ?_⟩) (by assumption) ?_
      · intro w hSw; (try dsimp only at hSw); go_simp
      simp only [Act.put, List.setIfInBounds_toArray, List.set_cons_zero, List.set_cons_succ]
      refine wpAnyH_take (i := 9) (oi := ⟨some 40, _, _, _, _, _⟩) (v := (.bool false)) rfl (by kernel_rfl) (by kernel_rfl) (by kernel_rfl) (fun _ _ _ h => h) (Or.inl ⟨by rfl, ?_⟩) (by assumption) ?_
      · intro w hSw; (try dsimp only at hSw); go_simp
      simp only [Act.put, List.setIfInBounds_toArray, List.set_cons_zero, List.set_cons_succ]
      refine wpAnyH_take (i := 10) (oi := ⟨some 41, _, _, _, _, _⟩) (v := (.bool false)) rfl (by kernel_rfl) (by kernel_rfl) (by kernel_rfl) (fun _ _ _ h => h) (Or.inl ⟨by rfl, ?_⟩) (by assumption) ?_
      · intro w hSw; (try dsimp only at hSw); go_simp
      simp only [Act.put, List.setIfInBounds_toArray, List.set_cons_zero, List.set_cons_succ]
      refine wpAnyH_done (by kernel_rfl) ?_ _
      have HP8 := Lib.hid HPB.out
      have hsz8 : w.heap.size ≤ w8.heap.size := Nat.le_trans hsz6 HPB.out.size
      have hX8 := Lib.hid (XA.out _ HPB.out)
      clear hS7 hS78 hS8 hHeld HhA HhA8 HhB XB
      go_wp2_with fail
      refine hX8.out.mono ?_
      rintro e' w9 ⟨v9, rfl, ho9, hb9⟩
      obtain ⟨A9, c9, rfl, hc9, -, hh9⟩ := own_slice ho9
      have HP9 : Hid (Below w6.heap.size w6 w9) := Lib.hid (HP8.out.trans (hb9.mono HP8.out.size))
      have hI := import_any A9 N c9 w9.heap.size limit lim Z w9 hh9 (Nat.le_refl _) hZl hc9 Hlim.out (by rw [HPK.out]; show M.length ≤ _; rw [HNM.out]; omega)
      rw [HPK.out] at hI
      have HI := Lib.hid hI
      clear ho9 hb9 hh9 hI hX8
      go_wp2_with fail
      refine HI.out.mono ?_
      rintro e' w10 ⟨hb10, hc10⟩
      obtain ⟨x, rvx, vx, rfl, hEx⟩ : ∃ x rvx vx, e' = .returned (.tuple #[.pointer (some ⟨x, 0, none⟩), .int .i64 0]) ∧ EngAt w10 x lim (M.length : Int) (.slice none 0 0) rvx [] (aloneR vx M) := by
        rcases hc10 with ⟨h1, -⟩ | ⟨-, h1, -⟩ | ⟨-, -, x, rvx, vx, e1, -, e2, -⟩
        · exact absurd rfl h1
        · rw [anyGone_false HPP.out.live] at h1; cases h1
        · exact ⟨x, rvx, vx, e1, e2⟩
      have HP10 : Hid (Below w6.heap.size w6 w10) := Lib.hid (HP9.out.trans (hb10.mono HP9.out.size))
      have HS := Lib.hid (SA.out w10 HP10.out x lim _ _ _ _ _ hEx (import_eng vx HPP.out Hlim1.out).1 (import_eng vx HPP.out Hlim1.out).2)
      clear hb10 hc10 hEx HI SA XA
      go_wp2_with fail
      refine HS.out.mono ?_
      rintro e' w11 ⟨rfl, hb11⟩
      have HP11 : Hid (Below w.heap.size w w11) := Lib.hid (Hb6.out.trans ((HP10.out.trans (hb11.mono HP10.out.size)).mono hsz6))
      have hul : (unpackT b).2.length ≤ 4000 := by have := unpackT_len10 b; have := Hl'.out; omega
      have Hus := Lib.hid (fun u (e : unpackT b = (0, u)) => unpackT_small10 e (by have := Hl'.out; omega))
      have Hur := Lib.hid (fun u (e : unpackT b = (0, u)) => (unpack_pack e).2)
      have HI2 := Lib.hid (import_any D m cb w.heap.size limit lim b w11 (H'.out.belowOf HP11.out (Nat.le_refl _)) HP11.out.size (by omega) hn' Hlim.out (by omega))
      have HU2 := Lib.hid (fun wx (hx : Below w.heap.size w wx) => refUnpack_any D m cb w.heap.size b wx (H'.out.belowOf hx (Nat.le_refl _)) hx.size (by omega) hn')
      obtain ⟨⟨g, u⟩, hU⟩ : ∃ r, unpackT b = r := ⟨_, rfl⟩
      rw [hU] at HI2 HU2 Hus Hur hul
      have hsz11 : w.heap.size ≤ w11.heap.size := HP11.out.size
      clear hb11 hU HS HPK HPP HP8 HP9 HP10
      go_wp2_with fail
      refine HI2.out.mono ?_
      rintro e' w12 ⟨hb12, hc12⟩
      have HP12 : Hid (Below w.heap.size w w12) := Lib.hid (HP11.out.trans (hb12.mono hsz11))
      have HU := Lib.hid (HU2.out w12 HP12.out)
      obtain ⟨xo, cc, rfl, hC⟩ : ∃ (xo : Option Addr) (cc : Nat), e' = .returned (.tuple #[.pointer xo, .int .i64 (cc : Int)]) ∧ ((xo = none ∧ cc ≠ 0 ∧ ((g ≠ 0 ∧ cc = g) ∨ (g = 0 ∧ anyGone u = true ∧ cc = 3))) ∨ (g = 0 ∧ anyGone u = false ∧ cc = 0 ∧ ∃ x rvx vx, xo = some ⟨x, 0, none⟩ ∧ EngAt w12 x lim (u.length : Int) (.slice none 0 0) rvx [] (aloneR vx u))) := by
        rcases hc12 with ⟨h1, e1⟩ | ⟨h0, h1, e1⟩ | ⟨h0, h1, x, rvx, vx, e1, -, e2, -⟩
        · exact ⟨none, g, e1, .inl ⟨rfl, h1, .inl ⟨h1, rfl⟩⟩⟩
        · exact ⟨none, 3, e1, .inl ⟨rfl, by omega, .inr ⟨h0, h1, rfl⟩⟩⟩
        · exact ⟨some ⟨x, 0, none⟩, 0, e1, .inr ⟨h0, h1, rfl, x, rvx, vx, rfl, e2⟩⟩
      have HC := Lib.hid hC
      have hsz12 : w.heap.size ≤ w12.heap.size := HP12.out.size
      clear hb12 HI2 HU2 hc12 hC
      go_wp2_with fail
      refine HU.out.mono ?_
      rintro e' w13 ⟨vu, rfl, hou, hb13⟩
      obtain ⟨Au, cu, rfl, -, -, hxu⟩ := hou.slice
      obtain ⟨NU, hNU⟩ : ∃ NU, u.length = NU := ⟨_, rfl⟩
      have HP13 : Hid (Below w.heap.size w w13) := Lib.hid (HP12.out.trans (hb13.mono hsz12))
      have hsz13 : w.heap.size ≤ w13.heap.size := HP13.out.size
      replace hul : u.length ≤ 4000 := hul
      rw [hNU] at hxu hul ⊢
      have HXU := Lib.hid hxu
      have HB13 := Lib.hid hb13
      have HNU := Lib.hid hNU
      clear hou hb13 hxu hNU HU
      go_wp2
      go_loopw [13, 14] (fun dv iv wr => ∃ k dd : Nat, k ≤ NU ∧ iv = .int .i64 (k : Int) ∧ dv = .int .i64 (dd : Int) ∧ Hid ((dd = g ∧ (g = 0 → anyGone (u.take k) = false)) ∨ (g = 0 ∧ dd = 3 ∧ anyGone u = true)) ∧ Below w13.heap.size w13 wr) (fun _ iv _ => NU - (intOf iv).toNat)
      case atStart => exact ⟨0, g, by omega, rfl, rfl, Lib.hid (.inl ⟨rfl, fun _ => rfl⟩), Below.refl _ _⟩
      case round =>
        obtain ⟨k, dd, hk, rfl, rfl, HD, hb⟩ := hrel
        have Hb := Lib.hid hb
        have HW : Hid (Below w.heap.size w wr) := Lib.hid (HP13.out.trans (hb.mono hsz13))
        by_cases hlt : k < NU
        · obtain ⟨a, y, rfl, hab, hy, c0, c1, c2⟩ := (HXU.out.belowOf hb (Nat.le_refl _)).at_ hlt
          have Hy := Lib.hid hy
          have hk0 : (0 : Int) ≤ (k : Int) := by omega
          have hk1 : (k : Int) < (NU : Int) := by omega
          clear hb hy
          by_cases hdd : dd = 0
          · subst hdd
            have HG : Hid (g = 0 ∧ anyGone (u.take k) = false) := Lib.hid (by
              rcases HD.out with ⟨h1, h2⟩ | ⟨-, h2, -⟩
              · exact ⟨h1.symm, h2 h1.symm⟩
              · omega)
            obtain ⟨yk, yv, yg⟩ := y
            simp only at c0 c1 c2
            cases yg with
            | true =>
              have HA : Hid ((3 = g ∧ (g = 0 → anyGone (u.take (k + 1)) = false)) ∨ (g = 0 ∧ 3 = 3 ∧ anyGone u = true)) := Lib.hid (.inr ⟨HG.out.1, rfl, by
                unfold anyGone
                rw [List.any_eq_true]
                exact ⟨_, List.mem_of_getElem? Hy.out, rfl⟩⟩)
              go_wp2
              go_roundw
              case rel => exact ⟨k + 1, 3, by omega, by go_num, rfl, HA, Hb.out⟩
              case measure => simp [intOf]; omega
            | false =>
              have HA : Hid ((0 = g ∧ (g = 0 → anyGone (u.take (k + 1)) = false)) ∨ (g = 0 ∧ 0 = 3 ∧ anyGone u = true)) := Lib.hid (.inl ⟨HG.out.1.symm, fun _ => by
                have h1 := HG.out.2
                unfold anyGone at h1 ⊢
                rw [List.take_add_one, Hy.out, List.any_append, h1]
                rfl⟩)
              go_wp2
              go_roundw
              case rel => exact ⟨k + 1, 0, by omega, by go_num, rfl, HA, Hb.out⟩
              case measure => simp [intOf]; omega
          · have HE : xo = none ∧ cc = dd := by
              have h1 := HC.out
              have h2 := HD.out
              rcases h1 with ⟨h3, h4, h5⟩ | ⟨h3, h4, h5, -⟩
              · refine ⟨h3, ?_⟩
                rcases h5 with ⟨h6, h7⟩ | ⟨h6, h7, h8⟩ <;> rcases h2 with ⟨h9, -⟩ | ⟨h9, h10, -⟩ <;> omega
              · rcases h2 with ⟨h9, -⟩ | ⟨-, -, h10⟩
                · omega
                · rw [h4] at h10; cases h10
            obtain ⟨rfl, rfl⟩ := HE
            obtain ⟨ci, hci⟩ : ∃ ci : Int, (cc : Int) = ci := ⟨_, rfl⟩
            have hne : ¬ ci = 0 := by omega
            have hdi : (ci != 0) = true := by simpa using hne
            have hdj : (ci == 0) = false := by simpa using hne
            rw [hci]
            clear hci
            clear HC HD c0 c1 c2 hdd
            go_wp2
            go_ret
            exact ⟨rfl, HW.out⟩
        · obtain rfl : k = NU := by omega
          have Et : Hid (u.take k = u) := Lib.hid (List.take_of_length_le (by have := HNU.out; omega))
          clear hb
          by_cases hdd : dd = 0
          · subst hdd
            have HG : g = 0 ∧ anyGone u = false := by
              rcases HD.out with ⟨h1, h2⟩ | ⟨-, h2, -⟩
              · have h3 := h2 h1.symm
                rw [Et.out] at h3
                exact ⟨h1.symm, h3⟩
              · omega
            obtain ⟨rfl, hag⟩ := HG
            obtain ⟨rfl, x, rvx, vx, rfl, hEx⟩ : cc = 0 ∧ ∃ x rvx vx, xo = some ⟨x, 0, none⟩ ∧ EngAt w12 x lim (u.length : Int) (.slice none 0 0) rvx [] (aloneR vx u) := by
              rcases HC.out with ⟨-, h4, h5⟩ | ⟨-, -, h5, h6⟩
              · rcases h5 with ⟨h6, -⟩ | ⟨-, h7, -⟩
                · omega
                · rw [hag] at h7; cases h7
              · exact ⟨h5, h6⟩
            have hPu : PairsP 4000 u := ⟨Hur.out u rfl, fun c hc => by
              have h1 := hag
              unfold anyGone at h1
              rw [List.any_eq_false] at h1
              simpa using h1 c hc, by have := HNU.out; omega, (Hus.out u rfl).2⟩
            have hbA : Below w13.heap.size w13 (wr.alloc (.cells #[.slice Au k cu] 44)) := Hb.out.alloc Hb.out.size _
            have hEw := (hEx.below HB13.out).below hbA
            have HS := Lib.hid (same_any hEw (import_eng vx hPu Hlim1.out).1 (by omega) (import_eng vx hPu Hlim1.out).2 (Box.made wr 44 #[.slice Au k cu]) ((HXU.out.belowOf hbA (Nat.le_refl _)).more hbA.size))
            have HWA : Hid (Below w.heap.size w (wr.alloc (.cells #[.slice Au k cu] 44))) := Lib.hid (HW.out.alloc HW.out.size _)
            clear HC HD hag hEx hPu hbA hEw
            go_wp2_with fail
            refine HS.out.mono ?_
            rintro e' w15 ⟨rfl, hb15⟩
            have HE := Lib.hid (HWA.out.trans (hb15.mono HWA.out.size))
            clear hb15
            go_wp2
            go_ret
            exact ⟨rfl, HE.out⟩
          · have HE : xo = none ∧ cc = dd := by
              have h1 := HC.out
              have h2 := HD.out
              rcases h1 with ⟨h3, h4, h5⟩ | ⟨h3, h4, h5, -⟩
              · refine ⟨h3, ?_⟩
                rcases h5 with ⟨h6, h7⟩ | ⟨h6, h7, h8⟩ <;> rcases h2 with ⟨h9, -⟩ | ⟨h9, h10, -⟩ <;> omega
              · rcases h2 with ⟨h9, -⟩ | ⟨-, -, h10⟩
                · omega
                · rw [h4] at h10; cases h10
            obtain ⟨rfl, rfl⟩ := HE
            obtain ⟨ci, hci⟩ : ∃ ci : Int, (cc : Int) = ci := ⟨_, rfl⟩
            have hne : ¬ ci = 0 := by omega
            have hdi : (ci != 0) = true := by simpa using hne
            have hdj : (ci == 0) = false := by simpa using hne
            rw [hci]
            clear hci
            clear HC HD hdd
            go_wp2
            go_ret
            exact ⟨rfl, HW.out⟩

namespace lawEngineExports
open Go.ChangeShapes Go.WideShapes Go.ChangeAt

theorem own : ownKnob Try.prog.godebug = none := by kernel_rfl
theorem kids : Kids Try.prog (· < Try.prog.types.size) := kids_rows (by kernel_rfl) (by kernel_rfl)
theorem full : ∀ t e, t < Try.prog.types.size → Try.prog.underlying t = some (.slice e) → 0 < Try.prog.cellsOf e := slices_full_of Try.prog (by kernel_rfl)

set_option maxRecDepth 100000 in
theorem lifted (os : Os) (started : os.Started) (H : Type) (enc : TypeId × Value → H) :
    ReturnsInHanded {} Try.checked os 8 .any (Rows.engineExportsSpec.pre6 enc Try.prog Try.f8 Rows.engineExportsRow.domain false) (Rows.engineExportsSpec.post enc Try.prog Try.f8 false true false false) := by
  refine returnsInHanded_of_change (C := Try.checked) own started (by kernel_rfl) Try.func8
    (ChangeSpec.witness6 (enc := enc) (C := Try.checked) false ⟨#[], #[.slice none 0 0, .int .i64 0, .slice none 0 0], []⟩ 8 (by kernel_rfl) (by kernel_rfl) (by kernel_rfl) (by kernel_rfl)) ?_
  intro W base args ds gs before hval0 hW _ _
  have hval : ∀ (j : Nat) t v, Try.f8.params[j]? = some t → args[j]? = some v → Value.okWide Try.prog W .any base t v := hval0
  have hW' := hW
  obtain ⟨p, q, hA0, hV, rfl, _, _⟩ := hW
  obtain ⟨rfl, rfl⟩ := trodVars_none hV
  have hA : DataW.TrodAll enc Try.prog W 0 (fun _ => true) true Try.f8.params.toList args.toList ds p := hA0
  rw [Try.params8] at hA hval
  obtain ⟨v0, vs0, d0, ds0, p0, q0, hargs, rfl, rfl, h0, r0⟩ := trodAll_cons hA
  obtain ⟨v1, vs1, d1, ds1, p1, q1, rfl, rfl, rfl, h1, r1⟩ := trodAll_cons r0
  obtain ⟨v2, vs2, d2, ds2, p2, q2, rfl, rfl, rfl, h2, r2⟩ := trodAll_cons r1
  obtain ⟨rfl, rfl, rfl⟩ := trodAll_nil r2
  obtain rfl : args = #[v0, v1, v2] := by cases args; simp_all
  have hlt := hW'.lt
  obtain ⟨A0, n0, c0, l0, rfl, hnc0, hm0, hb0, hs0⟩ := open_crs Try.underlying29 (by kernel_rfl) Try.underlying22 Try.underlying38 (by kernel_rfl) ⟨rfl, rfl, rfl⟩ ⟨by kernel_rfl, by kernel_rfl, by kernel_rfl⟩ ⟨by kernel_rfl, by kernel_rfl, by kernel_rfl⟩ (hval 0 29 v0 rfl rfl) h0 (fun x hx => hlt x (by simp [hx]))
  obtain ⟨k1, rfl, _, _, _⟩ := open_int Try.underlying3 (hval 1 3 v1 rfl rfl) h1
  obtain ⟨A2, n2, c2, l2, rfl, hn2, hnc2, hb2⟩ := open_bytes Try.underlying63 Try.underlying5 (by kernel_rfl) (hval 2 63 v2 rfl rfl) h2 (fun x hx => hlt x (by simp [hx]))
  refine (exports_walk A0 A2 n0 c0 n2 c2 k1 l0 l2 W hb0 hnc0 hm0 hs0 hb2 hnc2).mono fun e W' ⟨he, hbel⟩ => ?_
  subst he
  exact ⟨_, rfl, law_post kids full (of_decide_eq_true (by kernel_rfl)) Try.underlying4 rfl rfl rfl hW' hbel⟩

theorem proved : Rows.EngineExportsSaid :=
  OpenClaim.holds_of_wide 8 Try.f8 rfl rfl rfl rfl rfl rfl rfl ⟨rfl, rfl, rfl, rfl, rfl⟩ rfl rfl rfl rfl rfl (by kernel_rfl) Try.func8 (by kernel_rfl)
    (of_decide_eq_true (by kernel_rfl)) (by unfold Func.isWrapper; first | (rw [if_pos (by decide +kernel)]; kernel_rfl) | (rw [if_neg (by decide +kernel)]; exact ⟨rfl, rfl⟩))
    (fun os started H enc _ => lifted os started H enc)
end lawEngineExports

end Go.Proofs.Ytlacpnokcabeoaa
