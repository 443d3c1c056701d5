/- Find of the program and of the document gives what the plain text gives. Condition: few changes with short texts, in memory. -/
import Derived.Test.YtmbolempigbkdaaFndC
namespace Go.Proofs.Ytmbolempigbkdaa
open Go.RowKit
open Go.Lib (strCells compareBytes)

open Classical in
/-- a key's change in a run -/
noncomputable def findT (key : List UInt8) (l : List Chg) : Chg × Bool := if Run l then (match look key l with | some c => (c, true) | none => (default, false)) else (default, false)
theorem findT_some {key : List UInt8} {l : List Chg} {c : Chg} (h : Run l) (e : look key l = some c) : findT key l = (c, true) := by unfold findT; rw [if_pos h, e]
theorem findT_none {key : List UInt8} {l : List Chg} (h : Run l) (e : look key l = none) : findT key l = (default, false) := by unfold findT; rw [if_pos h, e]
theorem findT_no {key : List UInt8} {l : List Chg} (h : ¬ Run l) : findT key l = (default, false) := by unfold findT; rw [if_neg h]
def FindPost (r : Chg × Bool) (w : World) (e : Ending) (w' : World) : Prop := e = .returned (.tuple #[cagg r.1, .bool r.2]) ∧ Below w.heap.size w w'
/-- the answer's box at block g, stored to -/
theorem box_end {w wz : World} (x y z x' y' z' : Value) (hb : Below (w.heap.size + 1) (w.alloc (.cells #[x, y, z] 38)) wz) :
    (wz.cell? ⟨w.heap.size, 0, none⟩ = some x ∧ wz.cell? ⟨w.heap.size, 1, none⟩ = some y ∧ wz.cell? ⟨w.heap.size, 2, none⟩ = some z ∧ wz.frozen? ⟨w.heap.size, 0, none⟩ = false ∧ wz.frozen? ⟨w.heap.size, 1, none⟩ = false ∧ wz.frozen? ⟨w.heap.size, 2, none⟩ = false) ∧
    ∃ W3, ((wz.setCell ⟨w.heap.size, 0, none⟩ x').setCell ⟨w.heap.size, 1, none⟩ y').setCell ⟨w.heap.size, 2, none⟩ z' = W3 ∧ Below w.heap.size w W3 ∧ W3.cell? ⟨w.heap.size, 0, none⟩ = some x' ∧ W3.cell? ⟨w.heap.size, 1, none⟩ = some y' ∧ W3.cell? ⟨w.heap.size, 2, none⟩ = some z' := by
  obtain ⟨q0, q1, q2, f0, f1, f2⟩ := box_at hb rfl
  have hp := box_store (x' := x') (y' := y') (z' := z') q0 q1 q2
  exact ⟨⟨q0, q1, q2, f0, f1, f2⟩, _, rfl, (((below_in hb (Nat.le_refl _)).setCell (Nat.le_refl _) _).setCell (Nat.le_refl _) _).setCell (Nat.le_refl _) _, hp⟩
set_option maxRecDepth 100000 in
set_option maxHeartbeats 3200000 in
theorem find_any (A : Option Addr) (n ca C : Nat) (l : List Chg) (key : ByteArray) (w : World) (h : HasChs w C A n l) (hC : C ≤ w.heap.size) (hn : n ≤ 700) (hs : ∀ x ∈ l, x.k.size ≤ 4000 ∧ x.v.size ≤ 4000) :
    Calls Try.prog 19 #[.slice A n ca, .string key] w (FindPost (findT key.data.toList l) w) := by
  have H := Lib.hid h
  have HC := Lib.hid hC
  have Hl := Lib.hid h.1
  have Hs := Lib.hid hs
  have hC1 : C ≤ (w.alloc (Obj.cells #[.string ⟨#[]⟩, .string ⟨#[]⟩, .bool false] 38)).heap.size := by simp only [World.size_alloc]; omega
  have Hrt := Lib.hid (wrong_any A n ca C l _ (h.belowOf (below_box (Obj.cells #[.string ⟨#[]⟩, .string ⟨#[]⟩, .bool false] 38)) hC) (by unfold maxLen; omega) hC1)
  clear h hC hs hC1
  by_cases hr : Run l
  · rw [runB_true hr] at Hrt
    have Hr := Lib.hid hr
    clear hr
    go_enter Try.func19, Try.ntmps19
    go_wp2_with fail
    refine Hrt.out.mono ?_
    rintro e w1 ⟨rfl, hb1⟩
    have Hb1 : Hid (Below (w.heap.size + 1) (w.alloc (.cells #[.string ⟨#[]⟩, .string ⟨#[]⟩, .bool false] 38)) w1) := Lib.hid (by simpa using hb1)
    have hsz1 : w.heap.size + 1 ≤ w1.heap.size := by have := hb1.size; simpa using this
    have Hse := Lib.hid (search_any A n ca C l ⟨key, ⟨#[]⟩, false⟩ w1 (H.out.belowOf (below_in Hb1.out HC.out) (Nat.le_refl _)) (by have := HC.out; omega) hn Hr.out)
    unfold cagg at Hse
    clear hb1
    go_wp2_with fail
    refine Hse.out.mono ?_
    rintro e w2 ⟨i, f, rfl, hb2, hf1, hf2⟩
    have Hb2 := Lib.hid (Hb1.out.trans (hb2.mono hsz1))
    have hsz2 : w.heap.size + 1 ≤ w2.heap.size := Nat.le_trans hsz1 hb2.size
    clear hb2
    cases f with
    | false =>
      have E := Lib.hid (findT_none (key := key.data.toList) Hr.out (hf2 rfl))
      obtain ⟨⟨q0, q1, q2, f0, f1, f2⟩, W3, hW3, hbW, p0, p1, p2⟩ := box_end (.string ⟨#[]⟩) (.string ⟨#[]⟩) (.bool false) (.string ⟨#[]⟩) (.string ⟨#[]⟩) (.bool false) Hb2.out
      have HbW := Lib.hid hbW
      clear hf1 hf2 hbW
      go_wp2
      refine bodyPost_ret (v := .tuple #[cagg default, .bool false]) ?_ rfl ⟨by rw [E.out], HbW.out⟩
      simp [results, Try.results19, go_sem, p0, p1, p2, cagg, default]
    | true =>
      obtain ⟨c, hc, hlk⟩ := hf1 rfl
      have E := Lib.hid (findT_some (key := key.data.toList) Hr.out hlk)
      obtain ⟨a, y, rfl, hab, hy, c0, c1, c2⟩ := (H.out.belowOf (below_in Hb2.out HC.out) (Nat.le_refl _)).at_ (i := i) (by have := (List.getElem?_eq_some_iff.1 hc).1; have := Hl.out; omega)
      rw [hc] at hy
      injection hy with hy
      subst hy
      have hin : i < n := by have := (List.getElem?_eq_some_iff.1 hc).1; have := Hl.out; omega
      have hcs := Hs.out c (List.mem_of_getElem? hc)
      obtain ⟨ck, cv, cg⟩ := c
      simp only at c0 c1 c2 hcs
      have hi0 : (0 : Int) ≤ (i : Int) := by omega
      have hi1 : (i : Int) < (n : Int) := by omega
      have Hcl := Lib.hid (cloneC_any ⟨ck, cv, cg⟩ w2 (by simp only; omega) (by simp only; omega))
      unfold cagg at Hcl
      clear hf1 hf2 hc hlk
      go_wp2_with fail
      refine Hcl.out.mono ?_
      rintro e w3 ⟨rfl, hb3⟩
      obtain ⟨⟨q0, q1, q2, f0, f1, f2⟩, W3, hW3, hbW, p0, p1, p2⟩ := box_end (.string ⟨#[]⟩) (.string ⟨#[]⟩) (.bool false) (.string ck) (.string cv) (.bool cg) (Hb2.out.trans (hb3.mono hsz2))
      have HbW := Lib.hid hbW
      clear hb3 hbW
      go_wp2
      refine bodyPost_ret (v := .tuple #[cagg ⟨ck, cv, cg⟩, .bool true]) ?_ rfl ⟨by rw [E.out], HbW.out⟩
      simp [results, Try.results19, go_sem, p0, p1, p2, cagg]
  · rw [findT_no hr]
    rw [runB_false hr] at Hrt
    clear hr
    go_enter Try.func19, Try.ntmps19
    go_wp2_with fail
    refine Hrt.out.mono ?_
    rintro e w1 ⟨rfl, hb1⟩
    obtain ⟨⟨q0, q1, q2, f0, f1, f2⟩, W3, hW3, hbW, p0, p1, p2⟩ := box_end (.string ⟨#[]⟩) (.string ⟨#[]⟩) (.bool false) (.string ⟨#[]⟩) (.string ⟨#[]⟩) (.bool false) (by simpa using hb1)
    have HbW := Lib.hid hbW
    clear hb1 hbW
    go_wp2
    refine bodyPost_ret (v := .tuple #[cagg default, .bool false]) ?_ rfl ⟨rfl, HbW.out⟩
    simp [results, Try.results19, go_sem, p0, p1, p2, cagg, default]

set_option maxRecDepth 100000 in
set_option maxHeartbeats 3200000 in
theorem refFind_any (A : Option Addr) (n ca C : Nat) (l : List Chg) (key : ByteArray) (w : World) (h : HasChs w C A n l) (hC : C ≤ w.heap.size) (hn : n ≤ 700) :
    Calls Try.prog 20 #[.slice A n ca, .string key] w (FindPost (findT key.data.toList l) w) := by
  have H := Lib.hid h
  have HC := Lib.hid hC
  have Hl := Lib.hid h.1
  have Hrt := Lib.hid (fun wx (hx : Below w.heap.size w wx) => refRight_any A n ca C l wx (h.belowOf hx hC) (by unfold maxLen; omega) (Nat.le_trans hC hx.size))
  clear h hC
  by_cases hr : Run l
  · rw [runB_true hr] at Hrt
    have Hr := Lib.hid hr
    clear hr
    go_enter Try.func20, Try.ntmps20
    go_wp2
    go_loopw [6] (fun i wr => ∃ k : Nat, k ≤ n ∧ i = .int .i64 (k : Int) ∧ Hid (∀ x ∈ l.take k, x.kb ≠ key.data.toList) ∧ Below (w.heap.size + 1) (w.alloc (.cells #[.string ⟨#[]⟩, .string ⟨#[]⟩, .bool false] 38)) wr) (fun i _ => n - (intOf i).toNat)
    case atStart => exact ⟨0, by omega, rfl, Lib.hid (by simp), Below.refl _ _⟩
    case round =>
      obtain ⟨k, hk, rfl, Hp, hb⟩ := hrel
      have Hb := Lib.hid hb
      have hsz : w.heap.size + 1 ≤ wr.heap.size := by have := hb.size; simpa using this
      have Hrt1 := Lib.hid (Hrt.out wr (below_in hb (Nat.le_refl _)))
      clear hb
      by_cases hlt : k < n
      · go_wp2_with fail
        refine Hrt1.out.mono ?_
        rintro e w2 ⟨rfl, hb2⟩
        have Hb2 := Lib.hid (Hb.out.trans (hb2.mono hsz))
        clear hb2
        obtain ⟨a, y, rfl, hab, hy, c0, c1, c2⟩ := (H.out.belowOf (below_in Hb2.out HC.out) (Nat.le_refl _)).at_ hlt
        have Hy := Lib.hid hy
        obtain ⟨yk, yv, yg⟩ := y
        simp only at c0 c1 c2
        clear hy
        by_cases hkey : yk.data.toList = key.data.toList
        · have hkb : (yk.toList == key.toList) = true := by rw [eq_toList]; exact decide_eq_true hkey
          have E := Lib.hid (findT_some (key := key.data.toList) (c := ⟨yk, yv, yg⟩) Hr.out (by rw [← hkey]; exact look_of Hr.out.2 (List.mem_of_getElem? Hy.out)))
          obtain ⟨⟨q0, q1, q2, f0, f1, f2⟩, W3, hW3, hbW, p0, p1, p2⟩ := box_end (.string ⟨#[]⟩) (.string ⟨#[]⟩) (.bool false) (.string yk) (.string yv) (.bool yg) Hb2.out
          have HbW := Lib.hid hbW
          clear hbW hkey
          go_wp2
          refine bodyPost_ret (v := .tuple #[cagg ⟨yk, yv, yg⟩, .bool true]) ?_ rfl ⟨by rw [E.out], HbW.out⟩
          simp [results, Try.results20, go_sem, p0, p1, p2, cagg]
        · have hkb : (yk.toList == key.toList) = false := by rw [eq_toList]; exact decide_eq_false hkey
          have Hp1 : Hid (∀ x ∈ l.take (k + 1), x.kb ≠ key.data.toList) := Lib.hid (by
            rw [take_snocC Hy.out]
            intro x hx
            rcases List.mem_append.1 hx with hx | hx
            · exact Hp.out x hx
            · simp at hx; subst hx; exact hkey)
          clear hkey
          go_wp2
          go_roundw
          case rel => exact ⟨k + 1, by omega, by go_num, Hp1, Hb2.out⟩
          case measure => simp [intOf]; omega
      · obtain rfl : k = n := by omega
        have E := Lib.hid (findT_none (key := key.data.toList) Hr.out (look_none.2 (by have h1 := Hp.out; rwa [List.take_of_length_le (by have := Hl.out; omega)] at h1)))
        obtain ⟨⟨q0, q1, q2, f0, f1, f2⟩, W3, hW3, hbW, p0, p1, p2⟩ := box_end (.string ⟨#[]⟩) (.string ⟨#[]⟩) (.bool false) (.string ⟨#[]⟩) (.string ⟨#[]⟩) (.bool false) Hb.out
        have HbW := Lib.hid hbW
        clear hbW
        go_wp2
        refine bodyPost_ret (v := .tuple #[cagg default, .bool false]) ?_ rfl ⟨by rw [E.out], HbW.out⟩
        simp [results, Try.results20, go_sem, p0, p1, p2, cagg, default]
  · rw [findT_no hr]
    rw [runB_false hr] at Hrt
    have hpos : 0 < n := by
      rw [← Hl.out]
      cases l with
      | nil => exact absurd Run.nil hr
      | cons x l => simp
    clear hr
    have Hrt1 := Lib.hid (Hrt.out _ (below_box (Obj.cells #[.string ⟨#[]⟩, .string ⟨#[]⟩, .bool false] 38)))
    go_enter Try.func20, Try.ntmps20
    go_wp2
    go_loopw [6] (fun i wr => i = .int .i64 0 ∧ wr = w.alloc (.cells #[.string ⟨#[]⟩, .string ⟨#[]⟩, .bool false] 38)) (fun i _ => 0)
    case atStart => exact ⟨rfl, rfl⟩
    case round =>
      obtain ⟨rfl, rfl⟩ := hrel
      go_wp2_with fail
      refine Hrt1.out.mono ?_
      rintro e w2 ⟨rfl, hb2⟩
      obtain ⟨⟨q0, q1, q2, f0, f1, f2⟩, W3, hW3, hbW, p0, p1, p2⟩ := box_end (.string ⟨#[]⟩) (.string ⟨#[]⟩) (.bool false) (.string ⟨#[]⟩) (.string ⟨#[]⟩) (.bool false) (by simpa using hb2)
      have HbW := Lib.hid hbW
      clear hb2 hbW
      go_wp2
      refine bodyPost_ret (v := .tuple #[cagg default, .bool false]) ?_ rfl ⟨rfl, HbW.out⟩
      simp [results, Try.results20, go_sem, p0, p1, p2, cagg, default]
end Go.Proofs.Ytmbolempigbkdaa
