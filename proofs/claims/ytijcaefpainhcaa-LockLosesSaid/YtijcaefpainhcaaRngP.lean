/- The document's Same and Light over ranges; the example of the chapter. Condition: rows in memory. -/
import Derived.Test.YtijcaefpainhcaaRngN
import Derived.Test.YtijcaefpainhcaaRngO
import Derived.Laws.StructEq
namespace Go.Proofs.Ytijcaefpainhcaa
open Go.RowKit
open Go.Lib (strCells compareBytes)

theorem below_drR {B : Nat} {a w : World} (h : Below B a w) (n : Nat) : Below B a (w.drewN n) := ⟨h.os, h.tape, h.output, h.size, h.block⟩
set_option maxRecDepth 100000 in
set_option maxHeartbeats 1600000 in
theorem sameR_any (A A' : Option Addr) (n n' c c' C C' : Nat) (l m : List Rg) (w : World) (h : HasRgs w C A n l) (h' : HasRgs w C' A' n' m) (hn : n ≤ maxLen) (hn' : n' ≤ maxLen) :
    Calls Try.prog 18 #[.slice A n c, .slice A' n' c'] w fun e w' => e = .returned (.bool (decide (l = m))) ∧ Below w.heap.size w w' := by
  unfold maxLen at hn hn'
  have H := Lib.hid h
  have H' := Lib.hid h'
  have Hl := Lib.hid h.1
  have Hm := Lib.hid h'.1
  clear h h'
  by_cases hnn : n = n'
  · subst hnn
    go_enter Try.func18, Try.ntmps18
    go_wp2
    go_loopw [5] (fun i wr => ∃ k : Nat, k ≤ n ∧ i = .int .i64 (k : Int) ∧ Hid (l.take k = m.take k) ∧ ∃ q, wr = w.drewN q) (fun i _ => n - (intOf i).toNat)
    case atStart => exact ⟨0, by omega, rfl, Lib.hid rfl, 0, rfl⟩
    case round =>
      obtain ⟨k, hk, rfl, Ht, q, rfl⟩ := hrel
      by_cases hlt : k < n
      · obtain ⟨a, v, rfl, _, hv, c0, c1⟩ := H.out.at_ hlt
        obtain ⟨b, u, rfl, _, hu, d0, d1⟩ := H'.out.at_ hlt
        have hk0 : (0 : Int) ≤ (k : Int) := by omega
        have hk1 : (k : Int) < (n : Int) := by omega
        have Hv := Lib.hid hv
        have Hu := Lib.hid hu
        clear hv hu
        by_cases e : v = u
        · subst e
          go_wp2
          go_quiet (fail)
          go_wp2
          go_roundw
          case rel => exact ⟨k + 1, by omega, by go_num, Lib.hid (by rw [List.take_add_one, List.take_add_one, Ht.out, Hv.out, Hu.out]), _, rfl⟩
          case measure => simp [intOf]; omega
        · have E : Hid (decide (l = m) = false) := Lib.hid (decide_eq_false fun e' => by
            rw [e', Hu.out] at Hv
            exact e (Option.some.inj Hv.out).symm)
          obtain ⟨vs, vt⟩ := v
          obtain ⟨us, ut⟩ := u
          have hx : (vs ≠ us) ∨ (vs = us ∧ vt ≠ ut) := by
            by_cases h1 : vs = us
            · exact .inr ⟨h1, fun h2 => e (by rw [h1, h2])⟩
            · exact .inl h1
          simp only at c0 c1 d0 d1
          clear e
          rcases hx with hx | ⟨rfl, hx⟩
          · have hb : (vs.toList == us.toList) = false := by rw [text_eq]; exact decide_eq_false hx
            clear hx
            go_wp2
            go_quiet (fail)
            go_wp2
            go_ret
            exact ⟨ret_bool (by rw [E.out]), below_drR (below_drR (Below.refl _ _) _) _⟩
          · have hb : (vt.toList == ut.toList) = false := by rw [text_eq]; exact decide_eq_false hx
            clear hx
            go_wp2
            go_quiet (fail)
            go_wp2
            go_ret
            exact ⟨ret_bool (by rw [E.out]), below_drR (below_drR (Below.refl _ _) _) _⟩
      · have E : Hid (decide (l = m) = true) := Lib.hid (decide_eq_true (by
          have h1 := Ht.out
          rwa [List.take_of_length_le (by have := Hl.out; omega), List.take_of_length_le (by have := Hm.out; omega)] at h1))
        go_wp2
        go_ret
        exact ⟨ret_bool (by rw [E.out]), below_drR (Below.refl _ _) _⟩
  · have E : Hid (decide (l = m) = false) := Lib.hid (decide_eq_false fun e => hnn (by rw [← Hl.out, ← Hm.out, e]))
    have hb : ((n : Int) != (n' : Int)) = true := by simp; omega
    clear hnn
    go_enter Try.func18, Try.ntmps18
    go_wp2
    go_ret
    exact ⟨ret_bool (by rw [E.out]), Below.refl _ _⟩

def LightPost (l : List Rg) (most : Nat) (w : World) (e : Ending) (w' : World) : Prop := ∃ b, e = .returned (.bool b) ∧ (b = true → l.length ≤ most ∧ Small 200 l) ∧ w' = w
set_option maxRecDepth 100000 in
set_option maxHeartbeats 1600000 in
theorem lightR_any (A : Option Addr) (n c C most : Nat) (l : List Rg) (w : World) (h : HasRgs w C A n l) (hn : n ≤ maxLen) (hs : ∀ r ∈ l, r.lo.size ≤ maxLen ∧ r.hi.size ≤ maxLen) :
    Calls Try.prog 11 #[.slice A n c, .int .i64 (most : Int)] w (LightPost l most w) := by
  unfold maxLen at hn hs
  have H := Lib.hid h
  have Hl := Lib.hid h.1
  have Hs := Lib.hid hs
  clear h hs
  go_enter Try.func11, Try.ntmps11
  go_wp2
  go_loopw [5] (fun iv wr => ∃ k : Nat, k ≤ n ∧ iv = .int .i64 (k : Int) ∧ Hid (Small 200 (l.take k)) ∧ wr = w) (fun iv _ => n - (intOf iv).toNat)
  case atStart => exact ⟨0, by omega, rfl, Lib.hid (by intro r hr; simp at hr), rfl⟩
  case round =>
    obtain ⟨k, hk, rfl, Hp, rfl⟩ := hrel
    by_cases hlt : k < n
    · have hk0 : (0 : Int) ≤ (k : Int) := by omega
      have hk1 : (k : Int) < (n : Int) := by omega
      by_cases hkm : k ≤ most
      · obtain ⟨a, y, rfl, hab, hy, c0, c1⟩ := H.out.at_ hlt
        have Hts : Hid (l.take (k + 1) = l.take k ++ [y]) := Lib.hid (by rw [List.take_add_one, hy]; rfl)
        have hys := Hs.out y (List.mem_of_getElem? hy)
        have hkm2 : decide ((k : Int) ≤ (most : Int)) = true := decide_eq_true (by omega)
        obtain ⟨yl, yh⟩ := y
        simp only at c0 c1 hys
        have hz1 := hys.1
        have hz2 := hys.2
        clear hy hys
        by_cases h1 : 200 < yl.size
        · have h1' : decide (200 < yl.size) = true := decide_eq_true h1
          go_wp2
          go_ret
          exact ⟨_, rfl, by simp, rfl⟩
        · have h1' : decide (200 < yl.size) = false := decide_eq_false h1
          by_cases h2 : 200 < yh.size
          · have h2' : decide (200 < yh.size) = true := decide_eq_true h2
            go_wp2
            go_ret
            exact ⟨_, rfl, by simp, rfl⟩
          · have h2' : decide (200 < yh.size) = false := decide_eq_false h2
            have Hp1 : Hid (Small 200 (l.take (k + 1))) := Lib.hid (by
              rw [Hts.out]
              intro r hr
              rcases List.mem_append.1 hr with hr | hr
              · exact Hp.out r hr
              · simp at hr; subst hr; exact ⟨by show yl.size ≤ 200; omega, by show yh.size ≤ 200; omega⟩)
            go_wp2
            go_roundw
            case rel => exact ⟨k + 1, by omega, by go_num, Hp1, by trivial⟩
            case measure => simp [intOf]; omega
      · have hkm2 : decide ((k : Int) ≤ (most : Int)) = false := decide_eq_false (by omega)
        have hnm : decide (n ≤ most) = false := decide_eq_false (by omega)
        go_wp2
        go_ret
        exact ⟨_, rfl, by simp, rfl⟩
    · obtain rfl : k = n := by omega
      have E : Hid (Small 200 l) := Lib.hid (by have h1 := Hp.out; rwa [List.take_of_length_le (by have := Hl.out; omega)] at h1)
      have HE : Hid (∀ b, decide (k ≤ most) = b → LightPost l most wr (.returned (.bool b)) wr) := Lib.hid fun b hb => ⟨b, rfl, fun h => ⟨by rw [h] at hb; have := of_decide_eq_true hb; have := Hl.out; omega, E.out⟩, rfl⟩
      go_wp2
      go_ret
      exact HE.out _ rfl

/-! ### the example -/
def tA : ByteArray := ⟨#[97]⟩
def tB : ByteArray := ⟨#[98]⟩
def tC : ByteArray := ⟨#[99]⟩
def tE : ByteArray := ⟨#[101]⟩
def tX : ByteArray := ⟨#[120]⟩
theorem ex_has (a b : ByteArray) (hb : b.data.toList ≠ []) (s : List UInt8) : hasR ⟨a, b⟩ s ↔ ¬ s < a.data.toList ∧ s < b.data.toList :=
  ⟨fun h => ⟨h.1, h.2.resolve_left hb⟩, fun h => ⟨h.1, .inr h.2⟩⟩
theorem ex_least (m : List Rg) (h : IsForm m (inS [⟨tC, tE⟩, ⟨tA, tC⟩, ⟨tX, tB⟩])) : m = [⟨tA, tE⟩] := by
  refine isForm_uniq h (P := _) (Q := fun s => hasR ⟨tA, tE⟩ s) ⟨⟨by intro r hr; simp at hr; subst hr; decide, by simp⟩, fun s => in_one⟩ fun s => ?_
  rw [in_cons, in_cons, in_one, ex_has _ _ (by decide), ex_has _ _ (by decide), ex_has _ _ (by decide), ex_has _ _ (by decide)]
  have h1 : tA.data.toList < tC.data.toList := by decide
  have h2 : tC.data.toList < tE.data.toList := by decide
  have h3 : tB.data.toList < tX.data.toList := by decide
  constructor
  · rintro (⟨a, b⟩ | ⟨a, b⟩ | ⟨a, b⟩)
    · exact ⟨fun h => a (List.lt_trans h h1), b⟩
    · exact ⟨a, List.lt_trans b h2⟩
    · exact absurd (List.lt_trans b h3) a
  · rintro ⟨a, b⟩
    by_cases hc : s < tC.data.toList
    · exact .inr (.inl ⟨a, hc⟩)
    · exact .inl ⟨hc, b⟩
theorem ex_minus (m : List Rg) (h : IsForm m (fun s => inS [⟨tA, tE⟩] s ∧ ¬ hasR ⟨tB, tC⟩ s)) : m = [⟨tA, tB⟩, ⟨tC, tE⟩] := by
  refine isForm_uniq h (P := _) (Q := fun s => inS [⟨tA, tB⟩, ⟨tC, tE⟩] s) ⟨⟨by intro r hr; simp at hr; rcases hr with rfl | rfl <;> decide, by simp; decide⟩, fun s => Iff.rfl⟩ fun s => ?_
  have e1 : inS [⟨tA, tE⟩] s ↔ hasR ⟨tA, tE⟩ s := in_one
  have e2 : inS [⟨tA, tB⟩, ⟨tC, tE⟩] s ↔ hasR ⟨tA, tB⟩ s ∨ hasR ⟨tC, tE⟩ s := by rw [in_cons, in_one]
  rw [e1, e2, ex_has _ _ (by decide), ex_has _ _ (by decide), ex_has _ _ (by decide), ex_has _ _ (by decide)]
  have h1 : tA.data.toList < tB.data.toList := by decide
  have h2 : tB.data.toList < tC.data.toList := by decide
  have h3 : tC.data.toList < tE.data.toList := by decide
  constructor
  · rintro ⟨⟨a, b⟩, c⟩
    by_cases hb : s < tB.data.toList
    · exact .inl ⟨a, hb⟩
    · exact .inr ⟨fun hc => c ⟨hb, hc⟩, b⟩
  · rintro (⟨a, b⟩ | ⟨a, b⟩)
    · exact ⟨⟨a, List.lt_trans b (List.lt_trans h2 h3)⟩, fun h => h.1 b⟩
    · exact ⟨⟨fun h => a (List.lt_trans h (List.lt_trans h1 h2)), b⟩, fun h => a h.2⟩
theorem ex_lit (w : World) : HasRgs (w.alloc (.cells #[.string tC, .string tE, .string tA, .string tC, .string tX, .string tB] 23)) (w.heap.size + 1) (some ⟨w.heap.size, 0, none⟩) 3 [⟨tC, tE⟩, ⟨tA, tC⟩, ⟨tX, tB⟩] :=
  ⟨rfl, Has.lit w #[.string tC, .string tE, .string tA, .string tC, .string tX, .string tB] 23⟩
set_option maxRecDepth 100000 in
set_option maxHeartbeats 1600000 in
theorem awakeR_any (w : World) : Calls Try.prog 10 #[] w fun e w' => e = .returned (.bool true) ∧ Below w.heap.size w w' := by
  have h0 : (⟨#[]⟩ : ByteArray).size = 0 := rfl
  have Hle := Lib.hid (least_any (some ⟨w.heap.size, 0, none⟩) 3 3 (w.heap.size + 1) 1 _ _ (ex_lit w) (by simp only [World.size_alloc]; omega) (by omega) (by intro r hr; simp at hr; rcases hr with rfl | rfl | rfl <;> exact ⟨Nat.le_refl _, Nat.le_refl _⟩) (by omega))
  have hbl : Below w.heap.size w (w.alloc (.cells #[.string tC, .string tE, .string tA, .string tC, .string tX, .string tB] 23)) := below_box _
  have Hbl := Lib.hid hbl
  have Hmi := Lib.hid (fun A c wx (hx : HasRgs wx wx.heap.size A 1 [⟨tA, tE⟩]) => minus_any A 1 c wx.heap.size 1 [⟨tA, tE⟩] ⟨tB, tC⟩ wx hx (Nat.le_refl _) (by omega) (by intro r hr; simp at hr; subst hr; exact ⟨Nat.le_refl _, Nat.le_refl _⟩) (by omega) ⟨Nat.le_refl _, Nat.le_refl _⟩)
  have Hha := Lib.hid (fun wx => has_any ⟨tA, tE⟩ tB wx)
  have hd : decide (hasR ⟨tA, tE⟩ tB.data.toList) = true := by decide
  rw [hd] at Hha
  unfold ragg at Hmi Hha
  unfold tA tB tC tE tX at *
  clear hbl hd h0
  go_enter Try.func10, Try.ntmps10
  go_wp2_with fail
  refine Hle.out.mono ?_
  rintro e w1 ⟨m, v, rfl, om, fm, -, -, bm⟩
  obtain rfl := ex_least m fm
  obtain ⟨A1, c1, rfl, -, -, x1⟩ := om.slice
  have Hb1 : Hid (Below w.heap.size w w1) := Lib.hid (Hbl.out.trans (bm.mono (by simp)))
  obtain ⟨a, y, rfl, hx0, hy, q0, q1⟩ := x1.at_ (i := 0) (by simp)
  obtain rfl : ⟨⟨#[97]⟩, ⟨#[101]⟩⟩ = y := by simpa [tA, tE] using hy
  rw [show a.add (0 * 2) = a from rfl] at q0 q1
  simp only at q0 q1
  have Hmi1 := Lib.hid (Hmi.out (some a) c1 w1 x1)
  clear om fm bm x1 hy
  go_wp2_with fail
  refine Hmi1.out.mono ?_
  rintro e w2 ⟨m, v, rfl, om, fm, -, -, bm⟩
  obtain rfl := ex_minus m fm
  obtain ⟨A2, c2, rfl, -, -, -⟩ := om.slice
  have Hb2 : Hid (Below w.heap.size w w2) := Lib.hid (Hb1.out.trans (bm.mono Hb1.out.size))
  have r0 := below_cell (p := a) bm hx0 q0
  have r1 := below_cell (p := ⟨a.block, a.off + 1, none⟩) bm (by exact hx0) q1
  rw [show ([⟨tA, tB⟩, ⟨tC, tE⟩] : List Rg).length = 2 from rfl]
  clear om fm bm q0 q1 hx0
  go_wp2_with fail
  refine (Hha.out _).mono ?_
  rintro e w3 ⟨rfl, b3⟩
  have Hb3 := Lib.hid (Hb2.out.trans (b3.mono Hb2.out.size))
  clear b3
  go_wp2
  go_ret
  exact ⟨rfl, Hb3.out⟩
end Go.Proofs.Ytijcaefpainhcaa
