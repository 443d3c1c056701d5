/- Layer 16: both tables side by side through a loop over acts, call by call. Condition: both are in memory, their locks as they may be. -/
import Derived.Test.YtijcaefpainhcaaRngN
import Derived.Test.YtijcaefpainhcaaRngO
import Derived.Laws.StructEq
import Derived.Test.YtijcaefpainhcaaOpen
import Derived.Test.YtijcaefpainhcaaSpecDo
import Derived.Deep.Slices
import Derived.Test.YtijcaefpainhcaaRkF
import Derived.Deep.RegionHeld3
namespace Go.Proofs.Ytijcaefpainhcaa
open Go.RowKit
open Go.Lib (strCells compareBytes)

theorem below_drR {B : Nat} {a w : World} (h : Below B a w) (n : Nat) : Below B a (w.drewN n) := ⟨h.os, h.tape, h.output, h.size, h.block⟩
set_option maxRecDepth 100000 in
set_option maxHeartbeats 1600000 in
theorem sameR_any (A A' : Option Addr) (n n' c c' C C' : Nat) (l m : List Rg) (w : World) (h : HasRgs w C A n l) (h' : HasRgs w C' A' n' m) (hn : n ≤ maxLen) (hn' : n' ≤ maxLen) :
    Calls Try.prog 18 #[.slice A n c, .slice A' n' c'] w fun e w' => e = .returned (.bool (decide (l = m))) ∧ Below w.heap.size w w' := by
  unfold maxLen at hn hn'
  have H := Lib.hid h
  have H' := Lib.hid h'
  have Hl := Lib.hid h.1
  have Hm := Lib.hid h'.1
  clear h h'
  by_cases hnn : n = n'
  · subst hnn
    go_enter Try.func18, Try.ntmps18
    go_wp2
    go_loopw [5] (fun i wr => ∃ k : Nat, k ≤ n ∧ i = .int .i64 (k : Int) ∧ Hid (l.take k = m.take k) ∧ ∃ q, wr = w.drewN q) (fun i _ => n - (intOf i).toNat)
    case atStart => exact ⟨0, by omega, rfl, Lib.hid rfl, 0, rfl⟩
    case round =>
      obtain ⟨k, hk, rfl, Ht, q, rfl⟩ := hrel
      by_cases hlt : k < n
      · obtain ⟨a, v, rfl, _, hv, c0, c1⟩ := H.out.at_ hlt
        obtain ⟨b, u, rfl, _, hu, d0, d1⟩ := H'.out.at_ hlt
        have hk0 : (0 : Int) ≤ (k : Int) := by omega
        have hk1 : (k : Int) < (n : Int) := by omega
        have Hv := Lib.hid hv
        have Hu := Lib.hid hu
        clear hv hu
        by_cases e : v = u
        · subst e
          go_wp2
          go_quiet (fail)
          go_wp2
          go_roundw
          case rel => exact ⟨k + 1, by omega, by go_num, Lib.hid (by rw [List.take_add_one, List.take_add_one, Ht.out, Hv.out, Hu.out]), _, rfl⟩
          case measure => simp [intOf]; omega
        · have E : Hid (decide (l = m) = false) := Lib.hid (decide_eq_false fun e' => by
            rw [e', Hu.out] at Hv
            exact e (Option.some.inj Hv.out).symm)
          obtain ⟨vs, vt⟩ := v
          obtain ⟨us, ut⟩ := u
          have hx : (vs ≠ us) ∨ (vs = us ∧ vt ≠ ut) := by
            by_cases h1 : vs = us
            · exact .inr ⟨h1, fun h2 => e (by rw [h1, h2])⟩
            · exact .inl h1
          simp only at c0 c1 d0 d1
          clear e
          rcases hx with hx | ⟨rfl, hx⟩
          · have hb : (vs.toList == us.toList) = false := by rw [text_eq]; exact decide_eq_false hx
            clear hx
            go_wp2
            go_quiet (fail)
            go_wp2
            go_ret
            exact ⟨ret_bool (by rw [E.out]), below_drR (below_drR (Below.refl _ _) _) _⟩
          · have hb : (vt.toList == ut.toList) = false := by rw [text_eq]; exact decide_eq_false hx
            clear hx
            go_wp2
            go_quiet (fail)
            go_wp2
            go_ret
            exact ⟨ret_bool (by rw [E.out]), below_drR (below_drR (Below.refl _ _) _) _⟩
      · have E : Hid (decide (l = m) = true) := Lib.hid (decide_eq_true (by
          have h1 := Ht.out
          rwa [List.take_of_length_le (by have := Hl.out; omega), List.take_of_length_le (by have := Hm.out; omega)] at h1))
        go_wp2
        go_ret
        exact ⟨ret_bool (by rw [E.out]), below_drR (Below.refl _ _) _⟩
  · have E : Hid (decide (l = m) = false) := Lib.hid (decide_eq_false fun e => hnn (by rw [← Hl.out, ← Hm.out, e]))
    have hb : ((n : Int) != (n' : Int)) = true := by simp; omega
    clear hnn
    go_enter Try.func18, Try.ntmps18
    go_wp2
    go_ret
    exact ⟨ret_bool (by rw [E.out]), Below.refl _ _⟩

def LightPost (l : List Rg) (most : Nat) (w : World) (e : Ending) (w' : World) : Prop := ∃ b, e = .returned (.bool b) ∧ (b = true → l.length ≤ most ∧ Small 200 l) ∧ w' = w
set_option maxRecDepth 100000 in
set_option maxHeartbeats 1600000 in
theorem lightR_any (A : Option Addr) (n c C most : Nat) (l : List Rg) (w : World) (h : HasRgs w C A n l) (hn : n ≤ maxLen) (hs : ∀ r ∈ l, r.lo.size ≤ maxLen ∧ r.hi.size ≤ maxLen) :
    Calls Try.prog 11 #[.slice A n c, .int .i64 (most : Int)] w (LightPost l most w) := by
  unfold maxLen at hn hs
  have H := Lib.hid h
  have Hl := Lib.hid h.1
  have Hs := Lib.hid hs
  clear h hs
  go_enter Try.func11, Try.ntmps11
  go_wp2
  go_loopw [5] (fun iv wr => ∃ k : Nat, k ≤ n ∧ iv = .int .i64 (k : Int) ∧ Hid (Small 200 (l.take k)) ∧ wr = w) (fun iv _ => n - (intOf iv).toNat)
  case atStart => exact ⟨0, by omega, rfl, Lib.hid (by intro r hr; simp at hr), rfl⟩
  case round =>
    obtain ⟨k, hk, rfl, Hp, rfl⟩ := hrel
    by_cases hlt : k < n
    · have hk0 : (0 : Int) ≤ (k : Int) := by omega
      have hk1 : (k : Int) < (n : Int) := by omega
      by_cases hkm : k ≤ most
      · obtain ⟨a, y, rfl, hab, hy, c0, c1⟩ := H.out.at_ hlt
        have Hts : Hid (l.take (k + 1) = l.take k ++ [y]) := Lib.hid (by rw [List.take_add_one, hy]; rfl)
        have hys := Hs.out y (List.mem_of_getElem? hy)
        have hkm2 : decide ((k : Int) ≤ (most : Int)) = true := decide_eq_true (by omega)
        obtain ⟨yl, yh⟩ := y
        simp only at c0 c1 hys
        have hz1 := hys.1
        have hz2 := hys.2
        clear hy hys
        by_cases h1 : 200 < yl.size
        · have h1' : decide (200 < yl.size) = true := decide_eq_true h1
          go_wp2
          go_ret
          exact ⟨_, rfl, by simp, rfl⟩
        · have h1' : decide (200 < yl.size) = false := decide_eq_false h1
          by_cases h2 : 200 < yh.size
          · have h2' : decide (200 < yh.size) = true := decide_eq_true h2
            go_wp2
            go_ret
            exact ⟨_, rfl, by simp, rfl⟩
          · have h2' : decide (200 < yh.size) = false := decide_eq_false h2
            have Hp1 : Hid (Small 200 (l.take (k + 1))) := Lib.hid (by
              rw [Hts.out]
              intro r hr
              rcases List.mem_append.1 hr with hr | hr
              · exact Hp.out r hr
              · simp at hr; subst hr; exact ⟨by show yl.size ≤ 200; omega, by show yh.size ≤ 200; omega⟩)
            go_wp2
            go_roundw
            case rel => exact ⟨k + 1, by omega, by go_num, Hp1, by trivial⟩
            case measure => simp [intOf]; omega
      · have hkm2 : decide ((k : Int) ≤ (most : Int)) = false := decide_eq_false (by omega)
        have hnm : decide (n ≤ most) = false := decide_eq_false (by omega)
        go_wp2
        go_ret
        exact ⟨_, rfl, by simp, rfl⟩
    · obtain rfl : k = n := by omega
      have E : Hid (Small 200 l) := Lib.hid (by have h1 := Hp.out; rwa [List.take_of_length_le (by have := Hl.out; omega)] at h1)
      have HE : Hid (∀ b, decide (k ≤ most) = b → LightPost l most wr (.returned (.bool b)) wr) := Lib.hid fun b hb => ⟨b, rfl, fun h => ⟨by rw [h] at hb; have := of_decide_eq_true hb; have := Hl.out; omega, E.out⟩, rfl⟩
      go_wp2
      go_ret
      exact HE.out _ rfl

/-! ### the example -/
def tA : ByteArray := ⟨#[97]⟩
def tB : ByteArray := ⟨#[98]⟩
def tC : ByteArray := ⟨#[99]⟩
def tE : ByteArray := ⟨#[101]⟩
def tX : ByteArray := ⟨#[120]⟩
theorem ex_has (a b : ByteArray) (hb : b.data.toList ≠ []) (s : List UInt8) : hasR ⟨a, b⟩ s ↔ ¬ s < a.data.toList ∧ s < b.data.toList :=
  ⟨fun h => ⟨h.1, h.2.resolve_left hb⟩, fun h => ⟨h.1, .inr h.2⟩⟩
theorem ex_least (m : List Rg) (h : IsForm m (inS [⟨tC, tE⟩, ⟨tA, tC⟩, ⟨tX, tB⟩])) : m = [⟨tA, tE⟩] := by
  refine isForm_uniq h (P := _) (Q := fun s => hasR ⟨tA, tE⟩ s) ⟨⟨by intro r hr; simp at hr; subst hr; decide, by simp⟩, fun s => in_one⟩ fun s => ?_
  rw [in_cons, in_cons, in_one, ex_has _ _ (by decide), ex_has _ _ (by decide), ex_has _ _ (by decide), ex_has _ _ (by decide)]
  have h1 : tA.data.toList < tC.data.toList := by decide
  have h2 : tC.data.toList < tE.data.toList := by decide
  have h3 : tB.data.toList < tX.data.toList := by decide
  constructor
  · rintro (⟨a, b⟩ | ⟨a, b⟩ | ⟨a, b⟩)
    · exact ⟨fun h => a (List.lt_trans h h1), b⟩
    · exact ⟨a, List.lt_trans b h2⟩
    · exact absurd (List.lt_trans b h3) a
  · rintro ⟨a, b⟩
    by_cases hc : s < tC.data.toList
    · exact .inr (.inl ⟨a, hc⟩)
    · exact .inl ⟨hc, b⟩
theorem ex_minus (m : List Rg) (h : IsForm m (fun s => inS [⟨tA, tE⟩] s ∧ ¬ hasR ⟨tB, tC⟩ s)) : m = [⟨tA, tB⟩, ⟨tC, tE⟩] := by
  refine isForm_uniq h (P := _) (Q := fun s => inS [⟨tA, tB⟩, ⟨tC, tE⟩] s) ⟨⟨by intro r hr; simp at hr; rcases hr with rfl | rfl <;> decide, by simp; decide⟩, fun s => Iff.rfl⟩ fun s => ?_
  have e1 : inS [⟨tA, tE⟩] s ↔ hasR ⟨tA, tE⟩ s := in_one
  have e2 : inS [⟨tA, tB⟩, ⟨tC, tE⟩] s ↔ hasR ⟨tA, tB⟩ s ∨ hasR ⟨tC, tE⟩ s := by rw [in_cons, in_one]
  rw [e1, e2, ex_has _ _ (by decide), ex_has _ _ (by decide), ex_has _ _ (by decide), ex_has _ _ (by decide)]
  have h1 : tA.data.toList < tB.data.toList := by decide
  have h2 : tB.data.toList < tC.data.toList := by decide
  have h3 : tC.data.toList < tE.data.toList := by decide
  constructor
  · rintro ⟨⟨a, b⟩, c⟩
    by_cases hb : s < tB.data.toList
    · exact .inl ⟨a, hb⟩
    · exact .inr ⟨fun hc => c ⟨hb, hc⟩, b⟩
  · rintro (⟨a, b⟩ | ⟨a, b⟩)
    · exact ⟨⟨a, List.lt_trans b (List.lt_trans h2 h3)⟩, fun h => h.1 b⟩
    · exact ⟨⟨fun h => a (List.lt_trans h (List.lt_trans h1 h2)), b⟩, fun h => a h.2⟩
theorem ex_lit (w : World) : HasRgs (w.alloc (.cells #[.string tC, .string tE, .string tA, .string tC, .string tX, .string tB] 23)) (w.heap.size + 1) (some ⟨w.heap.size, 0, none⟩) 3 [⟨tC, tE⟩, ⟨tA, tC⟩, ⟨tX, tB⟩] :=
  ⟨rfl, Has.lit w #[.string tC, .string tE, .string tA, .string tC, .string tX, .string tB] 23⟩
set_option maxRecDepth 100000 in
set_option maxHeartbeats 1600000 in
theorem awakeR_any (w : World) : Calls Try.prog 10 #[] w fun e w' => e = .returned (.bool true) ∧ Below w.heap.size w w' := by
  have h0 : (⟨#[]⟩ : ByteArray).size = 0 := rfl
  have Hle := Lib.hid (least_any (some ⟨w.heap.size, 0, none⟩) 3 3 (w.heap.size + 1) 1 _ _ (ex_lit w) (by simp only [World.size_alloc]; omega) (by omega) (by intro r hr; simp at hr; rcases hr with rfl | rfl | rfl <;> exact ⟨Nat.le_refl _, Nat.le_refl _⟩) (by omega))
  have hbl : Below w.heap.size w (w.alloc (.cells #[.string tC, .string tE, .string tA, .string tC, .string tX, .string tB] 23)) := below_box _
  have Hbl := Lib.hid hbl
  have Hmi := Lib.hid (fun A c wx (hx : HasRgs wx wx.heap.size A 1 [⟨tA, tE⟩]) => minus_any A 1 c wx.heap.size 1 [⟨tA, tE⟩] ⟨tB, tC⟩ wx hx (Nat.le_refl _) (by omega) (by intro r hr; simp at hr; subst hr; exact ⟨Nat.le_refl _, Nat.le_refl _⟩) (by omega) ⟨Nat.le_refl _, Nat.le_refl _⟩)
  have Hha := Lib.hid (fun wx => has_any ⟨tA, tE⟩ tB wx)
  have hd : decide (hasR ⟨tA, tE⟩ tB.data.toList) = true := by decide
  rw [hd] at Hha
  unfold ragg at Hmi Hha
  unfold tA tB tC tE tX at *
  clear hbl hd h0
  go_enter Try.func10, Try.ntmps10
  go_wp2_with fail
  refine Hle.out.mono ?_
  rintro e w1 ⟨m, v, rfl, om, fm, -, -, bm⟩
  obtain rfl := ex_least m fm
  obtain ⟨A1, c1, rfl, -, -, x1⟩ := om.slice
  have Hb1 : Hid (Below w.heap.size w w1) := Lib.hid (Hbl.out.trans (bm.mono (by simp)))
  obtain ⟨a, y, rfl, hx0, hy, q0, q1⟩ := x1.at_ (i := 0) (by simp)
  obtain rfl : ⟨⟨#[97]⟩, ⟨#[101]⟩⟩ = y := by simpa [tA, tE] using hy
  rw [show a.add (0 * 2) = a from rfl] at q0 q1
  simp only at q0 q1
  have Hmi1 := Lib.hid (Hmi.out (some a) c1 w1 x1)
  clear om fm bm x1 hy
  go_wp2_with fail
  refine Hmi1.out.mono ?_
  rintro e w2 ⟨m, v, rfl, om, fm, -, -, bm⟩
  obtain rfl := ex_minus m fm
  obtain ⟨A2, c2, rfl, -, -, -⟩ := om.slice
  have Hb2 : Hid (Below w.heap.size w w2) := Lib.hid (Hb1.out.trans (bm.mono Hb1.out.size))
  have r0 := below_cell (p := a) bm hx0 q0
  have r1 := below_cell (p := ⟨a.block, a.off + 1, none⟩) bm (by exact hx0) q1
  rw [show ([⟨tA, tB⟩, ⟨tC, tE⟩] : List Rg).length = 2 from rfl]
  clear om fm bm q0 q1 hx0
  go_wp2_with fail
  refine (Hha.out _).mono ?_
  rintro e w3 ⟨rfl, b3⟩
  have Hb3 := Lib.hid (Hb2.out.trans (b3.mono Hb2.out.size))
  clear b3
  go_wp2
  go_ret
  exact ⟨rfl, Hb3.out⟩
end Go.Proofs.Ytijcaefpainhcaa

namespace Go.Proofs.Ytijcaefpainhcaa
open Go.RowKit
open Go.Lib (strCells compareBytes)

theorem one_lit (w : World) (a : Rg) : HasRgs (w.alloc (.cells #[.string a.lo, .string a.hi] 23)) (w.heap.size + 1) (some ⟨w.heap.size, 0, none⟩) 1 [a] := ⟨rfl, rg_lit w a⟩
theorem same_true {A A' : Option Addr} {n n' c c' : Nat} {l : List Rg} {w : World} (h : HasRgs w w.heap.size A n l) (h' : HasRgs w w.heap.size A' n' l) (hn : n ≤ 1000000) (hn' : n' ≤ 1000000) :
    Calls Try.prog 18 #[.slice A n c, .slice A' n' c'] w fun e w' => e = .returned (.bool true) ∧ Below w.heap.size w w' := by
  have h1 := sameR_any A A' n n' c c' _ _ l l w h h' (by unfold maxLen; omega) (by unfold maxLen; omega)
  rw [decide_eq_true rfl] at h1
  exact h1
end Go.Proofs.Ytijcaefpainhcaa

namespace Go.Proofs.Ytijcaefpainhcaa
open Go.ChangeShapes Go.WideShapes Go.ChangeAt Go.RowKit

instance : Inhabited LA := ⟨⟨0, 0, ⟨⟨#[]⟩, ⟨#[]⟩⟩⟩⟩
theorem la_step (a : Addr) (p j : Nat) (hj : 0 < j) : a.add (p + j) = ⟨(a.add p).block, (a.add p).off + j, none⟩ := by
  rw [← addr_add]
  generalize a.add p = b
  unfold Addr.add
  rw [if_neg (by omega)]
/-- the four cells of an act -/
def LaAt (w : World) (b : Addr) (o : LA) : Prop := w.cell? b = some (.int .i64 o.kind) ∧ w.cell? ⟨b.block, b.off + 1, none⟩ = some (.int .i64 o.id) ∧ w.cell? ⟨b.block, b.off + 2, none⟩ = some (.string o.r.lo) ∧ w.cell? ⟨b.block, b.off + 3, none⟩ = some (.string o.r.hi)
/-- n acts, from A on, in memory below block B -/
def HasLas (w : World) (B : Nat) (A : Option Addr) (n : Nat) (l : List LA) : Prop :=
  l.length = n ∧ ∀ i o, l[i]? = some o → ∃ a : Addr, A = some a ∧ a.block < B ∧ LaAt w (a.add (i * 4)) o
theorem HasLas.belowOf {w w' : World} {B C n : Nat} {A : Option Addr} {l : List LA} (h : HasLas w B A n l) (hb : Below C w w') (hC : B ≤ C) : HasLas w' B A n l :=
  ⟨h.1, fun i o ho => by
    obtain ⟨a, e, h1, h2, h3, h4, h5⟩ := h.2 i o ho
    have k : ∀ p : Addr, p.block = a.block → w'.cell? p = w.cell? p := fun p hp => hb.cell (by omega)
    exact ⟨a, e, h1, (k _ (addr_block _ _)).trans h2, (k _ (by simp [addr_block])).trans h3, (k _ (by simp [addr_block])).trans h4, (k _ (by simp [addr_block])).trans h5⟩⟩
theorem HasLas.at_ {w : World} {B n : Nat} {A : Option Addr} {l : List LA} (h : HasLas w B A n l) {i : Nat} (hi : i < n) : ∃ (a : Addr) (o : LA), A = some a ∧ a.block < B ∧ l[i]? = some o ∧ LaAt w (a.add (i * 4)) o := by
  have hil : i < l.length := by have := h.1; omega
  obtain ⟨a, e, r⟩ := h.2 i l[i] (List.getElem?_eq_getElem hil)
  exact ⟨a, _, e, r.1, List.getElem?_eq_getElem hil, r.2⟩
/-- an act's number is one, its texts fit -/
def LaOk (u : LA) : Prop := (-9223372036854775808 ≤ u.id ∧ u.id ≤ 9223372036854775807) ∧ u.r.lo.size ≤ maxLen ∧ u.r.hi.size ≤ maxLen
section
variable {H : Type} {enc : TypeId × Value → H} {P : Program} {W : World}
theorem open_las {t e : TypeId} {f0 f1 f2 g0 g1 : Field} {r : Reach} {base : Nat} {v : Value} {d : DataW H} {ps : List MemPlace} (ht : P.underlying t = some (.slice e)) (he : P.underlying e = some (.struct #[f0, f1, f2])) (hC : P.cellsOf e = 4)
    (ho : f0.offset = 0 ∧ f1.offset = 1 ∧ f2.offset = 2) (hc : P.cellsOf f0.type = 1 ∧ P.cellsOf f1.type = 1 ∧ P.cellsOf f2.type = 2)
    (hu : P.underlying f0.type = some (.int .i64) ∧ P.underlying f1.type = some (.int .i64) ∧ P.underlying f2.type = some (.struct #[g0, g1]))
    (go : g0.offset = 0 ∧ g1.offset = 1) (gc : P.cellsOf g0.type = 1 ∧ P.cellsOf g1.type = 1) (gu : P.underlying g0.type = some .string ∧ P.underlying g1.type = some .string)
    (hval : Value.okWide P W r base t v) (h : DataW.Trod enc P W 0 (fun _ => true) true t v d ps) (hlt : ∀ x ∈ ps, x.block < W.heap.size) :
    ∃ (A : Option Addr) (n c : Nat) (l : List LA), v = .slice A n c ∧ n ≤ maxLen ∧ n ≤ c ∧ HasLas W W.heap.size A n l ∧ ∀ u ∈ l, LaOk u := by
  obtain ⟨A, n, c, rfl⟩ := okWide_slice ht hval
  obtain ⟨fuel, hf⟩ := h
  rcases Go.Deep.open_slice ht hf with ⟨hcs, _⟩ | ⟨a, len, cap, m, n', D, Pl, hcs, _, hle, hmax, hm, hx, hi⟩
  · simp [Value.cells] at hcs
    obtain ⟨rfl, rfl, rfl⟩ := hcs
    exact ⟨none, 0, 0, [], rfl, by simp [maxLen], Nat.le_refl _, ⟨rfl, by simp⟩, by simp⟩
  · simp [Value.cells] at hcs
    obtain ⟨rfl, rfl, rfl⟩ := hcs
    simp only [if_true] at hm
    have hm2 := hm.symm
    subst hm2
    have hone : ∀ i, i < n → ∃ u : LA, LaAt W (a.add (i * 4)) u ∧ LaOk u := by
      intro i hin
      obtain ⟨cs', hcells, htrod⟩ := hi i (by omega)
      rw [hC] at hcells
      obtain ⟨_, hlen, hat⟩ := World.cells?_some hcells
      obtain ⟨xs, n1, _, _, _, _, hg⟩ := DataW.trod_struct he htrod
      match cs', hlen with
      | [w0, w1, w2, w3], _ =>
        have k0 := hg 0 f0 rfl
        have k1 := hg 1 f1 rfl
        have k2 := hg 2 f2 rfl
        rw [ho.1, hc.1] at k0
        rw [ho.2.1, hc.2.1] at k1
        rw [ho.2.2, hc.2.2] at k2
        have hxs : xs.length = 3 := by assumption
        match xs, hxs with
        | [y0, y1, y2], _ =>
          obtain ⟨z0, e0, _, _⟩ := DataW.trod_int hu.1 k0
          obtain ⟨z1, e1, _, wf1⟩ := DataW.trod_int hu.2.1 k1
          obtain ⟨xs2, n2, _, _, _, _, hg2⟩ := DataW.trod_struct hu.2.2 k2
          have hxs2 : xs2.length = 2 := by assumption
          match xs2, hxs2 with
          | [v0, v1], _ =>
            have m0 := hg2 0 g0 rfl
            have m1 := hg2 1 g1 rfl
            rw [go.1, gc.1] at m0
            rw [go.2, gc.2] at m1
            obtain ⟨z2, e2, _, hz2⟩ := DataW.trod_string gu.1 m0
            obtain ⟨z3, e3, _, hz3⟩ := DataW.trod_string gu.2 m1
            simp at e0 e1 e2 e3
            subst e0
            subst e1
            subst e2
            subst e3
            have c0 := hat 0 (by omega)
            have c1 := hat 1 (by omega)
            have c2 := hat 2 (by omega)
            have c3 := hat 3 (by omega)
            rw [Go.Deep.add_add] at c0 c1 c2 c3
            rw [la_step a _ 1 (by omega)] at c1
            rw [la_step a _ 2 (by omega)] at c2
            rw [la_step a _ 3 (by omega)] at c3
            have b1 := bounds_i64 wf1
            exact ⟨⟨z0, z1, ⟨z2, z3⟩⟩, ⟨c0, c1, c2, c3⟩, by dsimp only; omega, hz2, hz3⟩
    obtain ⟨f, hfv⟩ := Go.Deep.choose_lt hone
    refine ⟨some a, n, c, (List.range n).map f, rfl, by omega, hle, ⟨by simp, fun i o hio => ?_⟩, ?_⟩
    · have hin : i < n := by have := (List.getElem?_eq_some_iff.1 hio).1; simpa using this
      have eo : f i = o := by simpa [hin] using hio
      refine ⟨a, rfl, ?_, eo ▸ (hfv i hin).1⟩
      simp only [Prod.mk.injEq] at hx
      obtain ⟨p, hp, hpb⟩ := row_block (a := a) (n := c * P.cellsOf e) (by rw [hC]; omega)
      rw [← hpb]
      refine hlt p ?_
      rw [hx.2]
      exact List.mem_append_left _ hp
    · intro u hu'
      obtain ⟨i, hin, rfl⟩ := List.mem_map.1 hu'
      exact (hfv i (List.mem_range.1 hin)).2
end
end Go.Proofs.Ytijcaefpainhcaa

namespace Go.Proofs.Ytijcaefpainhcaa
open Go.RowKit Go.Maps

def LightL (n : Nat) (l : List LA) (w : World) (e : Ending) (w' : World) : Prop := ∃ b, e = .returned (.bool b) ∧ (b = true → n < 100 ∧ ∀ u ∈ l, u.r.lo.size ≤ 200 ∧ u.r.hi.size ≤ 200) ∧ Below w.heap.size w w'
set_option maxRecDepth 100000 in
set_option maxHeartbeats 1600000 in
theorem light16_any (A : Option Addr) (n c C : Nat) (l : List LA) (w : World) (h : HasLas w C A n l) (hC : C ≤ w.heap.size) (hn : n ≤ maxLen) (hs : ∀ u ∈ l, LaOk u) :
    Calls Try.prog 26 #[.slice A n c] w (LightL n l w) := by
  unfold maxLen at hn
  have H := Lib.hid h
  have Hl := Lib.hid h.1
  have Hs := Lib.hid hs
  clear h hs
  go_enter Try.func26, Try.ntmps26
  go_wp2
  go_loopw [3] (fun iv wr => ∃ k : Nat, k ≤ n ∧ iv = .int .i64 (k : Int) ∧ Hid ((∀ u ∈ l.take k, u.r.lo.size ≤ 200 ∧ u.r.hi.size ≤ 200) ∧ Below w.heap.size w wr)) (fun iv _ => n - (intOf iv).toNat)
  case atStart => exact ⟨0, by omega, rfl, Lib.hid ⟨by simp, Below.refl _ _⟩⟩
  case round =>
    obtain ⟨k, hk, rfl, Hp⟩ := hrel
    by_cases hlt : k < n
    · have hk0 : (0 : Int) ≤ (k : Int) := by omega
      have hk1 : (k : Int) < (n : Int) := by omega
      by_cases hkm : k < 100
      · obtain ⟨a, y, rfl, hab, hy, c0, c1, c2, c3⟩ := (H.out.belowOf Hp.out.2 hC).at_ hlt
        have Hts : Hid (l.take (k + 1) = l.take k ++ [y]) := Lib.hid (by rw [List.take_add_one, hy]; rfl)
        have hys := (Hs.out y (List.mem_of_getElem? hy)).2
        have hkm2 : decide ((k : Int) < 100) = true := decide_eq_true (by omega)
        obtain ⟨yk, yi, ⟨yl, yh⟩⟩ := y
        simp only at c0 c1 c2 c3 hys
        obtain ⟨w2, hw2⟩ : ∃ w2, wr.alloc (.cells #[.string yl, .string yh] 23) = w2 := ⟨_, rfl⟩
        have Hli := Lib.hid (lightR_any (some ⟨wr.heap.size, 0, none⟩) 1 1 (wr.heap.size + 1) 1 [⟨yl, yh⟩] w2 (hw2 ▸ one_lit wr ⟨yl, yh⟩) (by simp [maxLen]) (fun r hr => by simp at hr; subst hr; exact hys))
        have Hb2 : Hid (Below w.heap.size w w2) := Lib.hid (hw2 ▸ Hp.out.2.trans ((below_box _).mono Hp.out.2.size))
        clear hy hys hab c0 c1
        go_wp2_with fail
        refine Hli.out.mono ?_
        rintro e w3 ⟨b, rfl, hb, rfl⟩
        cases b with
        | false =>
          go_wp2
          go_ret
          exact ⟨_, rfl, by simp, Hb2.out⟩
        | true =>
          have Hp1 : Hid ((∀ u ∈ l.take (k + 1), u.r.lo.size ≤ 200 ∧ u.r.hi.size ≤ 200) ∧ Below w.heap.size w w3) := Lib.hid ⟨by
            rw [Hts.out]
            intro u hu
            rcases List.mem_append.1 hu with hu | hu
            · exact Hp.out.1 u hu
            · simp at hu; subst hu; exact (hb rfl).2 ⟨yl, yh⟩ (by simp), Hb2.out⟩
          clear hb
          go_wp2
          go_roundw
          case rel => exact ⟨k + 1, by omega, by go_num, Hp1⟩
          case measure => simp [intOf]; omega
      · have hkm2 : decide ((k : Int) < 100) = false := decide_eq_false (by omega)
        have hnm : decide ((n : Int) < 100) = false := decide_eq_false (by omega)
        go_wp2
        go_ret
        exact ⟨false, ret_bool (by simp), by simp, Hp.out.2⟩
    · obtain rfl : k = n := by omega
      have HE : Hid (LightL k l w (.returned (.bool (decide ((k : Int) < 100)))) wr) := Lib.hid ⟨_, rfl, fun hd => ⟨by have := of_decide_eq_true hd; omega, by
        have h1 := Hp.out.1
        rwa [List.take_of_length_le (by have := Hl.out; omega)] at h1⟩, Hp.out.2⟩
      go_wp2
      go_ret
      have h9 := HE.out
      simpa using h9
/-! ### one table, and both side by side -/
/-- the pointer to block sb is a table with the locks E, above block B -/
def LS (B : Nat) (w : World) (sb mb : Nat) (lease : Int) (E : List TL) : Prop := ∃ F M, LkAt w F sb mb lease M ∧ pl M = E ∧ ∀ i, F i → B ≤ i
structure PS (B : Nat) (w : World) (F G : Nat → Prop) (sb mb rb : Nat) (v : Value) (lease lease2 now : Int) (M : List LE) (R : List RE) : Prop where
  lk : LkAt w F sb mb lease M
  rf : RfAt w G rb v lease2 now R
  dis : ∀ i, F i → ¬ G i
  fB : ∀ i, F i → B ≤ i
  gB : ∀ i, G i → B ≤ i
section
variable {B : Nat} {w w' wx wA wB : World} {F G : Nat → Prop} {sb mb rb : Nat} {v v' : Value} {lease lease2 now now' : Int} {M M' : List LE} {R R' : List RE}
theorem PS.below (h : PS B w F G sb mb rb v lease lease2 now M R) (hb : Below w.heap.size w w') : PS B w' F G sb mb rb v lease lease2 now M R := ⟨h.lk.below hb, h.rf.below hb, h.dis, h.fB, h.gB⟩
/-- behind a call of the table's -/
theorem PS.prog (h : PS B w F G sb mb rb v lease lease2 now M R) (k : KeptF F w w') (hl : LkAt w' (addF F w w') sb mb lease M') (hB : B ≤ w.heap.size) : PS B w' (addF F w w') G sb mb rb v lease lease2 now M' R :=
  ⟨hl, h.rf.other k fun i hi hf => h.dis i hf hi, fun i hi hg => hi.elim (fun hf => h.dis i hf hg) (fun hi => by have := h.rf.lt i hg; omega), addF_ge h.fB hB, h.gB⟩
/-- behind a call of the document's table -/
theorem PS.ref (h : PS B w F G sb mb rb v lease lease2 now M R) (k : KeptF G w w') (hl : RfAt w' (addF G w w') rb v' lease2 now' R') (hB : B ≤ w.heap.size) : PS B w' F (addF G w w') sb mb rb v' lease lease2 now' M R' :=
  ⟨h.lk.other k h.dis, hl, fun i hf hi => hi.elim (h.dis i hf) (fun hi => by have := h.lk.lt i hf; omega), h.fB, addF_ge h.gB hB⟩
/-- both have done their part: what is left, and a box of the caller's -/
theorem PS.two {b : Nat} {t : TypeId} {cs : Array Value} (h : PS B w F G sb mb rb v lease lease2 now M R) (hB : B ≤ w.heap.size) (kA : KeptF F w wA) (lA : LkAt wA (addF F w wA) sb mb lease M') (kB : KeptF G wA wB) (rB : RfAt wB (addF G wA wB) rb v' lease2 now' R') :
    PS B wB (addF F w wA) (addF G wA wB) sb mb rb v' lease lease2 now' M' R' ∧ Below B w wB ∧ (Box w b t cs → ¬ F b → ¬ G b → Box wA b t cs ∧ Box wB b t cs) := by
  have h1 := h.prog kA lA hB
  have bA := kA.below h.fB hB
  have h2 := h1.ref kB rB (Nat.le_trans hB kA.size)
  refine ⟨h2, bA.trans (kB.below h.gB (Nat.le_trans hB kA.size)), fun hb hf hg => ?_⟩
  have x := (kA.block b hb.lt hf).trans hb
  exact ⟨x, (kB.block b (Nat.lt_of_lt_of_le hb.lt kA.size) hg).trans x⟩
end
end Go.Proofs.Ytijcaefpainhcaa

namespace Go.Proofs.Ytijcaefpainhcaa
open Go.RowKit Go.Maps

/-- what the document's table has to be for an act -/
structure RIn (now : Int) (R : List RE) : Prop where
  rise : RiseL (rl R)
  len : R.length ≤ 9000
  rows : ∀ e ∈ R, e.p.L.length ≤ 9000
  left : ∀ e ∈ R, 0 ≤ e.p.left ∧ e.p.left ≤ now
  now : 0 ≤ now ∧ now ≤ 100000
theorem wf_of {k : Int} (h : -9223372036854775808 ≤ k ∧ k ≤ 9223372036854775807) : (Lit.int .i64 k).wf = true := by
  have h1 : IntKind.i64.min = -9223372036854775808 := by decide
  have h2 : IntKind.i64.max = 9223372036854775807 := by decide
  simpa only [Lit.wf, h1, h2, Bool.and_eq_true, decide_eq_true_eq] using h
def DoPost (B : Nat) (w : World) (sb mb rb : Nat) (lease lease2 now : Int) (N : Nat) (a : LA) (E R : List TL) (e : Ending) (w' : World) : Prop :=
  e = .returned (.bool (tellT a E R)) ∧ TInv lease (N + 1) (stepT lease a E) ∧ Below B w w' ∧ ∃ F G v M' R', PS B w' F G sb mb rb v lease lease2 (nowR now a) M' R' ∧ pl M' = stepT lease a E ∧ rl R' = stepR lease2 now a R
theorem beq_dec (x y : Bool) : (x == y) = decide (x = y) := by cases x <;> cases y <;> rfl
section
variable {B : Nat} {w : World} {F G : Nat → Prop} {sb mb rb : Nat} {v : Value} {lease lease2 now : Int} {M : List LE} {R : List RE} {N : Nat}
theorem DoPost.of {wx wA wB : World} {M' : List LE} {R' : List RE} {v' : Value} {a : LA} (h : PS B wx F G sb mb rb v lease lease2 now M R) (hb : Below w.heap.size w wx) (hB : B ≤ w.heap.size) (kA : KeptF F wx wA) (lA : LkAt wA (addF F wx wA) sb mb lease M') (kB : KeptF G wA wB) (rB : RfAt wB (addF G wA wB) rb v' lease2 (nowR now a) R')
    (hI : TInv lease (N + 1) (stepT lease a (pl M))) (e1 : pl M' = stepT lease a (pl M)) (e2 : rl R' = stepR lease2 now a (rl R)) {res : Bool} (hr : res = tellT a (pl M) (rl R)) : DoPost B w sb mb rb lease lease2 now N a (pl M) (rl R) (.returned (.bool res)) wB := by
  obtain ⟨a1, a2, -⟩ := h.two (t := 0) (b := 0) (cs := #[]) (Nat.le_trans hB hb.size) kA lA kB rB
  exact ⟨by rw [hr], hI, (hb.mono hB).trans a2, _, _, _, _, _, a1, e1, e2⟩
set_option maxRecDepth 100000 in
set_option maxHeartbeats 12800000 in
theorem do_any (h : PS B w F G sb mb rb v lease lease2 now M R) (hB : B ≤ w.heap.size) (hI : TInv lease N (pl M)) (hl : 1 ≤ lease ∧ lease ≤ 9223372036854775807) (hN : N ≤ 9000) (hR : RIn now R) (a : LA) (ha : LaOk a) (hs : a.r.lo.size ≤ 200 ∧ a.r.hi.size ≤ 200) :
    Calls Try.prog 29 #[.pointer (some ⟨sb, 0, none⟩), .pointer (some ⟨rb, 0, none⟩), .agg #[.int .i64 a.kind, .int .i64 a.id, .string a.r.lo, .string a.r.hi]] w (DoPost B w sb mb rb lease lease2 now N a (pl M) (rl R)) := by
  obtain ⟨w1, hw1⟩ : ∃ w1, w.alloc (.cells #[.int .i64 a.kind, .int .i64 a.id, .string a.r.lo, .string a.r.hi] 47) = w1 := ⟨_, rfl⟩
  have b1 : Below w.heap.size w w1 := hw1 ▸ below_box _
  have x1 : Box w1 w.heap.size 47 #[.int .i64 a.kind, .int .i64 a.id, .string a.r.lo, .string a.r.hi] := hw1 ▸ Box.made _ _ _
  have hF : ¬ F w.heap.size := fun e => by have := h.lk.lt _ e; omega
  have hG : ¬ G w.heap.size := fun e => by have := h.rf.lt _ e; omega
  have H1 := Lib.hid (And.intro (h.below b1) (And.intro b1 (And.intro x1 (And.intro hF (And.intro hG hB)))))
  have HI := Lib.hid (And.intro hI (And.intro hl (And.intro hN (And.intro hR (And.intro ha hs)))))
  have hwf := wf_of ha.1
  have d0 : w1.cell? ⟨w.heap.size, 0, none⟩ = some (.int .i64 a.kind) := x1.cell 0
  have d1 : w1.cell? ⟨w.heap.size, 1, none⟩ = some (.int .i64 a.id) := x1.cell 1
  have d2 : w1.cell? ⟨w.heap.size, 2, none⟩ = some (.string a.r.lo) := x1.cell 2
  have d3 : w1.cell? ⟨w.heap.size, 3, none⟩ = some (.string a.r.hi) := x1.cell 3
  have HBx : Hid (∀ wx, Box wx w.heap.size 47 #[.int .i64 a.kind, .int .i64 a.id, .string a.r.lo, .string a.r.hi] → wx.cell? ⟨w.heap.size, 0, none⟩ = some (.int .i64 a.kind) ∧ wx.cell? ⟨w.heap.size, 1, none⟩ = some (.int .i64 a.id) ∧ wx.cell? ⟨w.heap.size, 2, none⟩ = some (.string a.r.lo) ∧ wx.cell? ⟨w.heap.size, 3, none⟩ = some (.string a.r.hi)) := Lib.hid fun wx hx => ⟨hx.cell 0, hx.cell 1, hx.cell 2, hx.cell 3⟩
  have hbA : ∀ {wx wA : World}, Below w1.heap.size w1 wx → KeptF F wx wA → Box wA w.heap.size 47 #[.int .i64 a.kind, .int .i64 a.id, .string a.r.lo, .string a.r.hi] := fun {wx wA} hb k => by
    have y := H1.out.2.2.1.below hb H1.out.2.2.1.lt
    exact (k.block _ y.lt H1.out.2.2.2.1).trans y
  have HBA := Lib.hid (fun (wx wA : World) hb k => hbA (wx := wx) (wA := wA) hb k)
  have hbB : ∀ {wA wB : World}, Box wA w.heap.size 47 #[.int .i64 a.kind, .int .i64 a.id, .string a.r.lo, .string a.r.hi] → KeptF G wA wB → Box wB w.heap.size 47 #[.int .i64 a.kind, .int .i64 a.id, .string a.r.lo, .string a.r.hi] := fun {wA wB} y k =>
    (k.block _ y.lt H1.out.2.2.2.2.1).trans y
  have HBB := Lib.hid (fun (wA wB : World) y k => hbB (wA := wA) (wB := wB) y k)
  clear h hI hl hN hR ha hs b1 x1 hF hG hB hbA hbB
  obtain ⟨kd, hkd⟩ : ∃ kd, a.kind = kd := ⟨_, rfl⟩
  rw [hkd] at d0 hw1 ⊢
  simp only [hkd] at HBx HBA HBB H1
  have Hkd := Lib.hid hkd
  clear hkd
  by_cases h1 : kd = 1
  · subst h1
    have HP := Lib.hid (fun wx (hx : Below w1.heap.size w1 wx) => lockTake_any (H1.out.1.lk.below hx) HI.out.1 HI.out.2.1.1 (by have := HI.out.2.2.1; omega) a.id hwf a.r HI.out.2.2.2.2.2)
    have HR := Lib.hid (fun wA (g : RfAt wA G rb v lease2 now R) => refTake16_any g HI.out.2.2.2.1.rise (by have := HI.out.2.2.2.1.len; omega) (fun e he => by have := HI.out.2.2.2.1.rows e he; omega) a.id a.r)
    have S1 := HBx.out w1 H1.out.2.2.1
    unfold ragg at *
    go_enter Try.func29, Try.ntmps29
    go_wp2
    go_region_held3 (fun wx => wx.cell? ⟨w.heap.size, 0, none⟩ = some (.int .i64 1) ∧ wx.cell? ⟨w.heap.size, 1, none⟩ = some (.int .i64 a.id) ∧ wx.cell? ⟨w.heap.size, 2, none⟩ = some (.string a.r.lo) ∧ wx.cell? ⟨w.heap.size, 3, none⟩ = some (.string a.r.hi))
      (first | exact SB.out | exact SA.out | exact HBx.out _ (H1.out.2.2.1.below (Below.refl _ w1).drew H1.out.2.2.1.lt) | exact S1)
      (first
        | (go_at_call 39; refine (HP.out _ (Below.refl _ _).drew).mono ?_; rintro ee wA ⟨rfl, hT, M', lA, eM, kA⟩; have BA := Lib.hid (HBA.out _ _ (Below.refl _ _).drew kA); have SA := Lib.hid (HBx.out _ BA.out); have PA := Lib.hid ((H1.out.1.below (Below.refl _ _).drew).rf.other kA fun i hi hf => H1.out.1.dis i hf hi); have HA := Lib.hid (And.intro kA (And.intro (lA) (And.intro eM hT))))
        | (go_at_call 59; refine (HR.out wA PA.out).mono ?_; rintro ee wB ⟨rfl, v', R', rB, eR, kB⟩; have SB := Lib.hid (HBx.out _ (HBB.out _ _ BA.out kB)); have HBr := Lib.hid (And.intro kB (And.intro (rB) eR))))
    have HE : Hid (DoPost B w sb mb rb lease lease2 now N a (pl M) (rl R) (.returned (.bool true)) wB) := Lib.hid (DoPost.of (H1.out.1.below (Below.refl _ _).drew) (H1.out.2.1.trans ((Below.refl _ w1).drew.mono H1.out.2.1.size)) H1.out.2.2.2.2.2 HA.out.1 HA.out.2.1 HBr.out.1 (by unfold nowR; rw [Hkd.out]; exact HBr.out.2.1) (by unfold stepT; rw [Hkd.out]; exact HA.out.2.2.2) (by unfold stepT; rw [Hkd.out]; exact HA.out.2.2.1) (by unfold stepR; rw [Hkd.out]; exact HBr.out.2.2) (by unfold tellT; rw [Hkd.out]; rfl))
    clear SA SB PA BA HA HBr kA kB rB eR
    go_wp2
    go_ret
    exact HE.out
  by_cases h2 : kd = 2
  · subst h2
    have HP := Lib.hid (fun wx (hx : Below w1.heap.size w1 wx) => lockRenew_any (H1.out.1.lk.below hx) a.id hwf)
    have HR := Lib.hid (fun wA (g : RfAt wA G rb v lease2 now R) => refRenew16_any g HI.out.2.2.2.1.rise (by have := HI.out.2.2.2.1.len; omega) a.id)
    have S1 := HBx.out w1 H1.out.2.2.1
    unfold ragg at *
    go_enter Try.func29, Try.ntmps29
    go_wp2
    go_region_held3 (fun wx => wx.cell? ⟨w.heap.size, 0, none⟩ = some (.int .i64 2) ∧ wx.cell? ⟨w.heap.size, 1, none⟩ = some (.int .i64 a.id) ∧ wx.cell? ⟨w.heap.size, 2, none⟩ = some (.string a.r.lo) ∧ wx.cell? ⟨w.heap.size, 3, none⟩ = some (.string a.r.hi))
      (first | exact SB.out | exact SA.out | exact HBx.out _ (H1.out.2.2.1.below (Below.refl _ w1).drew H1.out.2.2.1.lt) | exact S1)
      (first
        | (go_at_call 58; refine (HP.out _ (Below.refl _ _).drew).mono ?_; rintro ee wA ⟨rfl, M', lA, eM, kA⟩; have BA := Lib.hid (HBA.out _ _ (Below.refl _ _).drew kA); have SA := Lib.hid (HBx.out _ BA.out); have PA := Lib.hid ((H1.out.1.below (Below.refl _ _).drew).rf.other kA fun i hi hf => H1.out.1.dis i hf hi); have HA := Lib.hid (And.intro kA (And.intro (LkAt.add (w := w1.drew) lA) (And.intro eM trivial))))
        | (go_at_call 60; refine (HR.out wA PA.out).mono ?_; rintro ee wB ⟨rfl, v', R', rB, eR, kB⟩; have SB := Lib.hid (HBx.out _ (HBB.out _ _ BA.out kB)); have HBr := Lib.hid (And.intro kB (And.intro (RfAt.add (w := wA) rB) eR))))
    have HE : Hid (DoPost B w sb mb rb lease lease2 now N a (pl M) (rl R) (.returned (.bool ((getL a.id (pl M)).isSome == (getL a.id (rl R)).isSome))) wB) := Lib.hid (DoPost.of (H1.out.1.below (Below.refl _ _).drew) (H1.out.2.1.trans ((Below.refl _ w1).drew.mono H1.out.2.1.size)) H1.out.2.2.2.2.2 HA.out.1 HA.out.2.1 HBr.out.1 (by unfold nowR; rw [Hkd.out]; exact HBr.out.2.1) (by unfold stepT; rw [Hkd.out]; exact (HI.out.1.renew ⟨HI.out.2.1.1, Int.le_refl _⟩).more (Nat.le_succ _)) (by unfold stepT; rw [Hkd.out]; exact HA.out.2.2.1) (by unfold stepR; rw [Hkd.out]; exact HBr.out.2.2) (by unfold tellT; rw [Hkd.out]; exact beq_dec _ _))
    clear SA SB PA BA HA HBr kA kB rB eR
    go_wp2
    go_ret
    exact HE.out
  by_cases h3 : kd = 3
  · subst h3
    have HP := Lib.hid (fun wx (hx : Below w1.heap.size w1 wx) => lockFree_any (H1.out.1.lk.below hx) a.id hwf)
    have HR := Lib.hid (fun wA (g : RfAt wA G rb v lease2 now R) => refFree16_any g HI.out.2.2.2.1.rise (by have := HI.out.2.2.2.1.len; omega) a.id)
    have S1 := HBx.out w1 H1.out.2.2.1
    unfold ragg at *
    go_enter Try.func29, Try.ntmps29
    go_wp2
    go_region_held3 (fun wx => wx.cell? ⟨w.heap.size, 0, none⟩ = some (.int .i64 3) ∧ wx.cell? ⟨w.heap.size, 1, none⟩ = some (.int .i64 a.id) ∧ wx.cell? ⟨w.heap.size, 2, none⟩ = some (.string a.r.lo) ∧ wx.cell? ⟨w.heap.size, 3, none⟩ = some (.string a.r.hi))
      (first | exact SB.out | exact SA.out | exact HBx.out _ (H1.out.2.2.1.below (Below.refl _ w1).drew H1.out.2.2.1.lt) | exact S1)
      (first
        | (go_at_call 41; refine (HP.out _ (Below.refl _ _).drew).mono ?_; rintro ee wA ⟨rfl, M', lA, eM, kA⟩; have BA := Lib.hid (HBA.out _ _ (Below.refl _ _).drew kA); have SA := Lib.hid (HBx.out _ BA.out); have PA := Lib.hid ((H1.out.1.below (Below.refl _ _).drew).rf.other kA fun i hi hf => H1.out.1.dis i hf hi); have HA := Lib.hid (And.intro kA (And.intro (LkAt.add (w := w1.drew) lA) (And.intro eM trivial))))
        | (go_at_call 61; refine (HR.out wA PA.out).mono ?_; rintro ee wB ⟨rfl, v', R', rB, eR, kB⟩; have SB := Lib.hid (HBx.out _ (HBB.out _ _ BA.out kB)); have HBr := Lib.hid (And.intro kB (And.intro (rB) eR))))
    have HE : Hid (DoPost B w sb mb rb lease lease2 now N a (pl M) (rl R) (.returned (.bool ((getL a.id (pl M)).isSome == (getL a.id (rl R)).isSome))) wB) := Lib.hid (DoPost.of (H1.out.1.below (Below.refl _ _).drew) (H1.out.2.1.trans ((Below.refl _ w1).drew.mono H1.out.2.1.size)) H1.out.2.2.2.2.2 HA.out.1 HA.out.2.1 HBr.out.1 (by unfold nowR; rw [Hkd.out]; exact HBr.out.2.1) (by unfold stepT; rw [Hkd.out]; exact (HI.out.1.free _).more (Nat.le_succ _)) (by unfold stepT; rw [Hkd.out]; exact HA.out.2.2.1) (by unfold stepR; rw [Hkd.out]; exact HBr.out.2.2) (by unfold tellT; rw [Hkd.out]; exact beq_dec _ _))
    clear SA SB PA BA HA HBr kA kB rB eR
    go_wp2
    go_ret
    exact HE.out
  by_cases h4 : kd = 4
  · subst h4
    have HP := Lib.hid (fun wx (hx : Below w1.heap.size w1 wx) => lockTick_any (H1.out.1.lk.below hx) (fun p hp => ⟨(HI.out.1.one p hp).left.1, Int.le_trans (HI.out.1.one p hp).left.2 HI.out.2.1.2⟩))
    have HR := Lib.hid (fun wA (g : RfAt wA G rb v lease2 now R) => refTick16_any g (by have := HI.out.2.2.2.1.len; omega) ⟨HI.out.2.2.2.1.now.1, by have := HI.out.2.2.2.1.now.2; omega⟩ HI.out.2.2.2.1.left)
    go_enter Try.func29, Try.ntmps29
    go_wp2_with fail
    refine (HP.out _ (Below.refl _ _)).mono ?_
    rintro ee wA ⟨rfl, M', lA, eM, kA⟩
    have PA := Lib.hid (H1.out.1.rf.other kA fun i hi hf => H1.out.1.dis i hf hi)
    have HA := Lib.hid (And.intro kA (And.intro lA eM))
    clear kA lA eM
    go_wp2_with fail
    refine (HR.out wA PA.out).mono ?_
    rintro ee wB ⟨rfl, v', R', rB, eR, kB⟩
    have HBr := Lib.hid (And.intro kB (And.intro rB eR))
    clear kB rB eR
    have HE : Hid (DoPost B w sb mb rb lease lease2 now N a (pl M) (rl R) (.returned (.bool true)) wB) := Lib.hid (DoPost.of H1.out.1 H1.out.2.1 H1.out.2.2.2.2.2 HA.out.1 HA.out.2.1 HBr.out.1 (by unfold nowR; rw [Hkd.out]; exact HBr.out.2.1) (by unfold stepT; rw [Hkd.out]; exact HI.out.1.tick.more (Nat.le_succ _)) (by unfold stepT; rw [Hkd.out]; exact HA.out.2.2) (by unfold stepR; rw [Hkd.out]; exact HBr.out.2.2) (by unfold tellT; rw [Hkd.out]; rfl))
    go_wp2
    go_ret
    exact HE.out
  by_cases h5 : kd = 5
  · subst h5
    have HP := Lib.hid (fun wx (hx : Below w1.heap.size w1 wx) => lockLose_any (H1.out.1.lk.below hx) HI.out.1 (by have := HI.out.2.2.1; omega) a.r HI.out.2.2.2.2.2)
    have HR := Lib.hid (fun wA (g : RfAt wA G rb v lease2 now R) => refLose16_any g (by have := HI.out.2.2.2.1.len; omega) (fun e he => by have := HI.out.2.2.2.1.rows e he; omega) a.r)
    unfold ragg at *
    go_enter Try.func29, Try.ntmps29
    go_wp2_with fail
    refine (HP.out _ (Below.refl _ _)).mono ?_
    rintro ee wA ⟨rfl, hT, M', lA, eM, kA⟩
    have PA := Lib.hid (H1.out.1.rf.other kA fun i hi hf => H1.out.1.dis i hf hi)
    obtain ⟨-, -, d2, d3⟩ := HBx.out _ (HBA.out _ _ (Below.refl _ _) kA)
    have HA := Lib.hid (And.intro kA (And.intro lA (And.intro eM hT)))
    clear kA lA eM hT
    go_wp2_with fail
    refine (HR.out wA PA.out).mono ?_
    rintro ee wB ⟨rfl, v', R', rB, eR, kB⟩
    have HBr := Lib.hid (And.intro kB (And.intro rB eR))
    clear kB rB eR
    have HE : Hid (DoPost B w sb mb rb lease lease2 now N a (pl M) (rl R) (.returned (.bool true)) wB) := Lib.hid (DoPost.of H1.out.1 H1.out.2.1 H1.out.2.2.2.2.2 HA.out.1 HA.out.2.1 HBr.out.1 (by unfold nowR; rw [Hkd.out]; exact HBr.out.2.1) (by unfold stepT; rw [Hkd.out]; exact HA.out.2.2.2) (by unfold stepT; rw [Hkd.out]; exact HA.out.2.2.1) (by unfold stepR; rw [Hkd.out]; exact HBr.out.2.2) (by unfold tellT; rw [Hkd.out]; rfl))
    go_wp2
    go_ret
    exact HE.out
  have e1 : (kd == 1) = false := by simpa using h1
  have e2 : (kd == 2) = false := by simpa using h2
  have e3 : (kd == 3) = false := by simpa using h3
  have e4 : (kd == 4) = false := by simpa using h4
  have e5 : (kd == 5) = false := by simpa using h5
  have HE : Hid (DoPost B w sb mb rb lease lease2 now N a (pl M) (rl R) (.returned (.bool true)) w1) := Lib.hid (by
    have c1 : ¬ a.kind = 1 := by rw [Hkd.out]; exact h1
    have c2 : ¬ a.kind = 2 := by rw [Hkd.out]; exact h2
    have c3 : ¬ a.kind = 3 := by rw [Hkd.out]; exact h3
    have c4 : ¬ a.kind = 4 := by rw [Hkd.out]; exact h4
    have c5 : ¬ a.kind = 5 := by rw [Hkd.out]; exact h5
    have s1 : stepT lease a (pl M) = pl M := by unfold stepT; rw [if_neg c1, if_neg c2, if_neg c3, if_neg c4, if_neg c5]
    have s2 : stepR lease2 now a (rl R) = rl R := by unfold stepR; rw [if_neg c1, if_neg c2, if_neg c3, if_neg c4, if_neg c5]
    have s3 : nowR now a = now := if_neg c4
    have s4 : tellT a (pl M) (rl R) = true := if_neg (fun h => h.elim c2 c3)
    unfold DoPost
    rw [s1, s2, s3, s4]
    exact ⟨rfl, HI.out.1.more (Nat.le_succ _), H1.out.2.1.mono H1.out.2.2.2.2.2, _, _, _, _, _, H1.out.1, rfl, rfl⟩)
  go_enter Try.func29, Try.ntmps29
  go_wp2
  go_ret
  exact HE.out

end
end Go.Proofs.Ytijcaefpainhcaa

namespace Go.Proofs.Ytijcaefpainhcaa
open Go.RowKit Go.Maps

section
variable {B : Nat} {w w' : World} {sb mb : Nat} {lease : Int} {E : List TL} {N : Nat}
theorem LS.below (h : LS B w sb mb lease E) (hb : Below w.heap.size w w') : LS B w' sb mb lease E := by
  obtain ⟨F, M, h1, h2, h3⟩ := h
  exact ⟨F, M, h1.below hb, h2, h3⟩
theorem LS.of {F : Nat → Prop} {M' : List LE} (hF : ∀ i, F i → B ≤ i) (hB : B ≤ w.heap.size) (hl : LkAt w' (addF F w w') sb mb lease M') (k : KeptF F w w') : LS B w' sb mb lease (pl M') ∧ Below B w w' :=
  ⟨⟨_, M', hl, rfl, addF_ge hF hB⟩, k.below hF hB⟩
theorem ls_new (x : Int) (w : World) : Calls Try.prog 27 #[.int .i64 x] w fun e w' => ∃ sb mb, e = .returned (.pointer (some ⟨sb, 0, none⟩)) ∧ LS w.heap.size w' sb mb (if x < 1 then 1 else x) [] ∧ Below w.heap.size w w' :=
  (lockNew_any x w).mono fun _ _ ⟨sb, mb, h1, h2, h3⟩ => ⟨sb, mb, h1, ⟨_, [], h2, rfl, fun _ hi => hi.elim False.elim (fun hi => hi.1)⟩, h3⟩
theorem ls_take (h : LS B w sb mb lease E) (hB : B ≤ w.heap.size) (hI : TInv lease N E) (hl1 : 1 ≤ lease) (hN : N ≤ 9000) (k : Int) (hk : (Lit.int .i64 k).wf = true) (r : Rg) (hr : r.lo.size ≤ 200 ∧ r.hi.size ≤ 200) :
    Calls Try.prog 39 #[.pointer (some ⟨sb, 0, none⟩), .int .i64 k, ragg r] w fun e w' => e = .returned (.int .i64 (takeE k r)) ∧ TInv lease (N + 1) (takeT lease k r E) ∧ LS B w' sb mb lease (takeT lease k r E) ∧ Below B w w' := by
  obtain ⟨F, M, h1, rfl, h3⟩ := h
  refine (lockTake_any h1 hI hl1 (by omega) k hk r hr).mono fun e w' ⟨a, b, M', c, d, f⟩ => ?_
  have := LS.of h3 hB c f
  rw [d] at this
  exact ⟨a, b, this⟩
theorem ls_renew (h : LS B w sb mb lease E) (hB : B ≤ w.heap.size) (k : Int) (hk : (Lit.int .i64 k).wf = true) :
    Calls Try.prog 58 #[.pointer (some ⟨sb, 0, none⟩), .int .i64 k] w fun e w' => e = .returned (.bool (getL k E).isSome) ∧ LS B w' sb mb lease (renewT lease k E) ∧ Below B w w' := by
  obtain ⟨F, M, h1, rfl, h3⟩ := h
  refine (lockRenew_any h1 k hk).mono fun e w' ⟨a, M', c, d, f⟩ => ?_
  have := LS.of h3 hB c.add f
  rw [d] at this
  exact ⟨a, this⟩
theorem ls_free (h : LS B w sb mb lease E) (hB : B ≤ w.heap.size) (k : Int) (hk : (Lit.int .i64 k).wf = true) :
    Calls Try.prog 41 #[.pointer (some ⟨sb, 0, none⟩), .int .i64 k] w fun e w' => e = .returned (.bool (getL k E).isSome) ∧ LS B w' sb mb lease (delL k E) ∧ Below B w w' := by
  obtain ⟨F, M, h1, rfl, h3⟩ := h
  refine (lockFree_any h1 k hk).mono fun e w' ⟨a, M', c, d, f⟩ => ?_
  have := LS.of h3 hB c.add f
  rw [d] at this
  exact ⟨a, this⟩
theorem ls_tick (h : LS B w sb mb lease E) (hB : B ≤ w.heap.size) (hI : TInv lease N E) (hl : lease ≤ 9223372036854775807) :
    Calls Try.prog 40 #[.pointer (some ⟨sb, 0, none⟩)] w fun e w' => e = .returned (.tuple #[]) ∧ LS B w' sb mb lease (tickT E) ∧ Below B w w' := by
  obtain ⟨F, M, h1, rfl, h3⟩ := h
  refine (lockTick_any h1 (fun p hp => ⟨(hI.one p hp).left.1, Int.le_trans (hI.one p hp).left.2 hl⟩)).mono fun e w' ⟨a, M', c, d, f⟩ => ?_
  have := LS.of h3 hB c f
  rw [d] at this
  exact ⟨a, this⟩
theorem ls_lose (h : LS B w sb mb lease E) (hB : B ≤ w.heap.size) (hI : TInv lease N E) (hN : N ≤ 9000) (r : Rg) (hr : r.lo.size ≤ 200 ∧ r.hi.size ≤ 200) :
    Calls Try.prog 42 #[.pointer (some ⟨sb, 0, none⟩), ragg r] w fun e w' => e = .returned (.tuple #[]) ∧ TInv lease (N + 1) (loseT r E) ∧ Forms r E (fun _ => false) ∧ LS B w' sb mb lease (loseT r E) ∧ Below B w w' := by
  obtain ⟨F, M, h1, rfl, h3⟩ := h
  refine (lockLose2_any h1 hI (by omega) r hr).mono fun e w' ⟨⟨a, b, M', c, d, f⟩, g⟩ => ?_
  have := LS.of h3 hB c f
  rw [d] at this
  exact ⟨a, b, g, this⟩
theorem ls_blocks (h : LS B w sb mb lease E) (hI : TInv lease N E) (hN : N ≤ 9000) (s : ByteArray) :
    Calls Try.prog 30 #[.pointer (some ⟨sb, 0, none⟩), .string s] w fun e w' => e = .returned (.bool (blocksB s.data.toList E)) ∧ LS B w' sb mb lease E ∧ Below w.heap.size w w' := by
  have h0 := h
  obtain ⟨F, M, h1, rfl, h3⟩ := h
  exact (lockBlocks_any h1 (fun p hp => by have := (hI.one p hp).len; omega) s).mono fun e w' ⟨a, b⟩ => ⟨a, h0.below b, b⟩
theorem ls_holds (h : LS B w sb mb lease E) (hI : TInv lease N E) (hN : N ≤ 9000) (k : Int) (hk : (Lit.int .i64 k).wf = true) (r : Rg) (hr : r.lo.size ≤ 200 ∧ r.hi.size ≤ 200) :
    Calls Try.prog 32 #[.pointer (some ⟨sb, 0, none⟩), .int .i64 k, ragg r] w fun e w' => e = .returned (.bool (holdsB k r E)) ∧ LS B w' sb mb lease E ∧ Below w.heap.size w w' := by
  have h0 := h
  obtain ⟨F, M, h1, rfl, h3⟩ := h
  exact (lockHolds_any h1 hI (by omega) k hk r hr).mono fun e w' ⟨a, b⟩ => ⟨a, h0.below b, b⟩
theorem ls_ranges (h : LS B w sb mb lease E) (hI : TInv lease N E) (hN : N ≤ 9000) (k : Int) (hk : (Lit.int .i64 k).wf = true) :
    Calls Try.prog 37 #[.pointer (some ⟨sb, 0, none⟩), .int .i64 k] w fun e w' => ∃ v, e = .returned v ∧ OwnRgs w' w.heap.size v (rangesT k E) ∧ LS B w' sb mb lease E ∧ Below w.heap.size w w' := by
  have h0 := h
  obtain ⟨F, M, h1, rfl, h3⟩ := h
  exact (lockRanges_any h1 hI (by omega) k hk).mono fun e w' ⟨v, a, b, c⟩ => ⟨v, a, b, h0.below c, c⟩
theorem ls_ids (h : LS B w sb mb lease E) (hI : TInv lease N E) (hN : N ≤ 9000) :
    Calls Try.prog 35 #[.pointer (some ⟨sb, 0, none⟩)] w fun e w' => ∃ v, e = .returned v ∧ w'.ownsRow w.heap.size 3 1 v E.length ((E.map (·.n)).map encZ) ∧ LS B w' sb mb lease E ∧ Below w.heap.size w w' := by
  have h0 := h
  obtain ⟨F, M, h1, rfl, h3⟩ := h
  refine (lockIds_any h1 (by have := hI.len; rw [pl_len] at this; omega)).mono fun e w' ⟨v, a, b, c⟩ => ⟨v, a, ?_, h0.below c, c⟩
  rw [pl_len]
  exact b
end

/-! ### the example -/
def rAC : Rg := ⟨⟨#[97]⟩, ⟨#[99]⟩⟩
theorem ac_full : ¬ emptyR rAC := fun h => h (.inr (by decide))
theorem ac_form : Form [rAC] := ⟨fun r hr => by simp at hr; subst hr; exact ac_full, List.pairwise_singleton _ _⟩
theorem ac_take : takeT 2 5 rAC [] = [⟨5, [rAC], 2⟩] ∧ takeE 5 rAC = 0 := by
  have hc : ¬ ((5 : Int) < 1 ∨ emptyR rAC) := fun h => h.elim (by omega) ac_full
  unfold takeT takeE
  rw [if_neg hc, if_neg hc]
  refine ⟨?_, rfl⟩
  have : leastT (rangesT 5 [] ++ [rAC]) = [rAC] := leastT_form ac_form
  rw [this]
  rfl
theorem ac_inv : TInv 2 1 [⟨5, [rAC], 2⟩] ∧ TInv 2 1 [⟨5, [rAC], 1⟩] := by
  have h : ∀ x : Int, 1 ≤ x ∧ x ≤ 2 → TInv 2 1 [⟨5, [rAC], x⟩] := fun x hx => ⟨List.pairwise_singleton _ _, by simp, fun p hp => by
    simp at hp
    subst hp
    exact ⟨hx, ac_form, by simp, fun r hr => by simp at hr; subst hr; exact ⟨by decide, by decide⟩, by simp⟩⟩
  exact ⟨h 2 (by omega), h 1 (by omega)⟩
theorem ac_blocks (x : Int) : blocksB [98] [⟨5, [rAC], x⟩] = true := by
  unfold blocksB
  rw [List.any_eq_true]
  exact ⟨_, List.mem_singleton.2 rfl, decide_eq_true ⟨rAC, by simp, by decide, .inr (by decide)⟩⟩
theorem ac_ticks : tickT [⟨5, [rAC], 2⟩] = [⟨5, [rAC], 1⟩] ∧ tickT [⟨5, [rAC], 1⟩] = [] ∧ renewT 2 5 [⟨5, [rAC], 1⟩] = [⟨5, [rAC], 2⟩] := ⟨rfl, rfl, rfl⟩
set_option maxRecDepth 100000 in
set_option maxHeartbeats 12800000 in
theorem awake16_any (w : World) : Calls Try.prog 25 #[] w fun e w' => e = .returned (.bool true) ∧ Below w.heap.size w w' := by
  have hwf : (Lit.int .i64 5).wf = true := wf_of (by omega)
  have T1 := Lib.hid ac_take
  have T2 := Lib.hid ac_ticks
  have T3 := Lib.hid ac_inv
  go_enter Try.func25, Try.ntmps25
  go_wp2_with fail
  refine (ls_new 2 w).mono ?_
  rintro e w1 ⟨sb, mb, rfl, h1, b1⟩
  have H1 := Lib.hid (And.intro h1 b1)
  clear h1 b1
  go_wp2_with fail
  refine (ls_take H1.out.1 H1.out.2.size (TInv.nil _ 0) (by decide) (by omega) 5 hwf rAC ⟨by decide, by decide⟩).mono ?_
  rw [show (if (2 : Int) < 1 then (1 : Int) else 2) = 2 from rfl, T1.out.1, T1.out.2]
  rintro e w2 ⟨rfl, -, h2, b2⟩
  have H2 := Lib.hid (And.intro h2 (H1.out.2.trans b2))
  clear h2 b2
  go_wp2_with fail
  refine (ls_tick H2.out.1 H2.out.2.size T3.out.1 (by decide)).mono ?_
  rw [T2.out.1]
  rintro e w3 ⟨rfl, h3, b3⟩
  have H3 := Lib.hid (And.intro h3 (H2.out.2.trans b3))
  clear h3 b3
  go_wp2_with fail
  refine (ls_blocks H3.out.1 T3.out.2 (by omega) ⟨#[98]⟩).mono ?_
  rw [show blocksB (⟨#[98]⟩ : ByteArray).data.toList [⟨5, [rAC], 1⟩] = true from ac_blocks 1]
  rintro e w4 ⟨rfl, h4, b4⟩
  have H4 := Lib.hid (And.intro h4 (H3.out.2.trans (b4.mono H3.out.2.size)))
  clear h4 b4
  go_wp2_with fail
  refine (ls_renew H4.out.1 H4.out.2.size 5 hwf).mono ?_
  rw [T2.out.2.2]
  rintro e w5 ⟨rfl, h5, b5⟩
  have H5 := Lib.hid (And.intro h5 (H4.out.2.trans b5))
  clear h5 b5
  go_wp2_with fail
  refine (ls_tick H5.out.1 H5.out.2.size T3.out.1 (by decide)).mono ?_
  rw [T2.out.1]
  rintro e w6 ⟨rfl, h6, b6⟩
  have H6 := Lib.hid (And.intro h6 (H5.out.2.trans b6))
  clear h6 b6
  go_wp2_with fail
  refine (ls_blocks H6.out.1 T3.out.2 (by omega) ⟨#[98]⟩).mono ?_
  rw [show blocksB (⟨#[98]⟩ : ByteArray).data.toList [⟨5, [rAC], 1⟩] = true from ac_blocks 1]
  rintro e w7 ⟨rfl, h7, b7⟩
  have H7 := Lib.hid (And.intro h7 (H6.out.2.trans (b7.mono H6.out.2.size)))
  clear h7 b7
  go_wp2_with fail
  refine (ls_tick H7.out.1 H7.out.2.size T3.out.2 (by decide)).mono ?_
  rw [T2.out.2.1]
  rintro e w8 ⟨rfl, h8, b8⟩
  have H8 := Lib.hid (And.intro h8 (H7.out.2.trans b8))
  clear h8 b8
  go_wp2_with fail
  refine (ls_blocks H8.out.1 (TInv.nil _ 0) (by omega) ⟨#[98]⟩).mono ?_
  rintro e w9 ⟨rfl, -, b9⟩
  have HE := Lib.hid (H8.out.2.trans (b9.mono H8.out.2.size))
  clear b9
  go_wp2
  go_ret
  exact ⟨rfl, HE.out⟩
end Go.Proofs.Ytijcaefpainhcaa

namespace Go.Proofs.Ytijcaefpainhcaa
open Go.RowKit Go.Maps

theorem do_fresh {B : Nat} {wr wx w5 : World} {sb mb rb : Nat} {v : Value} {lease lease2 : Int} {E : List TL} {N : Nat} (hl : LS B wr sb mb lease E) (hB : B ≤ wr.heap.size) (b : Below wr.heap.size wr wx) (hr : RfAt w5 (addF (fun _ => False) wx w5) rb v lease2 0 []) (b5 : Below wx.heap.size wx w5)
    (hI : TInv lease N E) (hle : 1 ≤ lease ∧ lease ≤ 9223372036854775807) (hN : N ≤ 9000) (a : LA) (ha : LaOk a) (hs : a.r.lo.size ≤ 200 ∧ a.r.hi.size ≤ 200) :
    Calls Try.prog 29 #[.pointer (some ⟨sb, 0, none⟩), .pointer (some ⟨rb, 0, none⟩), .agg #[.int .i64 a.kind, .int .i64 a.id, .string a.r.lo, .string a.r.hi]] w5 fun e w' =>
      ∃ d, e = .returned (.bool d) ∧ TInv lease (N + 1) (stepT lease a E) ∧ LS B w' sb mb lease (stepT lease a E) ∧ Below B wr w' := by
  obtain ⟨F, M, h1, rfl, h3⟩ := hl
  have bw : Below wr.heap.size wr w5 := b.trans (b5.mono b.size)
  have hp : PS B w5 F (addF (fun _ => False) wx w5) sb mb rb v lease lease2 0 M [] := ⟨h1.below bw, hr, fun i hi hg => hg.elim id (fun hg => by have := h1.lt i hi; have := b.size; omega), h3, fun i hi => hi.elim False.elim (fun hi => by have := b.size; omega)⟩
  refine (do_any hp (Nat.le_trans hB bw.size) hI hle hN ⟨List.Pairwise.nil, by simp, by simp, by simp, by omega⟩ a ha hs).mono ?_
  rintro e w' ⟨he, hT, hb, F', G', v', M', R', hp', e1, -⟩
  exact ⟨_, he, hT, ⟨F', M', hp'.lk, e1, hp'.fB⟩, (bw.mono hB).trans hb⟩
end Go.Proofs.Ytijcaefpainhcaa

namespace Go.Proofs.Ytijcaefpainhcaa
open Go.RowKit Go.Maps

def PL (w w0 wr : World) (B sb mb rb : Nat) (lease : Int) (k : Nat) (E : List TL) : Prop :=
  ∃ F G v M R now, PS B wr F G sb mb rb v lease lease now M R ∧ pl M = E ∧ TInv lease k E ∧ Rel lease now E (rl R) ∧ (0 ≤ now ∧ now ≤ (k : Int)) ∧ Below B w0 wr ∧ Below w.heap.size w wr
theorem blocks_rel {lease now : Int} {E R : List TL} (h : Rel lease now E R) (s : List UInt8) : blocksB s E = blocksB s R := by
  rw [h.eq]
  unfold blocksB
  rw [List.any_map]
  rfl
theorem holds_rel {lease now : Int} {E R : List TL} (h : Rel lease now E R) (k : Int) (r : Rg) : holdsB k r E = holdsB k r R := by
  unfold holdsB
  rw [h.eq, getL_map (c := conv lease now) (fun _ => rfl)]
  cases getL k R <;> rfl
section
variable {w w0 wr w' : World} {B sb mb rb : Nat} {lease : Int} {k : Nat} {E : List TL}
theorem PL.low (h : PL w w0 wr B sb mb rb lease k E) : Below w.heap.size w wr ∧ Below B w0 wr := by
  obtain ⟨F, G, v, M, R, now, h1, h2, h3, h4, h5, h6, h7⟩ := h
  exact ⟨h7, h6⟩
theorem PL.below (h : PL w w0 wr B sb mb rb lease k E) (hB : B ≤ w0.heap.size) (hw : w.heap.size ≤ B) (hb : Below wr.heap.size wr w') : PL w w0 w' B sb mb rb lease k E := by
  obtain ⟨F, G, v, M, R, now, h1, h2, h3, h4, h5, h6, h7⟩ := h
  have hs : B ≤ wr.heap.size := Nat.le_trans hB h6.size
  exact ⟨F, G, v, M, R, now, h1.below hb, h2, h3, h4, h5, h6.trans (hb.mono hs), h7.trans (hb.mono (Nat.le_trans hw hs))⟩
theorem pl_new {w3 w4 w5 : World} (hl : LkAt w4 (addF (fun _ => False) w3 w4) sb mb lease []) (b4 : Below w3.heap.size w3 w4) (hr : RfAt w5 (addF (fun _ => False) w4 w5) rb (.slice none 0 0) lease 0 []) (b5 : Below w4.heap.size w4 w5) (hw : Below w.heap.size w w3) : PL w w3 w5 w3.heap.size sb mb rb lease 0 [] := by
  have b45 := b4.trans (b5.mono b4.size)
  refine ⟨_, _, _, [], [], 0, ⟨hl.below b5, hr, fun i hi hg => ?_, fun i hi => hi.elim False.elim (fun hi => hi.1), fun i hi => hi.elim False.elim (fun hi => Nat.le_trans b4.size hi.1)⟩, rfl, TInv.nil _ _, Rel.start _, by omega, b45, hw.trans (b45.mono hw.size)⟩
  have h1 := hi.elim False.elim (fun hi => hi.2)
  have h2 := hg.elim False.elim (fun hi => hi.1)
  omega
theorem pl_do (h : PL w w0 wr B sb mb rb lease k E) (hB : B ≤ w0.heap.size) (hw : w.heap.size ≤ B) (hl : 1 ≤ lease ∧ lease ≤ 9223372036854775807) (hk : k ≤ 9000) (a : LA) (ha : LaOk a) (hs : a.r.lo.size ≤ 200 ∧ a.r.hi.size ≤ 200) :
    Calls Try.prog 29 #[.pointer (some ⟨sb, 0, none⟩), .pointer (some ⟨rb, 0, none⟩), .agg #[.int .i64 a.kind, .int .i64 a.id, .string a.r.lo, .string a.r.hi]] wr fun e w' => e = .returned (.bool true) ∧ PL w w0 w' B sb mb rb lease (k + 1) (stepT lease a E) := by
  obtain ⟨F, G, v, M, R, now, h1, rfl, h3, h4, h5, h6, h7⟩ := h
  have hsz : B ≤ wr.heap.size := Nat.le_trans hB h6.size
  have hlen : R.length ≤ k := by
    have e1 := h4.len
    have e2 := h3.len
    rw [rl_len] at e1
    omega
  refine (do_any h1 hsz h3 hl hk ⟨h4.rise h3.rise, by omega, fun e he => ?_, fun e he => h4.left e.p (List.mem_map.2 ⟨e, he, rfl⟩), by omega⟩ a ha hs).mono ?_
  · have := h4.rows h3 e.p (List.mem_map.2 ⟨e, he, rfl⟩)
    omega
  · rintro e w' ⟨he, hT, hb, F', G', v', M', R', hp, e1, e2⟩
    refine ⟨by rw [he, h4.tell], F', G', v', M', R', _, hp, e1, hT, ?_, ?_, h6.trans hb, h7.trans (hb.mono hw)⟩
    · rw [e2]
      exact h4.step h3 h5.1 a
    · unfold nowR
      split <;> omega
theorem pl_blocks (h : PL w w0 wr B sb mb rb lease k E) (hk : k ≤ 9000) (s : ByteArray) : Calls Try.prog 30 #[.pointer (some ⟨sb, 0, none⟩), .string s] wr fun e w' => e = .returned (.bool (blocksB s.data.toList E)) ∧ Below wr.heap.size wr w' := by
  obtain ⟨F, G, v, M, R, now, h1, rfl, h3, h4, h5, h6, h7⟩ := h
  exact lockBlocks_any h1.lk (fun p hp => by have := (h3.one p hp).len; omega) s
theorem pl_rblocks (h : PL w w0 wr B sb mb rb lease k E) (hk : k ≤ 9000) (s : ByteArray) : Calls Try.prog 31 #[.pointer (some ⟨rb, 0, none⟩), .string s] wr fun e w' => e = .returned (.bool (blocksB s.data.toList E)) ∧ Below wr.heap.size wr w' := by
  obtain ⟨F, G, v, M, R, now, h1, rfl, h3, h4, h5, h6, h7⟩ := h
  rw [blocks_rel h4]
  exact refBlocks16_any h1.rf (by have e1 := h4.len; have e2 := h3.len; rw [rl_len] at e1; omega) (fun e he => by have := h4.rows h3 e.p (List.mem_map.2 ⟨e, he, rfl⟩); omega) s
theorem pl_holds (h : PL w w0 wr B sb mb rb lease k E) (hk : k ≤ 9000) (j : Int) (hj : (Lit.int .i64 j).wf = true) (r : Rg) (hr : r.lo.size ≤ 200 ∧ r.hi.size ≤ 200) : Calls Try.prog 32 #[.pointer (some ⟨sb, 0, none⟩), .int .i64 j, ragg r] wr fun e w' => e = .returned (.bool (holdsB j r E)) ∧ Below wr.heap.size wr w' := by
  obtain ⟨F, G, v, M, R, now, h1, rfl, h3, h4, h5, h6, h7⟩ := h
  exact lockHolds_any h1.lk h3 (by omega) j hj r hr
theorem pl_rholds (h : PL w w0 wr B sb mb rb lease k E) (hk : k ≤ 9000) (j : Int) (r : Rg) : Calls Try.prog 33 #[.pointer (some ⟨rb, 0, none⟩), .int .i64 j, ragg r] wr fun e w' => e = .returned (.bool (holdsB j r E)) ∧ Below wr.heap.size wr w' := by
  obtain ⟨F, G, v, M, R, now, h1, rfl, h3, h4, h5, h6, h7⟩ := h
  rw [holds_rel h4]
  exact refHolds16_any h1.rf (h4.rise h3.rise) (by have e1 := h4.len; have e2 := h3.len; rw [rl_len] at e1; omega) (fun e he => by have := h4.rows h3 e.p (List.mem_map.2 ⟨e, he, rfl⟩); omega) j r
theorem pl_ids (h : PL w w0 wr B sb mb rb lease k E) (hk : k ≤ 9000) : Calls Try.prog 35 #[.pointer (some ⟨sb, 0, none⟩)] wr fun e w' => ∃ v, e = .returned v ∧ w'.ownsRow wr.heap.size 3 1 v E.length ((E.map (·.n)).map encZ) ∧ Below wr.heap.size wr w' := by
  obtain ⟨F, G, v, M, R, now, h1, rfl, h3, h4, h5, h6, h7⟩ := h
  have := lockIds_any h1.lk (by have := h3.len; rw [pl_len] at this; omega)
  rw [pl_len]
  exact this
theorem pl_rids (h : PL w w0 wr B sb mb rb lease k E) (hk : k ≤ 9000) : Calls Try.prog 36 #[.pointer (some ⟨rb, 0, none⟩)] wr fun e w' => ∃ v, e = .returned v ∧ w'.ownsRow wr.heap.size 3 1 v E.length ((E.map (·.n)).map encZ) ∧ Below wr.heap.size wr w' := by
  obtain ⟨F, G, v, M, R, now, h1, rfl, h3, h4, h5, h6, h7⟩ := h
  have e1 := h4.len
  have e2 := h3.len
  rw [rl_len] at e1
  have := refIds16_any h1.rf (by omega)
  rw [h4.nums, ← e1]
  exact this
theorem pl_ranges (h : PL w w0 wr B sb mb rb lease k E) (hk : k ≤ 9000) (j : Int) (hj : (Lit.int .i64 j).wf = true) : Calls Try.prog 37 #[.pointer (some ⟨sb, 0, none⟩), .int .i64 j] wr fun e w' => ∃ A c, e = .returned (.slice A (rangesT j E).length c) ∧ HasRgs w' w'.heap.size A (rangesT j E).length (rangesT j E) ∧ Below wr.heap.size wr w' := by
  obtain ⟨F, G, v, M, R, now, h1, rfl, h3, h4, h5, h6, h7⟩ := h
  refine (lockRanges_any h1.lk h3 (by omega) j hj).mono ?_
  rintro e w' ⟨v, rfl, o, b⟩
  obtain ⟨A, c, rfl, -, -, hh⟩ := o.slice
  exact ⟨A, c, rfl, hh, b⟩
theorem pl_rranges (h : PL w w0 wr B sb mb rb lease k E) (hk : k ≤ 9000) (j : Int) : Calls Try.prog 38 #[.pointer (some ⟨rb, 0, none⟩), .int .i64 j] wr fun e w' => ∃ A c, e = .returned (.slice A (rangesT j E).length c) ∧ HasRgs w' w'.heap.size A (rangesT j E).length (rangesT j E) ∧ Below wr.heap.size wr w' := by
  obtain ⟨F, G, v, M, R, now, h1, rfl, h3, h4, h5, h6, h7⟩ := h
  rw [h4.ranges]
  exact refRanges16_any h1.rf (h4.rise h3.rise) (by have e1 := h4.len; have e2 := h3.len; rw [rl_len] at e1; omega) j
theorem pl_few (h : PL w w0 wr B sb mb rb lease k E) (j : Int) : E.length ≤ k ∧ (rangesT j E).length ≤ k := by
  obtain ⟨F, G, v, M, R, now, h1, rfl, h3, h4, h5, h6, h7⟩ := h
  exact ⟨h3.len, (ranges_of h3 j).2.2⟩
theorem same_ints {wx : World} {A A' : Option Addr} {n c c' D D' : Nat} {xs : List Int} (h : wx.ownsRow D 3 1 (.slice A n c) n (xs.map encZ)) (h' : wx.ownsRow D' 3 1 (.slice A' n c') n (xs.map encZ)) (hl : xs.length = n) (hn : n ≤ 9001) :
    Calls Try.prog 34 #[.slice A n c, .slice A' n c'] wx fun e w' => e = .returned (.bool true) ∧ Below wx.heap.size wx w' := by
  have h9 := sameInts_any A A' n n c c' wx.heap.size wx.heap.size xs xs wx (by have := Has.of_ownN h; rwa [Nat.mul_one] at this) (by have := Has.of_ownN h'; rwa [Nat.mul_one] at this) hl hl (by simp only [maxLen]; omega) (by simp only [maxLen]; omega)
  rw [decide_eq_true rfl] at h9
  exact h9
end
end Go.Proofs.Ytijcaefpainhcaa
