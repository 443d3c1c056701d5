/- The document's end in memory: its Post and Take; whether a posting is the document's. Condition: what is asked is in memory. -/
import Derived.Test.YtaljojjpgkmiiaaSesI
import Derived.BigQuiet
namespace Go.Proofs.Ytaljojjpgkmiiaa
open Go.RowKit

/-- The pointer to block g is the document's end E: the texts that wait lie in v's row. -/
structure RefAt (w : World) (B g : Nat) (v : Value) (E : SE) : Prop where
  gB : B ≤ g
  box : Box w g 29 #[.int .i64 E.m, .int .i64 (E.s - E.l.length : Nat), v]
  own : OwnTx w B v E.l
  good : E.Good
theorem below_nq (w : World) (k : Nat) : Below w.heap.size w (w.drewN k) := ⟨rfl, rfl, rfl, Nat.le_refl _, fun _ _ => rfl⟩
section
variable {w w' : World} {B B' g : Nat} {v : Value} {E : SE}
theorem RefAt.lt (h : RefAt w B g v E) : g < w.heap.size := h.box.lt
theorem RefAt.below (h : RefAt w B g v E) (hb : Below w.heap.size w w') : RefAt w' B g v E := ⟨h.gB, h.box.below hb h.box.lt, h.own.below hb, h.good⟩
theorem RefAt.base (h : RefAt w B g v E) (hB : B' ≤ B) : RefAt w B' g v E := ⟨Nat.le_trans hB h.gB, h.box, h.own.base hB, h.good⟩
theorem RefAt.keep (h : RefAt w B g v E) (hg : w'.heap[g]? = w.heap[g]?) (hv : ∀ i, v.ownBlock = some i → w'.heap[i]? = w.heap[i]?) : RefAt w' B g v E := ⟨h.gB, hg.trans h.box, own_keepN h.own hv, h.good⟩
theorem RefAt.apart (h : RefAt w B g v E) : v.ownBlock ≠ some g := fun e => own_no_box h.own h.box (by decide) g e rfl
theorem RefAt.kept (h : RefAt w B g v E) (k : KeptE g v w w') (hB : B ≤ w.heap.size) : Below B w w' := k.below h.gB (fun i e => (h.own.lt i e).1) hB
theorem RefAt.rowKept (h : RefAt w B g v E) (k : KeptE g v w w') {C m size : Nat} {e : TypeId} {u : Value} {xs : List Value} (ho : w.ownsRow C e size u m xs) (h1 : e ≠ 29) (h2 : 9 ≠ e) : w'.ownsRow C e size u m xs :=
  own_keepN ho fun i hi => k.block i (ho.lt i hi).2 (own_no_box ho h.box h1 i hi) (own_types_ne h.own ho h2 i hi)
/-- what the document's Post answers: texts in a row, and the number of the first -/
def RPostP (E : SE) (n : Int) (w : World) (e : Ending) (w' : World) : Prop :=
  ∃ (A : Option Addr) (c f : Nat), e = .returned (.tuple #[.slice A (E.post n).length c, .int .i64 (f : Int)]) ∧ (E.post n).length ≤ c ∧ HasTexts w' w.heap.size A (E.post n).length (E.l.take n.toNat) ∧ E.post n = itemsFrom f (E.l.take n.toNat) ∧ f ≤ 1099511627777 ∧ Below w.heap.size w w'
theorem refPost_any (h : RefAt w B g v E) (n : Int) : Calls Try.prog 19 #[.pointer (some ⟨g, 0, none⟩), .int .i64 n] w (RPostP E n w) := by
  obtain ⟨D, hD⟩ : ∃ D : Nat, E.s - E.l.length = D := ⟨_, rfl⟩
  have hbx := h.box
  rw [hD] at hbx
  have c1 : w.cell? ⟨g, 1, none⟩ = some (.int .i64 D) := hbx.cell 1
  have c2 : w.cell? ⟨g, 2, none⟩ = some v := hbx.cell 2
  have HP : Hid (E.post n = itemsFrom (D + 1) (E.l.take n.toNat) ∧ (E.post n).length = (E.l.take n.toNat).length) := Lib.hid (by unfold SE.post; rw [hD]; exact ⟨rfl, itemsFrom_len _ _⟩)
  have hD9 : D ≤ 1099511627776 := by have := h.good.sl; omega
  obtain ⟨A, c, rfl, hnc, -, hh⟩ := h.own.slice
  obtain ⟨N, hN⟩ : ∃ N, E.l.length = N := ⟨_, rfl⟩
  have HN := Lib.hid hN
  rw [hN] at c2 hnc hh
  have hll := h.good.ll
  rw [hN] at hll
  have HH := Lib.hid hh
  have hw1 : IntKind.i64.wrap ((D : Int) + 1) = ((D + 1 : Nat) : Int) := IntWalk.i64_in _ (by omega)
  clear h hbx hD hN hh
  by_cases h1 : n < 1
  · have HE : Hid (E.post n = []) := Lib.hid (by rw [HP.out.1, show n.toNat = 0 from by omega]; rfl)
    go_enter Try.func19, Try.ntmps19
    go_wp2
    go_ret2
    unfold RPostP
    rw [HE.out, show n.toNat = 0 from by omega]
    exact ⟨_, _, 0, rfl, by simp, Has.nil _ _ _, rfl, by omega, Below.refl _ _⟩
  · obtain ⟨q, rfl⟩ : ∃ q : Nat, n = q := ⟨n.toNat, by omega⟩
    simp only [Int.toNat_natCast] at HP
    by_cases h2 : N < q
    · have e2 : (N : Int) < (q : Int) := by omega
      have HL : Hid ((E.post (q : Int)).length = N ∧ E.l.take q = E.l) := Lib.hid (by
        have h9 : E.l.take q = E.l := List.take_of_length_le (by have := HN.out; omega)
        exact ⟨by rw [HP.out.2, h9, HN.out], h9⟩)
      clear h2
      go_enter Try.func19, Try.ntmps19
      go_wp2
      go_quiet (fail)
      go_wp2
      go_ret2
      unfold RPostP
      simp only [Int.toNat_natCast]
      rw [HL.out.1]
      exact ⟨A, c, D + 1, rfl, hnc, by rw [HL.out.2]; exact HH.out.below (below_nq w _), HP.out.1, by omega, below_nq w _⟩
    · have e2 : ¬ (N : Int) < (q : Int) := by omega
      have HL : Hid ((E.post (q : Int)).length = q) := Lib.hid (by rw [HP.out.2, List.length_take]; have := HN.out; omega)
      have hqc : q ≤ c := by omega
      have hqN : q ≤ N := by omega
      clear h2
      go_enter Try.func19, Try.ntmps19
      go_wp2
      go_quiet (fail)
      go_wp2
      go_ret2
      unfold RPostP
      simp only [Int.toNat_natCast]
      rw [HL.out]
      exact ⟨A, c, D + 1, rfl, hqc, by have h9 := (HH.out.below (below_nq w nq)).take hqN; rw [← List.map_take] at h9; exact h9, HP.out.1, by omega, below_nq w _⟩
end
set_option maxRecDepth 100000 in
set_option maxHeartbeats 1600000 in
theorem same15_any (Ai At : Option Addr) (N ci ct C C' f : Nat) (K : List ByteArray) (w : World) (hi : HasSis w C Ai N (itemsFrom f K)) (ht : HasTexts w C' At N K) (hf : f + N ≤ 4611686018427387904) :
    Calls Try.prog 20 #[.slice Ai N ci, .slice At N ct, .int .i64 (f : Int)] w fun e w' => e = .returned (.bool true) ∧ Below w.heap.size w w' := by
  have Hi := Lib.hid hi
  have Ht := Lib.hid ht
  have HK : Hid (K.length = N) := Lib.hid ht.len
  clear hi ht
  go_enter Try.func20, Try.ntmps20
  go_wp2
  go_loopw [7] (fun i wr => ∃ k : Nat, k ≤ N ∧ i = .int .i64 (k : Int) ∧ Hid (Below w.heap.size w wr ∧ HasSis wr C Ai N (itemsFrom f K) ∧ HasTexts wr C' At N K)) (fun i _ => N - (intOf i).toNat)
  case atStart => exact ⟨0, by omega, rfl, Lib.hid ⟨Below.refl _ _, Hi.out, Ht.out⟩⟩
  case round =>
    obtain ⟨k, hk, rfl, HR⟩ := hrel
    by_cases hlt : k < N
    · obtain ⟨a, p, rfl, -, hp, p0, p1⟩ := HR.out.2.1.at_ hlt
      obtain ⟨b, rfl, -, q0⟩ := HR.out.2.2.text hlt
      rw [itemsFrom_at] at hp
      obtain ⟨x, hx⟩ : ∃ x, K[k]? = some x := ⟨_, List.getElem?_eq_getElem (by have := HK.out; omega)⟩
      rw [hx] at hp
      simp only [Option.map_some, Option.some.injEq] at hp
      subst hp
      simp only [List.getD_eq_getElem?_getD, hx, Option.getD_some] at q0
      simp only at p0 p1
      have hw1 : IntKind.i64.wrap (((f + k : Nat) : Int) - (k : Int)) = (f : Int) := by rw [show ((f + k : Nat) : Int) - (k : Int) = (f : Int) from by omega]; exact IntWalk.i64_in _ (by omega)
      have HQ : Hid (∀ n, Below w.heap.size w (wr.drewN n) ∧ HasSis (wr.drewN n) C (some a) N (itemsFrom f K) ∧ HasTexts (wr.drewN n) C' (some b) N K) := Lib.hid fun n => ⟨HR.out.1.trans ((below_nq wr n).mono HR.out.1.size), HR.out.2.1.keep fun _ _ => rfl, HR.out.2.2.keep fun _ _ => rfl⟩
      clear hx
      go_wp2
      go_quiet (fail)
      go_wp2
      go_roundw
      case rel => exact ⟨k + 1, by omega, by go_num, Lib.hid (HQ.out _)⟩
      case measure => simp [intOf]; omega
    · go_wp2
      go_ret
      exact ⟨rfl, HR.out.1⟩
end Go.Proofs.Ytaljojjpgkmiiaa
