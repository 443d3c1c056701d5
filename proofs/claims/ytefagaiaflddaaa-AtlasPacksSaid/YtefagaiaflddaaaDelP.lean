/- slices.Delete of one part. Condition: the row is in memory. -/
import Derived.Test.YtefagaiaflddaaaAtA
import Derived.Deep.RegionLaw
namespace Go.Proofs.Ytefagaiaflddaaa
open Go.RowKit
open Go.Lib (strCells compareBytes)

theorem take_set {α : Type} {l : List α} {i : Nat} (h : i < l.length) (x : α) : (l.set i x).take (i + 1) = l.take i ++ [x] := by
  rw [List.take_succ_eq_append_getElem (by simp; omega)]
  simp [List.take_set_of_le]
def setL : List Value → Nat → List Value → List Value
  | xs, _, [] => xs
  | xs, o, v :: vs => setL (xs.set o v) (o + 1) vs
theorem setL_len : ∀ (vs xs : List Value) (o : Nat), (setL xs o vs).length = xs.length
  | [], _, _ => rfl
  | v :: vs, xs, o => by rw [setL, setL_len vs]; simp
theorem setL_eq : ∀ (vs xs : List Value) (o : Nat), o + vs.length ≤ xs.length → setL xs o vs = xs.take o ++ vs ++ xs.drop (o + vs.length)
  | [], xs, o, _ => by simp [setL]
  | v :: vs, xs, o, h => by
    simp only [List.length_cons] at h
    rw [setL, setL_eq vs (xs.set o v) (o + 1) (by simp; omega), take_set (by omega), List.drop_set_of_lt (by omega)]
    simp [show o + 1 + vs.length = o + (vs.length + 1) by omega]
theorem own_setCells {B n c g size : Nat} {e : TypeId} : ∀ (vs : List Value) (w : World) (xs : List Value) (o : Nat), w.ownsRow B e size (.slice (some ⟨g, 0, none⟩) n c) n xs →
    (w.setCells g o vs).ownsRow B e size (.slice (some ⟨g, 0, none⟩) n c) n (setL xs o vs) ∧ w.grownBy (w.setCells g o vs) (some g)
  | [], w, xs, o, h => ⟨h, World.grownBy.refl w _⟩
  | v :: vs, w, xs, o, h => by
    have h1 := h.stored o v
    have h2 := own_setCells vs _ _ (o + 1) h1.1
    exact ⟨h2.1, h1.2.trans h2.2⟩
theorem own_shrink {w : World} {B n m c size : Nat} {e : TypeId} {A : Option Addr} {xs : List Value} (h : w.ownsRow B e size (.slice A n c) n xs) (hA : A ≠ none) (hm : m ≤ n) : w.ownsRow B e size (.slice A m c) m (xs.take (m * size)) := by
  have hl := h.1
  have hle : m * size ≤ n * size := Nat.mul_le_mul_right _ hm
  refine ⟨by rw [List.length_take]; omega, ?_⟩
  rcases h.2 with ⟨hv, _⟩ | ⟨g, cap, cur, hv, hbg, hg, hnc, hcm, hcs, htake⟩
  · injection hv with hv _ _
    exact absurd hv hA
  · injection hv with hv1 _ hv3
    subst hv1; subst hv3
    exact .inr ⟨g, c, cur, rfl, hbg, hg, by omega, hcm, hcs, by rw [← htake, List.take_take, Nat.min_eq_left hle]⟩
theorem clear_pt (w : World) (ty : TypeId) (b o c : Nat) (hc : ∀ j, j < 2 → (w.cell? ⟨b, o + j, none⟩).isSome = true) (hf : ∀ j, j < 2 → w.frozen? ⟨b, o + j, none⟩ = false) :
    (Builtin.clear_ #[22] ty #[.slice (some ⟨b, o, none⟩) 1 c]).run Try.prog w = .ok (.tuple #[]) (w.setCells b o [.string ⟨#[]⟩, .int .i64 0]) := by
  have hst := run_storeCells_cells (P := Try.prog) b o [.string ⟨#[]⟩, .int .i64 0] 0 w (by simpa using hc) (by simpa using hf) (by intro v hv'; simp only [List.mem_cons, List.not_mem_nil, or_false] at hv'; rcases hv' with rfl | rfl <;> rfl)
  simp only [Nat.add_zero] at hst
  have hz : (Builtin.zeroCells (Value.agg #[.string ⟨#[]⟩, .int .i64 0]).cells 1).toList = [.string ⟨#[]⟩, .int .i64 0] := by kernel_rfl
  have hv : ∀ w, (zeroValue 46).run Try.prog w = .ok (.agg #[.string ⟨#[]⟩, .int .i64 0]) w := fun w => by kernel_rfl
  simp [Builtin.clear_, run_underlying Try.underlying22, hv, hz, hst]
set_option maxRecDepth 100000 in
set_option maxHeartbeats 3200000 in
theorem delP_any (X : List Pt) (p j n c g B : Nat) (w : World) (h : w.ownsRow B 46 2 (.slice (some ⟨g, 0, none⟩) n c) n (ptCells X)) (hp : p < n) (hj : j = p + 1) (hn : n ≤ 1000) (hnc : n ≤ c) :
    Calls Try.prog 40 #[.slice (some ⟨g, 0, none⟩) n c, .int .i64 (p : Int), .int .i64 (j : Int)] w fun e w' => e = .returned (.slice (some ⟨g, 0, none⟩) (n - 1) c) ∧ w'.ownsRow B 46 2 (.slice (some ⟨g, 0, none⟩) (n - 1) c) (n - 1) (ptCells (X.eraseIdx p)) ∧ w.grownBy w' (some g) := by
  have hl : (ptCells X).length = n * 2 := h.1
  have Hl : Hid (X.length = n) := Lib.hid (by rw [ptCells_len] at hl; omega)
  obtain ⟨news, hnews⟩ : ∃ news, (ptCells X).drop (j * 2) = news := ⟨_, rfl⟩
  have hlen : news.length = (n - j) * 2 := by rw [← hnews, List.length_drop, hl]; omega
  have hd := h.drew
  obtain ⟨A, hA, hsrc⟩ : ∃ A : Addr, (if c = j then (some ⟨g, 0, none⟩ : Option Addr) else some ⟨g, j * 2, none⟩) = some A ∧ Hid (∀ t u, news[t]? = some u → w.drew.cell? (A.add t) = some u) := by
    by_cases hcj : c = j
    · refine ⟨_, if_pos hcj, Lib.hid fun t u hu => ?_⟩
      have h0 : news.length = 0 := by rw [hlen]; omega
      rw [List.length_eq_zero_iff.1 h0] at hu
      simp at hu
    · refine ⟨_, if_neg hcj, Lib.hid fun t u hu => ?_⟩
      have ht : t < news.length := (List.getElem?_eq_some_iff.1 hu).1
      rw [← hnews, List.getElem?_drop] at hu
      rw [Addr.add_lit]
      exact (hd.cellAt (j * 2 + t) (by omega)).trans hu
  have s1 : Hid (news.length = (n - j) * 2) := Lib.hid hlen
  have s2 : Hid (∀ u ∈ news, u.oneCell' = true) := Lib.hid (fun u hu => ptCells_one X u (List.mem_of_mem_drop (hnews ▸ hu)))
  have s3 : Hid (∀ t, t < news.length → (w.drew.cell? ⟨g, 0 + p * 2 + t, none⟩).isSome = true ∧ w.drew.frozen? ⟨g, 0 + p * 2 + t, none⟩ = false) := Lib.hid (fun t ht => by
    rw [Nat.zero_add, hd.cellAt (p * 2 + t) (by omega), List.getElem?_eq_getElem (by omega)]
    exact ⟨rfl, hd.frozenAt _⟩)
  obtain ⟨W1, hW1⟩ : ∃ W1, w.drew.setCells g (0 + p * 2) news = W1 := ⟨_, rfl⟩
  have ho1 := own_setCells news w.drew (ptCells X) (0 + p * 2) hd
  rw [hW1] at ho1
  have hcl : ∀ ty, (Builtin.clear_ #[22] ty #[.slice (some ⟨g, (n - 1) * 2, none⟩) 1 (c - (n - 1))]).run Try.prog W1 = .ok (.tuple #[]) (W1.setCells g ((n - 1) * 2) [.string ⟨#[]⟩, .int .i64 0]) :=
    fun ty => clear_pt W1 ty g ((n - 1) * 2) _ (fun t ht => by rw [ho1.1.cellAt _ (by omega), List.getElem?_eq_getElem (by rw [setL_len]; omega)]; rfl) (fun t ht => ho1.1.frozenAt _)
  have ho2 := own_setCells [.string ⟨#[]⟩, .int .i64 0] W1 _ ((n - 1) * 2) ho1.1
  obtain ⟨W2, hW2⟩ : ∃ W2, W1.setCells g ((n - 1) * 2) [.string ⟨#[]⟩, .int .i64 0] = W2 := ⟨_, rfl⟩
  rw [hW2] at ho2 hcl
  have ho3 := own_shrink ho2.1 (by simp) (Nat.sub_le n 1)
  have he : (setL (setL (ptCells X) (0 + p * 2) news) ((n - 1) * 2) [.string ⟨#[]⟩, .int .i64 0]).take ((n - 1) * 2) = ptCells (X.eraseIdx p) := by
    rw [setL_eq _ _ _ (by rw [setL_len, hl]; simp; omega), List.append_assoc, List.take_append_of_le_length (by rw [List.length_take, setL_len, hl]; omega), List.take_take, Nat.min_self, setL_eq _ _ _ (by rw [hl, hlen]; omega), hlen]
    rw [List.take_append_of_le_length (by rw [List.length_append, List.length_take, hl, hlen]; omega), List.take_of_length_le (by rw [List.length_append, List.length_take, hl, hlen]; omega), ← hnews, Nat.zero_add, ptCells_take, ptCells_drop, ← ptCells_app, List.eraseIdx_eq_take_drop_succ, hj]
  rw [he] at ho3
  have Hend : Hid (W2.ownsRow B 46 2 (.slice (some ⟨g, 0, none⟩) (n - 1) c) (n - 1) (ptCells (X.eraseIdx p)) ∧ w.grownBy W2 (some g)) := Lib.hid ⟨ho3, (show w.grownBy w.drew _ from ⟨rfl, rfl, rfl, Nat.le_refl _, fun _ _ _ => rfl⟩).trans (ho1.2.trans ho2.2)⟩
  have Hcl := Lib.hid hcl
  have HW1 := Lib.hid hW1
  have hne : ((p : Int) == (j : Int)) = false := by simp; omega
  have e1 : n - (p + (n - j)) = 1 := by omega
  have e2 : (p + (n - j)) = n - 1 := by omega
  have hpc : p ≤ c := by omega
  have hjc : j ≤ c := by omega
  have hjn : j ≤ n := by omega
  have hpn : p + (n - j) ≤ c := by omega
  have e3 : n - (n - 1) = 1 := by omega
  have Hj := Lib.hid hj
  clear hW1 hW2 ho1 ho2 ho3 he hcl hd h hnews hlen hj
  obtain ⟨i0, hi0, -, hz1, -⟩ := pt_elem.get
  go_enter Try.func40, Try.ntmps40
  go_wp2_with fail
  go_region_law (refine step_append_room rfl (.tmp 22) (.tmp 25) 22 rfl 46 i0 2 Try.underlying22 hi0 hz1 g 0 p c (by simp [Act.eval, Act.put]) A (n - j) (c - j) news (by simp [Act.eval, Act.put]) s1.out hsrc.out s2.out hpn s3.out ?_; rw [HW1.out, e2])
  go_wp2_with (simp only [Hcl.out])
  go_ret
  exact ⟨rfl, Hend.out⟩
end Go.Proofs.Ytefagaiaflddaaa
