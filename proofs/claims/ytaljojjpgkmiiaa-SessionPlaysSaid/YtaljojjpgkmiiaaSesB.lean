/- slices.Delete of the first texts of a row; Acked. Condition: the row is in memory. -/
import Derived.Test.YtaljojjpgkmiiaaSesA
import Derived.Deep.RegionLaw
import Derived.Lib.SliceRun
namespace Go.Proofs.Ytaljojjpgkmiiaa
open Go.RowKit

theorem take_setS {α : Type} {l : List α} {i : Nat} (h : i < l.length) (x : α) : (l.set i x).take (i + 1) = l.take i ++ [x] := by
  rw [List.take_succ_eq_append_getElem (by simp; omega)]
  simp [List.take_set_of_le]
def setS : List Value → Nat → List Value → List Value
  | xs, _, [] => xs
  | xs, o, v :: vs => setS (xs.set o v) (o + 1) vs
theorem setS_len : ∀ (vs xs : List Value) (o : Nat), (setS xs o vs).length = xs.length
  | [], _, _ => rfl
  | v :: vs, xs, o => by rw [setS, setS_len vs]; simp
theorem setS_eq : ∀ (vs xs : List Value) (o : Nat), o + vs.length ≤ xs.length → setS xs o vs = xs.take o ++ vs ++ xs.drop (o + vs.length)
  | [], xs, o, _ => by simp [setS]
  | v :: vs, xs, o, h => by
    simp only [List.length_cons] at h
    rw [setS, setS_eq vs (xs.set o v) (o + 1) (by simp; omega), take_setS (by omega), List.drop_set_of_lt (by omega)]
    simp [show o + 1 + vs.length = o + (vs.length + 1) by omega]
theorem own_setS {B n c g size : Nat} {e : TypeId} : ∀ (vs : List Value) (w : World) (xs : List Value) (o : Nat), w.ownsRow B e size (.slice (some ⟨g, 0, none⟩) n c) n xs →
    (w.setCells g o vs).ownsRow B e size (.slice (some ⟨g, 0, none⟩) n c) n (setS xs o vs) ∧ w.grownBy (w.setCells g o vs) (some g)
  | [], w, xs, o, h => ⟨h, World.grownBy.refl w _⟩
  | v :: vs, w, xs, o, h => by
    have h1 := h.stored o v
    have h2 := own_setS vs _ _ (o + 1) h1.1
    exact ⟨h2.1, h1.2.trans h2.2⟩
theorem own_shrinkS {w : World} {B n m c size : Nat} {e : TypeId} {A : Option Addr} {xs : List Value} (h : w.ownsRow B e size (.slice A n c) n xs) (hA : A ≠ none) (hm : m ≤ n) : w.ownsRow B e size (.slice A m c) m (xs.take (m * size)) := by
  have hl := h.1
  have hle : m * size ≤ n * size := Nat.mul_le_mul_right _ hm
  refine ⟨by rw [List.length_take]; omega, ?_⟩
  rcases h.2 with ⟨hv, _⟩ | ⟨g, cap, cur, hv, hbg, hg, hnc, hcm, hcs, htake⟩
  · injection hv with hv _ _
    exact absurd hv hA
  · injection hv with hv1 _ hv3
    subst hv1; subst hv3
    exact .inr ⟨g, c, cur, rfl, hbg, hg, by omega, hcm, hcs, by rw [← htake, List.take_take, Nat.min_eq_left hle]⟩
set_option maxRecDepth 100000 in
set_option maxHeartbeats 3200000 in
theorem delS_any (X : List ByteArray) (j n c g B : Nat) (w : World) (h : w.ownsRow B 9 1 (.slice (some ⟨g, 0, none⟩) n c) n (X.map Value.string)) (hj : j ≤ n) (h0 : 0 < j) (hn : n ≤ 1000) (hnc : n ≤ c) :
    Calls Try.prog 63 #[.slice (some ⟨g, 0, none⟩) n c, .int .i64 0, .int .i64 (j : Int)] w fun e w' => e = .returned (.slice (some ⟨g, 0, none⟩) (n - j : Nat) c) ∧ w'.ownsRow B 9 1 (.slice (some ⟨g, 0, none⟩) (n - j : Nat) c) (n - j) ((X.drop j).map Value.string) ∧ w.grownBy w' (some g) := by
  have hl : (X.map Value.string).length = n * 1 := h.1
  have Hl : Hid (X.length = n) := Lib.hid (by rw [List.length_map] at hl; omega)
  obtain ⟨q, hq⟩ : ∃ q, n - j = q := ⟨_, rfl⟩
  have Hq := Lib.hid hq
  obtain ⟨news, hnews⟩ : ∃ news, (X.map Value.string).drop j = news := ⟨_, rfl⟩
  have hlen : news.length = q * 1 := by rw [← hnews, List.length_drop, hl]; omega
  have hd := h.drew
  obtain ⟨A, hA, hsrc⟩ : ∃ A : Addr, (if c = j then (some ⟨g, 0, none⟩ : Option Addr) else some ⟨g, j, none⟩) = some A ∧ Hid (∀ t u, news[t]? = some u → w.drew.cell? (A.add t) = some u) := by
    by_cases hcj : c = j
    · refine ⟨_, if_pos hcj, Lib.hid fun t u hu => ?_⟩
      have h0 : news.length = 0 := by rw [hlen]; omega
      rw [List.length_eq_zero_iff.1 h0] at hu
      simp at hu
    · refine ⟨_, if_neg hcj, Lib.hid fun t u hu => ?_⟩
      have ht : t < news.length := (List.getElem?_eq_some_iff.1 hu).1
      rw [← hnews, List.getElem?_drop] at hu
      rw [Addr.add_lit]
      exact (hd.cellAt (j + t) (by omega)).trans hu
  have s1 : Hid (news.length = q * 1) := Lib.hid hlen
  have s2 : Hid (∀ u ∈ news, u.oneCell' = true) := Lib.hid (fun u hu => tx_one X u (List.mem_of_mem_drop (hnews ▸ hu)))
  have s3 : Hid (∀ t, t < news.length → (w.drew.cell? ⟨g, 0 + 0 * 1 + t, none⟩).isSome = true ∧ w.drew.frozen? ⟨g, 0 + 0 * 1 + t, none⟩ = false) := Lib.hid (fun t ht => by
    rw [show 0 + 0 * 1 + t = t from by omega, hd.cellAt t (by omega), List.getElem?_eq_getElem (by omega)]
    exact ⟨rfl, hd.frozenAt _⟩)
  obtain ⟨W1, hW1⟩ : ∃ W1, w.drew.setCells g (0 + 0 * 1) news = W1 := ⟨_, rfl⟩
  have ho1 := own_setS news w.drew (X.map Value.string) (0 + 0 * 1) hd
  rw [hW1] at ho1
  have hcl : ∀ ty, (Builtin.clear_ #[27] ty #[.slice (some ⟨g, q, none⟩) j (c - q)]).run Try.prog W1 = .ok (.tuple #[]) (W1.setCells g q (List.replicate j (.string ⟨#[]⟩))) :=
    fun ty => Lib.run_clear_slice W1 27 9 ty (.string ⟨#[]⟩) Try.underlying27 (fun w => by kernel_rfl) rfl rfl g q j (c - q) h0 (fun k hk => by rw [ho1.1.cellAt (q + k) (by omega), List.getElem?_eq_getElem (by rw [setS_len]; omega)]; rfl) (fun k hk => ho1.1.frozenAt (q + k))
  have ho2 := own_setS (List.replicate j (.string ⟨#[]⟩)) W1 _ q ho1.1
  obtain ⟨W2, hW2⟩ : ∃ W2, W1.setCells g q (List.replicate j (.string ⟨#[]⟩)) = W2 := ⟨_, rfl⟩
  rw [hW2] at ho2 hcl
  have ho3 := own_shrinkS ho2.1 (by simp) (m := q) (by omega)
  have he : (setS (setS (X.map Value.string) (0 + 0 * 1) news) q (List.replicate j (.string ⟨#[]⟩))).take (q * 1) = (X.drop j).map Value.string := by
    rw [setS_eq _ _ _ (by rw [setS_len, hl]; simp; omega), setS_eq _ _ _ (by rw [hl, hlen]; omega), Nat.mul_one, show 0 + 0 * 1 = 0 from rfl, List.take_zero, List.nil_append, List.append_assoc, List.take_append_of_le_length (by rw [List.length_take, List.length_append, hlen]; omega), List.take_take, Nat.min_self, List.take_append_of_le_length (by omega), List.take_of_length_le (by omega), ← hnews, List.map_drop]
  rw [he] at ho3
  have Hend : Hid (W2.ownsRow B 9 1 (.slice (some ⟨g, 0, none⟩) q c) q ((X.drop j).map Value.string) ∧ w.grownBy W2 (some g)) := Lib.hid ⟨ho3, (show w.grownBy w.drew _ from ⟨rfl, rfl, rfl, Nat.le_refl _, fun _ _ _ => rfl⟩).trans (ho1.2.trans ho2.2)⟩
  have Hcl := Lib.hid hcl
  have HW1 := Lib.hid hW1
  have hne : ((0 : Int) == (j : Int)) = false := by simp; omega
  have e1 : n - q = j := by omega
  have hqc : 0 + q ≤ c := by omega
  have hqc2 : q ≤ c := by omega
  have hjc : j ≤ c := by omega
  have hqn : q ≤ n := by omega
  rw [hq]
  clear hW1 hW2 ho1 ho2 ho3 he hcl hd h hnews hlen
  obtain ⟨i0, hi0, -, hz1, -⟩ := tx_elem.get
  go_enter Try.func63, Try.ntmps63
  go_wp2_with fail
  go_region_law (refine step_append_room rfl (.tmp 22) (.tmp 25) 27 rfl 9 i0 1 Try.underlying27 hi0 hz1 g 0 0 c (by simp [Act.eval, Act.put]) A q (c - j) news (by simp [Act.eval, Act.put]) s1.out hsrc.out s2.out hqc s3.out ?_; rw [HW1.out, Nat.zero_add])
  go_wp2_with (simp only [Hcl.out])
  go_ret
  exact ⟨rfl, Hend.out⟩
end Go.Proofs.Ytaljojjpgkmiiaa
