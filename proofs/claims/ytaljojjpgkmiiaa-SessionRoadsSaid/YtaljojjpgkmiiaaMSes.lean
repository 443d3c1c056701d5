/- Package session: Post. Condition: the end is in memory. -/
import Derived.Test.YtaljojjpgkmiiaaMWalk
import Derived.Test.YtaljojjpgkmiiaaMMem
import Derived.Deep.RegionLaw
import Derived.Lib.SliceRun
import Derived.Deep.RegionHeld3
namespace Go.Proofs.Ytaljojjpgkmiiaa
open Go.RowKit

theorem tx_elem : ElemN Try.prog 9 1 16 (.string ⟨#[]⟩) := ⟨by kernel_rfl, rfl⟩
/-- a row of texts that somebody owns -/
def OwnTx (w : World) (B : Nat) (v : Value) (l : List ByteArray) : Prop := w.ownsRow B 9 1 v l.length (l.map Value.string)
theorem tx_one (l : List ByteArray) : ∀ u ∈ l.map Value.string, u.oneCell' = true := by
  intro u hu
  obtain ⟨x, -, rfl⟩ := List.mem_map.1 hu
  rfl
theorem OwnTx.slice {w : World} {B : Nat} {v : Value} {l : List ByteArray} (h : OwnTx w B v l) : ∃ A c, v = .slice A l.length c ∧ l.length ≤ c ∧ c ≤ maxLen ∧ HasTexts w w.heap.size A l.length l := by
  obtain ⟨A, c, e, h1, h2, h3⟩ := own_sliceN h
  rw [Nat.mul_one] at h3
  exact ⟨A, c, e, h1, h2, h3⟩
theorem OwnTx.nil (w : World) (B : Nat) : OwnTx w B (.slice none 0 0) [] := World.ownsRow_nil _ _ _ _
theorem OwnTx.below {w w' : World} {B : Nat} {v : Value} {l : List ByteArray} (h : OwnTx w B v l) (hb : Below w.heap.size w w') : OwnTx w' B v l := own_belowN h hb
theorem OwnTx.base {w : World} {B B' : Nat} {v : Value} {l : List ByteArray} (h : OwnTx w B v l) (hB : B' ≤ B) : OwnTx w B' v l := own_baseN h hB
theorem own_keepN {w w' : World} {B m size : Nat} {e : TypeId} {v : Value} {xs : List Value} (h : w.ownsRow B e size v m xs) (hk : ∀ g, v.ownBlock = some g → w'.heap[g]? = w.heap[g]?) : w'.ownsRow B e size v m xs := by
  refine ⟨h.1, ?_⟩
  rcases h.2 with hn | ⟨g, cap, cur, rfl, hB, hg, rest⟩
  · exact .inl hn
  · exact .inr ⟨g, cap, cur, rfl, hB, (hk g rfl).trans hg, rest⟩
theorem own_no_box {w : World} {B m size g : Nat} {e t : TypeId} {v : Value} {xs : List Value} {cs : Array Value} (h : w.ownsRow B e size v m xs) (hb : Box w g t cs) (hne : e ≠ t) : ∀ b, v.ownBlock = some b → b ≠ g := by
  intro b hv e0
  subst e0
  rcases h.2 with ⟨rfl, _⟩ | ⟨g1, cap, cur, rfl, hB, hh, rest⟩
  · cases hv
  · cases hv
    unfold Box at hb
    rw [hb] at hh
    injection hh with hh
    injection hh with _ hh
    exact hne hh.symm

/-- only the box g and v's row may have turned -/
structure KeptE (g : Nat) (v : Value) (w w' : World) : Prop where
  os : w'.os = w.os
  tape : w'.tape = w.tape
  output : w'.output = w.output
  size : w.heap.size ≤ w'.heap.size
  block : ∀ i, i < w.heap.size → i ≠ g → v.ownBlock ≠ some i → w'.heap[i]? = w.heap[i]?
/-- the row is where it was, or in new memory -/
def NewV (w : World) (v v' : Value) : Prop := v'.ownBlock = v.ownBlock ∨ ∃ k, w.heap.size ≤ k ∧ v'.ownBlock = some k
section
variable {w w' w1 w2 : World} {B g : Nat} {v v1 v2 : Value}
theorem KeptE.of (h : Below w.heap.size w w') : KeptE g v w w' := ⟨h.os, h.tape, h.output, h.size, fun i hi _ _ => h.block i hi⟩
theorem KeptE.trans (h : KeptE g v w w1) (hv : NewV w v v1) (k : KeptE g v1 w1 w2) : KeptE g v w w2 :=
  ⟨k.os.trans h.os, k.tape.trans h.tape, k.output.trans h.output, Nat.le_trans h.size k.size, fun i hi h1 h2 => (k.block i (Nat.lt_of_lt_of_le hi h.size) h1 fun e => by
    rcases hv with hv | ⟨j, hj, hv⟩
    · exact h2 (hv ▸ e)
    · rw [hv] at e
      injection e with e
      omega).trans (h.block i hi h1 h2)⟩
theorem KeptE.grown {i : Option Nat} (h : w.grownBy w' i) (hi : i = some g ∨ i = v.ownBlock) : KeptE g v w w' :=
  ⟨h.os, h.tape, h.output, h.size, fun j hj h1 h2 => h.block j hj fun e => by
    rcases hi with rfl | rfl
    · injection e with e
      exact h1 e
    · exact h2 e.symm⟩
theorem KeptE.below (h : KeptE g v w w') (hg : B ≤ g) (hv : ∀ i, v.ownBlock = some i → B ≤ i) (hB : B ≤ w.heap.size) : Below B w w' :=
  ⟨h.os, h.tape, h.output, h.size, fun i hi => h.block i (by omega) (by omega) fun e => by have := hv i e; omega⟩
theorem NewV.refl (w : World) (v : Value) : NewV w v v := .inl rfl
theorem NewV.trans (h : NewV w v v1) (hs : w.heap.size ≤ w1.heap.size) (k : NewV w1 v1 v2) : NewV w v v2 := by
  rcases k with k | ⟨j, hj, k⟩
  · rcases h with h | ⟨i, hi, h⟩
    · exact .inl (k.trans h)
    · exact .inr ⟨i, hi, k.trans h⟩
  · exact .inr ⟨j, Nat.le_trans hs hj, k⟩
end
/-- The pointer to block g is the end E: the texts that wait lie in v's row. -/
structure EndAt (w : World) (B g : Nat) (v : Value) (E : SE) : Prop where
  gB : B ≤ g
  box : Box w g 107 #[.int .i64 E.m, .int .i64 E.s, v]
  own : OwnTx w B v E.l
  good : E.Good
section
variable {w w' : World} {B B' g : Nat} {v : Value} {E : SE}
theorem EndAt.lt (h : EndAt w B g v E) : g < w.heap.size := h.box.lt
theorem EndAt.below (h : EndAt w B g v E) (hb : Below w.heap.size w w') : EndAt w' B g v E := ⟨h.gB, h.box.below hb h.box.lt, h.own.below hb, h.good⟩
theorem EndAt.base (h : EndAt w B g v E) (hB : B' ≤ B) : EndAt w B' g v E := ⟨Nat.le_trans hB h.gB, h.box, h.own.base hB, h.good⟩
theorem EndAt.keep (h : EndAt w B g v E) (hg : w'.heap[g]? = w.heap[g]?) (hv : ∀ i, v.ownBlock = some i → w'.heap[i]? = w.heap[i]?) : EndAt w' B g v E := ⟨h.gB, hg.trans h.box, own_keepN h.own hv, h.good⟩
theorem EndAt.apart (h : EndAt w B g v E) : v.ownBlock ≠ some g := fun e => own_no_box h.own h.box (by decide) g e rfl
theorem EndAt.cells (h : EndAt w B g v E) : w.cell? ⟨g, 0, none⟩ = some (.int .i64 E.m) ∧ w.cell? ⟨g, 1, none⟩ = some (.int .i64 E.s) ∧ w.cell? ⟨g, 2, none⟩ = some v ∧ w.frozen? ⟨g, 0, none⟩ = false ∧ w.frozen? ⟨g, 1, none⟩ = false ∧ w.frozen? ⟨g, 2, none⟩ = false :=
  ⟨h.box.cell 0, h.box.cell 1, h.box.cell 2, h.box.frozen 0, h.box.frozen 1, h.box.frozen 2⟩
theorem EndAt.kept (h : EndAt w B g v E) (k : KeptE g v w w') (hB : B ≤ w.heap.size) : Below B w w' := k.below h.gB (fun i e => (h.own.lt i e).1) hB
end
theorem sesNew_any (w : World) : Calls Try.prog 16 #[] w fun e w' => ∃ g, e = .returned (.pointer (some ⟨g, 0, none⟩)) ∧ EndAt w' w.heap.size g (.slice none 0 0) ⟨0, 0, []⟩ ∧ Below w.heap.size w w' := by
  have Hx := Lib.hid (Box.made w 107 #[.int .i64 0, .int .i64 0, .slice none 0 0])
  have Hb : Hid (Below w.heap.size w (w.alloc (.cells #[.int .i64 0, .int .i64 0, .slice none 0 0] 107))) := Lib.hid (below_box _)
  go_enter Try.func16, Try.ntmps16
  go_wp2
  go_ret
  exact ⟨_, rfl, ⟨Nat.le_refl _, Hx.out, OwnTx.nil _ _, SE.Good.new⟩, Hb.out⟩
section
variable {w : World} {B g : Nat} {v : Value} {E : SE}
theorem sesMark_any (h : EndAt w B g v E) : Calls Try.prog 29 #[.pointer (some ⟨g, 0, none⟩)] w fun e w' => e = .returned (.int .i64 E.m) ∧ w = w' := by
  obtain ⟨c0, -⟩ := h.cells
  clear h
  go_enter Try.func29, Try.ntmps29
  go_wp2
  go_ret
  exact ⟨rfl, rfl⟩
theorem sesWaiting_any (h : EndAt w B g v E) : Calls Try.prog 30 #[.pointer (some ⟨g, 0, none⟩)] w fun e w' => e = .returned (.int .i64 E.l.length) ∧ w = w' := by
  obtain ⟨-, -, c2, -⟩ := h.cells
  obtain ⟨A, c, rfl, -⟩ := h.own.slice
  clear h
  go_enter Try.func30, Try.ntmps30
  go_wp2
  go_ret
  exact ⟨rfl, rfl⟩
theorem brought_any (h : EndAt w B g v E) : Calls Try.prog 62 #[.pointer (some ⟨g, 0, none⟩)] w fun e w' => e = .returned (.int .i64 (E.s - E.l.length : Int)) ∧ Below w.heap.size w w' := by
  obtain ⟨-, c1, c2, -⟩ := h.cells
  obtain ⟨A, c, rfl, -⟩ := h.own.slice
  have h1 := h.good.sl
  have h2 := h.good.ll
  have h3 := h.good.le
  have hw : IntKind.i64.wrap ((E.s : Int) - (E.l.length : Int)) = (E.s : Int) - (E.l.length : Int) := IntWalk.i64_in _ (by omega)
  clear h
  go_enter Try.func62, Try.ntmps62
  go_wp2
  go_quiet (fail)
  go_wp2
  go_ret
  exact ⟨rfl, ⟨rfl, rfl, rfl, Nat.le_refl _, fun _ _ => rfl⟩⟩
end
end Go.Proofs.Ytaljojjpgkmiiaa

namespace Go.Proofs.Ytaljojjpgkmiiaa
open Go.RowKit

theorem take_setS {α : Type} {l : List α} {i : Nat} (h : i < l.length) (x : α) : (l.set i x).take (i + 1) = l.take i ++ [x] := by
  rw [List.take_succ_eq_append_getElem (by simp; omega)]
  simp [List.take_set_of_le]
def setS : List Value → Nat → List Value → List Value
  | xs, _, [] => xs
  | xs, o, v :: vs => setS (xs.set o v) (o + 1) vs
theorem setS_len : ∀ (vs xs : List Value) (o : Nat), (setS xs o vs).length = xs.length
  | [], _, _ => rfl
  | v :: vs, xs, o => by rw [setS, setS_len vs]; simp
theorem setS_eq : ∀ (vs xs : List Value) (o : Nat), o + vs.length ≤ xs.length → setS xs o vs = xs.take o ++ vs ++ xs.drop (o + vs.length)
  | [], xs, o, _ => by simp [setS]
  | v :: vs, xs, o, h => by
    simp only [List.length_cons] at h
    rw [setS, setS_eq vs (xs.set o v) (o + 1) (by simp; omega), take_setS (by omega), List.drop_set_of_lt (by omega)]
    simp [show o + 1 + vs.length = o + (vs.length + 1) by omega]
theorem own_setS {B n c g size : Nat} {e : TypeId} : ∀ (vs : List Value) (w : World) (xs : List Value) (o : Nat), w.ownsRow B e size (.slice (some ⟨g, 0, none⟩) n c) n xs →
    (w.setCells g o vs).ownsRow B e size (.slice (some ⟨g, 0, none⟩) n c) n (setS xs o vs) ∧ w.grownBy (w.setCells g o vs) (some g)
  | [], w, xs, o, h => ⟨h, World.grownBy.refl w _⟩
  | v :: vs, w, xs, o, h => by
    have h1 := h.stored o v
    have h2 := own_setS vs _ _ (o + 1) h1.1
    exact ⟨h2.1, h1.2.trans h2.2⟩
theorem own_shrinkS {w : World} {B n m c size : Nat} {e : TypeId} {A : Option Addr} {xs : List Value} (h : w.ownsRow B e size (.slice A n c) n xs) (hA : A ≠ none) (hm : m ≤ n) : w.ownsRow B e size (.slice A m c) m (xs.take (m * size)) := by
  have hl := h.1
  have hle : m * size ≤ n * size := Nat.mul_le_mul_right _ hm
  refine ⟨by rw [List.length_take]; omega, ?_⟩
  rcases h.2 with ⟨hv, _⟩ | ⟨g, cap, cur, hv, hbg, hg, hnc, hcm, hcs, htake⟩
  · injection hv with hv _ _
    exact absurd hv hA
  · injection hv with hv1 _ hv3
    subst hv1; subst hv3
    exact .inr ⟨g, c, cur, rfl, hbg, hg, by omega, hcm, hcs, by rw [← htake, List.take_take, Nat.min_eq_left hle]⟩
set_option maxRecDepth 100000 in
set_option maxHeartbeats 3200000 in
theorem delS_any (X : List ByteArray) (j n c g B : Nat) (w : World) (h : w.ownsRow B 9 1 (.slice (some ⟨g, 0, none⟩) n c) n (X.map Value.string)) (hj : j ≤ n) (h0 : 0 < j) (hn : n ≤ 1000) (hnc : n ≤ c) :
    Calls Try.prog 63 #[.slice (some ⟨g, 0, none⟩) n c, .int .i64 0, .int .i64 (j : Int)] w fun e w' => e = .returned (.slice (some ⟨g, 0, none⟩) (n - j : Nat) c) ∧ w'.ownsRow B 9 1 (.slice (some ⟨g, 0, none⟩) (n - j : Nat) c) (n - j) ((X.drop j).map Value.string) ∧ w.grownBy w' (some g) := by
  have hl : (X.map Value.string).length = n * 1 := h.1
  have Hl : Hid (X.length = n) := Lib.hid (by rw [List.length_map] at hl; omega)
  obtain ⟨q, hq⟩ : ∃ q, n - j = q := ⟨_, rfl⟩
  have Hq := Lib.hid hq
  obtain ⟨news, hnews⟩ : ∃ news, (X.map Value.string).drop j = news := ⟨_, rfl⟩
  have hlen : news.length = q * 1 := by rw [← hnews, List.length_drop, hl]; omega
  have hd := h.drew
  obtain ⟨A, hA, hsrc⟩ : ∃ A : Addr, (if c = j then (some ⟨g, 0, none⟩ : Option Addr) else some ⟨g, j, none⟩) = some A ∧ Hid (∀ t u, news[t]? = some u → w.drew.cell? (A.add t) = some u) := by
    by_cases hcj : c = j
    · refine ⟨_, if_pos hcj, Lib.hid fun t u hu => ?_⟩
      have h0 : news.length = 0 := by rw [hlen]; omega
      rw [List.length_eq_zero_iff.1 h0] at hu
      simp at hu
    · refine ⟨_, if_neg hcj, Lib.hid fun t u hu => ?_⟩
      have ht : t < news.length := (List.getElem?_eq_some_iff.1 hu).1
      rw [← hnews, List.getElem?_drop] at hu
      rw [Addr.add_lit]
      exact (hd.cellAt (j + t) (by omega)).trans hu
  have s1 : Hid (news.length = q * 1) := Lib.hid hlen
  have s2 : Hid (∀ u ∈ news, u.oneCell' = true) := Lib.hid (fun u hu => tx_one X u (List.mem_of_mem_drop (hnews ▸ hu)))
  have s3 : Hid (∀ t, t < news.length → (w.drew.cell? ⟨g, 0 + 0 * 1 + t, none⟩).isSome = true ∧ w.drew.frozen? ⟨g, 0 + 0 * 1 + t, none⟩ = false) := Lib.hid (fun t ht => by
    rw [show 0 + 0 * 1 + t = t from by omega, hd.cellAt t (by omega), List.getElem?_eq_getElem (by omega)]
    exact ⟨rfl, hd.frozenAt _⟩)
  obtain ⟨W1, hW1⟩ : ∃ W1, w.drew.setCells g (0 + 0 * 1) news = W1 := ⟨_, rfl⟩
  have ho1 := own_setS news w.drew (X.map Value.string) (0 + 0 * 1) hd
  rw [hW1] at ho1
  have hcl : ∀ ty, (Builtin.clear_ #[27] ty #[.slice (some ⟨g, q, none⟩) j (c - q)]).run Try.prog W1 = .ok (.tuple #[]) (W1.setCells g q (List.replicate j (.string ⟨#[]⟩))) :=
    fun ty => Lib.run_clear_slice W1 27 9 ty (.string ⟨#[]⟩) Try.underlying27 (fun w => by kernel_rfl) rfl rfl g q j (c - q) h0 (fun k hk => by rw [ho1.1.cellAt (q + k) (by omega), List.getElem?_eq_getElem (by rw [setS_len]; omega)]; rfl) (fun k hk => ho1.1.frozenAt (q + k))
  have ho2 := own_setS (List.replicate j (.string ⟨#[]⟩)) W1 _ q ho1.1
  obtain ⟨W2, hW2⟩ : ∃ W2, W1.setCells g q (List.replicate j (.string ⟨#[]⟩)) = W2 := ⟨_, rfl⟩
  rw [hW2] at ho2 hcl
  have ho3 := own_shrinkS ho2.1 (by simp) (m := q) (by omega)
  have he : (setS (setS (X.map Value.string) (0 + 0 * 1) news) q (List.replicate j (.string ⟨#[]⟩))).take (q * 1) = (X.drop j).map Value.string := by
    rw [setS_eq _ _ _ (by rw [setS_len, hl]; simp; omega), setS_eq _ _ _ (by rw [hl, hlen]; omega), Nat.mul_one, show 0 + 0 * 1 = 0 from rfl, List.take_zero, List.nil_append, List.append_assoc, List.take_append_of_le_length (by rw [List.length_take, List.length_append, hlen]; omega), List.take_take, Nat.min_self, List.take_append_of_le_length (by omega), List.take_of_length_le (by omega), ← hnews, List.map_drop]
  rw [he] at ho3
  have Hend : Hid (W2.ownsRow B 9 1 (.slice (some ⟨g, 0, none⟩) q c) q ((X.drop j).map Value.string) ∧ w.grownBy W2 (some g)) := Lib.hid ⟨ho3, (show w.grownBy w.drew _ from ⟨rfl, rfl, rfl, Nat.le_refl _, fun _ _ _ => rfl⟩).trans (ho1.2.trans ho2.2)⟩
  have Hcl := Lib.hid hcl
  have HW1 := Lib.hid hW1
  have hne : ((0 : Int) == (j : Int)) = false := by simp; omega
  have e1 : n - q = j := by omega
  have hqc : 0 + q ≤ c := by omega
  have hqc2 : q ≤ c := by omega
  have hjc : j ≤ c := by omega
  have hqn : q ≤ n := by omega
  rw [hq]
  clear hW1 hW2 ho1 ho2 ho3 he hcl hd h hnews hlen
  obtain ⟨i0, hi0, -, hz1, -⟩ := tx_elem.get
  go_enter Try.func63, Try.ntmps63
  go_wp2_with fail
  go_region_law (refine step_append_room rfl (.tmp 22) (.tmp 25) 27 rfl 9 i0 1 Try.underlying27 hi0 hz1 g 0 0 c (by simp [Act.eval, Act.put]) A q (c - j) news (by simp [Act.eval, Act.put]) s1.out hsrc.out s2.out hqc s3.out ?_; rw [HW1.out, Nat.zero_add])
  go_wp2_with (simp only [Hcl.out])
  go_ret
  exact ⟨rfl, Hend.out⟩
end Go.Proofs.Ytaljojjpgkmiiaa

namespace Go.Proofs.Ytaljojjpgkmiiaa
open Go.RowKit

section
variable {w : World} {B g : Nat} {v : Value} {E : SE}
theorem EndAt.store0 (h : EndAt w B g v E) (k : Nat) (hk : k ≤ 1099511627776) : EndAt (w.setCell ⟨g, 0, none⟩ (.int .i64 k)) B g v ⟨k, E.s, E.l⟩ ∧ KeptE g v w (w.setCell ⟨g, 0, none⟩ (.int .i64 k)) := by
  have hg : w.grownBy (w.setCell ⟨g, 0, none⟩ (.int .i64 k)) (some g) := ⟨rfl, rfl, rfl, by simp [World.setCell], fun i _ hi => Below.heap_setCell w ⟨g, 0, none⟩ _ i fun e => hi (by rw [e])⟩
  refine ⟨⟨h.gB, by have h8 := h.box.set_ 0 (.int .i64 k); simpa using h8, own_keepN h.own fun i hi => hg.block i (h.own.lt i hi).2 fun e => h.apart (by rw [hi, e]), ?_⟩, KeptE.grown hg (.inl rfl)⟩
  exact ⟨hk, h.good.sl, h.good.ll, h.good.le, h.good.tx⟩
set_option maxRecDepth 100000 in
set_option maxHeartbeats 800000 in
theorem sesTake_any (h : EndAt w B g v E) (k : Int) (x : ByteArray) : Calls Try.prog 22 #[.pointer (some ⟨g, 0, none⟩), .int .i64 k, .string x] w fun e w' =>
    e = .returned (.bool (E.take k).2) ∧ EndAt w' B g v (E.take k).1 ∧ KeptE g v w w' := by
  obtain ⟨c0, -, -, f0, -⟩ := h.cells
  have h1 := h.good.ml
  obtain ⟨M, hM⟩ : ∃ M : Nat, E.m + 1 = M := ⟨_, rfl⟩
  have hw : IntKind.i64.wrap ((E.m : Int) + 1) = (M : Int) := by rw [← hM]; exact IntWalk.i64_in _ (by omega)
  by_cases h2 : k = (E.m : Int) + 1
  · obtain rfl : k = (M : Int) := by omega
    by_cases h3 : M ≤ 1099511627776
    · have ht : E.take (M : Int) = (⟨M, E.s, E.l⟩, true) := by unfold SE.take; rw [if_pos ⟨h2, by omega⟩]; rfl
      rw [ht]
      have Hs := Lib.hid (h.store0 M h3)
      have e2 : ¬ (1099511627776 : Int) < (M : Int) := by omega
      clear h ht h1 h2 h3 hM
      go_enter Try.func22, Try.ntmps22
      go_wp2
      go_ret
      exact ⟨rfl, Hs.out⟩
    · have ht : E.take (M : Int) = (E, false) := by unfold SE.take; rw [if_neg fun h => h3 (by omega)]
      rw [ht]
      have HE : Hid (EndAt w B g v E ∧ KeptE g v w w) := Lib.hid ⟨h, KeptE.of (Below.refl _ _)⟩
      have e2 : (1099511627776 : Int) < (M : Int) := by omega
      clear h ht h1 h2 h3 hM
      go_enter Try.func22, Try.ntmps22
      go_wp2
      go_ret
      exact ⟨rfl, HE.out⟩
  · have ht : E.take k = (E, false) := by unfold SE.take; rw [if_neg fun h => h2 h.1]
    rw [ht]
    have HE : Hid (EndAt w B g v E ∧ KeptE g v w w) := Lib.hid ⟨h, KeptE.of (Below.refl _ _)⟩
    have e1 : (k != (M : Int)) = true := by simp; omega
    clear h ht h1 h2 hM
    go_enter Try.func22, Try.ntmps22
    go_wp2
    go_ret
    exact ⟨rfl, HE.out⟩
end
/-- what Send leaves -/
def SendEP (B g : Nat) (v : Value) (E : SE) (x : ByteArray) (w : World) (e : Ending) (w' : World) : Prop :=
  ∃ v', e = .returned (.tuple #[.int .i64 (E.send x).2.1, .int .i64 (E.send x).2.2]) ∧ EndAt w' B g v' (E.send x).1 ∧ KeptE g v w w' ∧ NewV w v v'
section
variable {w : World} {B g : Nat} {v : Value} {E : SE}
theorem EndAt.store1 (h : EndAt w B g v E) (k : Nat) (hk : k ≤ 1099511627776) (hs : E.s ≤ k) : EndAt (w.setCell ⟨g, 1, none⟩ (.int .i64 k)) B g v ⟨E.m, k, E.l⟩ ∧ KeptE g v w (w.setCell ⟨g, 1, none⟩ (.int .i64 k)) := by
  have hg : w.grownBy (w.setCell ⟨g, 1, none⟩ (.int .i64 k)) (some g) := ⟨rfl, rfl, rfl, by simp [World.setCell], fun i _ hi => Below.heap_setCell w ⟨g, 1, none⟩ _ i fun e => hi (by rw [e])⟩
  refine ⟨⟨h.gB, by have h8 := h.box.set_ 1 (.int .i64 k); simpa using h8, own_keepN h.own fun i hi => hg.block i (h.own.lt i hi).2 fun e => h.apart (by rw [hi, e]), ?_⟩, KeptE.grown hg (.inl rfl)⟩
  exact ⟨h.good.ml, hk, h.good.ll, Nat.le_trans h.good.le hs, h.good.tx⟩
theorem send_end {w1 w5 wA : World} {v7 : Value} {S N : Nat} {x : ByteArray} (hx : ¬ 65536 < x.size ∧ ¬ (256 ≤ E.l.length ∨ 1099511627776 ≤ E.s)) (hle : E.l.length ≤ E.s) (hS : E.s + 1 = S) (hN : E.l.length = N) (h1 : EndAt w1 B g v ⟨E.m, S, E.l⟩ ∧ KeptE g v w w1) (hsz : w1.heap.size = w.heap.size) (hb : Below w1.heap.size w1 w5)
    (o7 : wA.ownsRow B 9 1 v7 (N + 1) (E.l.map Value.string ++ [.string x])) (g7 : w5.grownBy wA v.ownBlock) (z7 : v7.ownBlock = v.ownBlock ∨ v7.ownBlock = some w5.heap.size) (hb9 : Box (wA.setCell ⟨g, 2, none⟩ v7) g 107 #[.int .i64 E.m, .int .i64 S, v7]) :
    EndAt (wA.setCell ⟨g, 2, none⟩ v7) B g v7 ⟨E.m, S, E.l ++ [x]⟩ ∧ KeptE g v w (wA.setCell ⟨g, 2, none⟩ v7) ∧ NewV w v v7 := by
  obtain ⟨h1, k1⟩ := h1
  have hn7 : NewV w v v7 := z7.imp id fun e => ⟨_, by have := hb.size; omega, e⟩
  have hng : v7.ownBlock ≠ some g := by
    rcases z7 with z | z
    · rw [z]; exact h1.apart
    · rw [z]
      intro e
      injection e with e
      have := h1.lt
      have := hb.size
      omega
  have hg9 : wA.grownBy (wA.setCell ⟨g, 2, none⟩ v7) (some g) := ⟨rfl, rfl, rfl, by simp [World.setCell], fun i _ hi => Below.heap_setCell wA ⟨g, 2, none⟩ _ i fun e => hi (by rw [e])⟩
  refine ⟨⟨h1.gB, hb9, ?_, ?_⟩, ?_, hn7⟩
  · unfold OwnTx
    rw [List.length_append, List.length_singleton, hN, List.map_append]
    exact own_keepN o7 fun i hi => hg9.block i (o7.lt i hi).2 fun e => hng (by rw [hi, e])
  · have hg := h1.good
    refine ⟨hg.ml, by show S ≤ _; omega, by simp; omega, by show (E.l ++ [x]).length ≤ S; simp; omega, fun y hy => ?_⟩
    rcases List.mem_append.1 hy with hy | hy
    · exact hg.tx y hy
    · simp at hy; subst hy; omega
  · have k5 : KeptE g v w1 w5 := KeptE.of hb
    have kA : KeptE g v w5 wA := KeptE.grown g7 (.inr rfl)
    have k6 : KeptE g v w wA := (k1.trans (.inl rfl) k5).trans (.inl rfl) kA
    exact k6.trans (.inl rfl) (KeptE.grown hg9 (.inl rfl))
set_option maxRecDepth 100000 in
set_option maxHeartbeats 3200000 in
theorem sesSend_any (h : EndAt w B g v E) (hB : B ≤ w.heap.size) (x : ByteArray) : Calls Try.prog 17 #[.pointer (some ⟨g, 0, none⟩), .string x] w (SendEP B g v E x w) := by
  obtain ⟨c0, c1, c2, f0, f1, f2⟩ := h.cells
  obtain ⟨A, c, rfl, -⟩ := h.own.slice
  by_cases hx : 65536 < x.size
  · have ht : E.send x = (E, 0, 4) := if_pos hx
    have HT := Lib.hid ht
    have HE : Hid (EndAt w B g (.slice A E.l.length c) E ∧ KeptE g (.slice A E.l.length c) w w ∧ NewV w (.slice A E.l.length c) (.slice A E.l.length c)) := Lib.hid ⟨h, KeptE.of (Below.refl _ _), .inl rfl⟩
    have e1 : (65536 : Int) < (x.size : Int) := by omega
    clear h ht hx
    go_enter Try.func17, Try.ntmps17
    go_wp2
    go_ret2
    exact ⟨_, by rw [HT.out]; rfl, by rw [HT.out]; exact HE.out⟩
  · have e1 : ¬ (65536 : Int) < (x.size : Int) := by omega
    by_cases h2 : 256 ≤ E.l.length ∨ 1099511627776 ≤ E.s
    · have ht : E.send x = (E, 0, 17) := by unfold SE.send; rw [if_neg hx, if_pos h2]
      have HT := Lib.hid ht
      have HE : Hid (EndAt w B g (.slice A E.l.length c) E ∧ KeptE g (.slice A E.l.length c) w w ∧ NewV w (.slice A E.l.length c) (.slice A E.l.length c)) := Lib.hid ⟨h, KeptE.of (Below.refl _ _), .inl rfl⟩
      by_cases h3 : 256 ≤ E.l.length
      · have e2 : (256 : Int) ≤ (E.l.length : Int) := by omega
        clear h ht hx h2 h3
        go_enter Try.func17, Try.ntmps17
        go_wp2
        go_ret2
        exact ⟨_, by rw [HT.out]; rfl, by rw [HT.out]; exact HE.out⟩
      · have e2 : ¬ (256 : Int) ≤ (E.l.length : Int) := by omega
        have e3 : (1099511627776 : Int) ≤ (E.s : Int) := by omega
        clear h ht hx h2 h3
        go_enter Try.func17, Try.ntmps17
        go_wp2
        go_ret2
        exact ⟨_, by rw [HT.out]; rfl, by rw [HT.out]; exact HE.out⟩
    · have ht : E.send x = (⟨E.m, E.s + 1, E.l ++ [x]⟩, E.s + 1, 0) := by unfold SE.send; rw [if_neg hx, if_neg h2]
      have HT := Lib.hid ht
      have e2 : ¬ (256 : Int) ≤ (E.l.length : Int) := by omega
      have e3 : ¬ (1099511627776 : Int) ≤ (E.s : Int) := by omega
      obtain ⟨S, hS⟩ : ∃ S : Nat, E.s + 1 = S := ⟨_, rfl⟩
      have hw : IntKind.i64.wrap ((E.s : Int) + 1) = (S : Int) := by rw [← hS]; exact IntWalk.i64_in _ (by omega)
      obtain ⟨w1, hw1⟩ : ∃ w1, w.setCell ⟨g, 1, none⟩ (.int .i64 (S : Int)) = w1 := ⟨_, rfl⟩
      have Hs1 := Lib.hid (h.store1 S (by omega) (by omega))
      rw [hw1] at Hs1
      have Hsz : Hid (w1.heap.size = w.heap.size) := Lib.hid (by rw [← hw1]; simp)
      have HX := Lib.hid (And.intro hx h2)
      have HS := Lib.hid hS
      have HLe := Lib.hid h.good.le
      obtain ⟨N, hN⟩ : ∃ N, E.l.length = N := ⟨_, rfl⟩
      have HN := Lib.hid hN
      have Ho : Hid (w1.ownsRow B 9 1 (.slice A N c) N (E.l.map Value.string)) := Lib.hid (by rw [← hN]; exact Hs1.out.1.own)
      have HB1 : Hid (Box w1 g 107 #[.int .i64 E.m, .int .i64 (S : Int), .slice A N c]) := Lib.hid (by rw [← hN]; exact Hs1.out.1.box)
      have hN256 : N ≤ 256 := by omega
      rw [hN] at e2 c2 Hs1
      have hgw : g < w1.heap.size := HB1.out.lt
      have hB1 : B ≤ w1.heap.size := by rw [Hsz.out]; exact hB
      have d2 : w1.cell? ⟨g, 2, none⟩ = some (.slice A N c) := HB1.out.cell 2
      have hxs : x.size ≤ 140737488355328 := by omega
      have hng : (Value.slice A N c).ownBlock ≠ some g := Hs1.out.1.apart
      clear h ht hx h2 hS hN hB
      go_enter Try.func17, Try.ntmps17
      go_wp2
      go_region_law (first
        | (go_simp; refine (clone_any x _ hxs).mono ?_; rintro e w3 ⟨rfl, b3⟩; have hb3 : Below w1.heap.size w1 w3 := (Below.refl w1.heap.size w1).drew.trans b3; have c3 : w3.cell? ⟨g, 2, none⟩ = some (.slice A N c) := (HB1.out.below hb3 hgw).cell 2; have hb5 : Below w1.heap.size w1 (w3.alloc (Obj.cells #[.string x] 9)) := hb3.alloc hb3.size _; have c5 : (w3.alloc (Obj.cells #[.string x] 9)).cell? ⟨g, 2, none⟩ = some (.slice A N c) := (HB1.out.below hb5 hgw).cell 2)
        | (refine step_append_hasN (by rfl) _ _ _ (by rfl) 9 tx_elem (by omega) Try.underlying27 (by rfl) (own_belowN Ho.out hb5) (by rfl) (Has.lit w3 #[.string x] 9) (fun u hu => by simp at hu; subst hu; rfl) (by simp only [maxLen]; omega) (by omega) (Nat.le_trans hB1 hb5.size) ?_; intro vA wA oA gA zA; obtain ⟨AA, cA, rfl, -, -, -⟩ := own_sliceN oA; have hBA : Box wA g 107 #[.int .i64 E.m, .int .i64 (S : Int), .slice A N c] := (HB1.out.below hb5 hgw).grown gA (fun e => hng e.symm); have c7 := hBA.cell 2; have f7 := hBA.frozen 2; simp at c7))
      all_goals
        have hBA : Box wA g 107 #[.int .i64 E.m, .int .i64 (S : Int), .slice A N c] := (HB1.out.below hb5 hgw).grown gA (fun e => hng e.symm)
        have hb9 : Box (wA.setCell ⟨g, 2, none⟩ (.slice AA (N + 1) cA)) g 107 #[.int .i64 E.m, .int .i64 (S : Int), .slice AA (N + 1) cA] := by have h8 := hBA.set_ 2 (.slice AA (N + 1) cA); simpa using h8
        have c8 : (wA.setCell ⟨g, 2, none⟩ (.slice AA (N + 1) cA)).cell? ⟨g, 1, none⟩ = some (.int .i64 (S : Int)) := hb9.cell 1
        have HF := Lib.hid (send_end HX.out HLe.out HS.out HN.out Hs1.out Hsz.out hb5 oA gA zA hb9)
        clear e2 e3 hw hw1 hN256 hxs hb3 c3 c5 c7 f7 d2 hBA hb9 oA gA zA hb5 b3
        generalize wA.setCell ⟨g, 2, none⟩ (.slice AA (N + 1) cA) = W9 at c8 HF ⊢
        go_wp2
        go_ret2
        exact ⟨_, by rw [HT.out, HS.out]; rfl, by rw [HT.out, HS.out, HN.out]; exact HF.out⟩
end
end Go.Proofs.Ytaljojjpgkmiiaa

namespace Go.Proofs.Ytaljojjpgkmiiaa
open Go.RowKit

/-- what Acked leaves -/
def AckP (B g : Nat) (v : Value) (E : SE) (k : Int) (w : World) (e : Ending) (w' : World) : Prop :=
  ∃ v', e = .returned (.int .i64 (E.acked k).2) ∧ EndAt w' B g v' (E.acked k).1 ∧ KeptE g v w w' ∧ NewV w v v'
section
variable {w : World} {B g : Nat} {v : Value} {E : SE}
theorem EndAt.store2 {w2 : World} {v' : Value} {l : List ByteArray} (h : EndAt w B g v E) (hg : w.grownBy w2 v.ownBlock) (o : OwnTx w2 B v' l) (hv : v'.ownBlock = v.ownBlock) (gd : SE.Good ⟨E.m, E.s, l⟩) :
    EndAt (w2.setCell ⟨g, 2, none⟩ v') B g v' ⟨E.m, E.s, l⟩ ∧ KeptE g v w (w2.setCell ⟨g, 2, none⟩ v') ∧ NewV w v v' := by
  have hg9 : w2.grownBy (w2.setCell ⟨g, 2, none⟩ v') (some g) := ⟨rfl, rfl, rfl, by simp [World.setCell], fun i _ hi => Below.heap_setCell w2 ⟨g, 2, none⟩ _ i fun e => hi (by rw [e])⟩
  have hb2 := h.box.grown hg (fun e => h.apart e.symm)
  refine ⟨⟨h.gB, by have h8 := hb2.set_ 2 v'; simpa using h8, own_keepN o fun i hi => hg9.block i (o.lt i hi).2 fun e => h.apart (by rw [← hv, hi, e]), gd⟩, ?_, .inl hv⟩
  exact (KeptE.grown hg (.inr rfl)).trans (.inl rfl) (KeptE.grown hg9 (.inl rfl))
set_option maxRecDepth 100000 in
set_option maxHeartbeats 3200000 in
theorem sesAcked_any (h : EndAt w B g v E) (k : Int) : Calls Try.prog 24 #[.pointer (some ⟨g, 0, none⟩), .int .i64 k] w (AckP B g v E k w) := by
  have Hbr := Lib.hid (brought_any h)
  obtain ⟨D, hD⟩ : ∃ D : Nat, E.s - E.l.length = D := ⟨_, rfl⟩
  have hDi : (E.s : Int) - (E.l.length : Int) = (D : Int) := by have := h.good.le; omega
  rw [hDi] at Hbr
  have HD := Lib.hid hD
  have HDi := Lib.hid hDi
  have hsl := h.good.sl
  obtain ⟨A, c, rfl, hnc, -⟩ := h.own.slice
  obtain ⟨N, hN⟩ : ∃ N, E.l.length = N := ⟨_, rfl⟩
  have HN := Lib.hid hN
  rw [hN] at h hnc ⊢
  have HE : Hid (∀ wx, Below w.heap.size w wx → EndAt wx B g (.slice A N c) E ∧ KeptE g (.slice A N c) w wx) := Lib.hid fun wx hx => ⟨h.below hx, KeptE.of hx⟩
  have Hgd := Lib.hid h.good
  by_cases h1 : k ≤ (D : Int)
  · have ht : E.acked k = (E, 0) := by unfold SE.acked; rw [if_neg fun h => by omega]
    have HT := Lib.hid ht
    clear h ht hD hDi hN hnc hsl
    go_enter Try.func24, Try.ntmps24
    go_wp2_with fail
    refine Hbr.out.mono ?_
    rintro e w1 ⟨rfl, b1⟩
    have H1 := Lib.hid (HE.out w1 b1)
    clear b1
    go_wp2
    go_ret
    exact ⟨_, by rw [HT.out]; rfl, by rw [HT.out]; exact ⟨H1.out.1, H1.out.2, .inl rfl⟩⟩
  · by_cases h2 : (E.s : Int) < k
    · have ht : E.acked k = (E, 0) := by unfold SE.acked; rw [if_neg fun h => by omega]
      have HT := Lib.hid ht
      clear h ht hD hDi hN hnc hsl
      go_enter Try.func24, Try.ntmps24
      go_wp2_with fail
      refine Hbr.out.mono ?_
      rintro e w1 ⟨rfl, b1⟩
      have H1 := Lib.hid (HE.out w1 b1)
      have c1 : w1.cell? ⟨g, 1, none⟩ = some (.int .i64 E.s) := H1.out.1.cells.2.1
      clear b1
      go_wp2
      go_ret
      exact ⟨_, by rw [HT.out]; rfl, by rw [HT.out]; exact ⟨H1.out.1, H1.out.2, .inl rfl⟩⟩
    · obtain ⟨q, rfl⟩ : ∃ q : Nat, k = q := ⟨k.toNat, by omega⟩
      obtain ⟨j, hj⟩ : ∃ j, q - D = j := ⟨_, rfl⟩
      have ht : E.acked (q : Int) = (⟨E.m, E.s, E.l.drop j⟩, j) := by unfold SE.acked; rw [if_pos ⟨by omega, by omega⟩, Int.toNat_natCast, hD, hj]
      have HT := Lib.hid ht
      have hw : IntKind.i64.wrap ((q : Int) - (D : Int)) = (j : Int) := by rw [show (q : Int) - (D : Int) = (j : Int) from by omega]; exact IntWalk.i64_in _ (by omega)
      have hgood : SE.Good ⟨E.m, E.s, E.l.drop j⟩ := by have h9 := h.good.acked (q : Int); rw [ht] at h9; exact h9
      have Hgood := Lib.hid hgood
      have hjN : j ≤ N := by have := h.good.le; omega
      have hj0 : 0 < j := by omega
      obtain ⟨ga, rfl, hga⟩ : ∃ ga, A = some ⟨ga, 0, none⟩ ∧ B ≤ ga := by
        have h9 := h.own
        unfold OwnTx at h9
        rw [hN] at h9
        exact own_head h9 (by omega)
      have HDl : Hid (∀ wx, Below w.heap.size w wx → Calls Try.prog 63 #[.slice (some ⟨ga, 0, none⟩) N c, .int .i64 0, .int .i64 (j : Int)] wx fun e w' => e = .returned (.slice (some ⟨ga, 0, none⟩) (N - j : Nat) c) ∧ w'.ownsRow B 9 1 (.slice (some ⟨ga, 0, none⟩) (N - j : Nat) c) (N - j) ((E.l.drop j).map Value.string) ∧ wx.grownBy w' (some ga)) := Lib.hid fun wx hx => delS_any E.l j N c ga B wx (by have h9 := (h.below hx).own; unfold OwnTx at h9; rwa [hN] at h9) hjN hj0 (by have := h.good.ll; omega) hnc
      have Hc : Hid (j ≤ N ∧ 0 < j) := Lib.hid ⟨hjN, hj0⟩
      have Hap : Hid (ga ≠ g) := Lib.hid fun e => h.apart (by rw [e]; rfl)
      clear h ht hD hDi hN hnc hsl hgood hjN hj0 hj
      go_enter Try.func24, Try.ntmps24
      go_wp2_with fail
      refine Hbr.out.mono ?_
      rintro e w1 ⟨rfl, b1⟩
      have H1 := Lib.hid (HE.out w1 b1)
      have HD1 := Lib.hid (HDl.out w1 b1)
      have c1 : w1.cell? ⟨g, 1, none⟩ = some (.int .i64 E.s) := H1.out.1.cells.2.1
      have c2 : w1.cell? ⟨g, 2, none⟩ = some (.slice (some ⟨ga, 0, none⟩) N c) := H1.out.1.cells.2.2.1
      clear b1 HDl
      go_wp2_with fail
      refine HD1.out.mono ?_
      rintro e w2 ⟨rfl, o2, g2⟩
      have hb2 := H1.out.1.box.grown g2 (fun e => by injection e with e; exact Hap.out e.symm)
      have d2 := hb2.cell 2
      have f2 := hb2.frozen 2
      simp at d2
      obtain ⟨M, hM⟩ : ∃ M, N - j = M := ⟨_, rfl⟩
      rw [hM] at o2 ⊢
      have Ho2 : Hid (OwnTx w2 B (.slice (some ⟨ga, 0, none⟩) M c) (E.l.drop j)) := Lib.hid (by unfold OwnTx; rw [List.length_drop, HN.out, hM]; exact o2)
      have HF := Lib.hid (H1.out.1.store2 g2 Ho2.out rfl Hgood.out)
      clear c1 c2 g2 o2 hb2 hM
      go_wp2
      go_ret
      exact ⟨_, by rw [HT.out]; rfl, by rw [HT.out]; exact ⟨HF.out.1, H1.out.2.trans (.inl rfl) HF.out.2.1, .inl rfl⟩⟩
end
end Go.Proofs.Ytaljojjpgkmiiaa

namespace Go.Proofs.Ytaljojjpgkmiiaa
open Go.RowKit

theorem si_lit_at (w : World) (g : Nat) (hg : w.heap.size = g) (c : SIt) : Has (w.alloc (.cells #[.int .i64 c.n, .string c.b] 105)) (g + 1) (some ⟨g, 0, none⟩) (1 * 2) (siCells [c]) := by
  subst hg
  exact si_lit w c
theorem take_itemsS {l : List ByteArray} {d k : Nat} {x : ByteArray} (hx : l[k]? = some x) : itemsFrom d (l.take (k + 1)) = itemsFrom d (l.take k) ++ [⟨d + k, x⟩] := by
  have hk := (List.getElem?_eq_some_iff.1 hx).1
  have hx2 : l[k] = x := (List.getElem?_eq_some_iff.1 hx).2
  rw [List.take_succ_eq_append_getElem hk, hx2, itemsFrom_snoc, List.length_take, Nat.min_eq_left (by omega)]
theorem grown_belS {w w' : World} (h : Below w.heap.size w w') (i : Option Nat) : w.grownBy w' i := ⟨h.os, h.tape, h.output, h.size, fun k hk _ => h.block k hk⟩
section
variable {w : World} {B g : Nat} {v : Value} {E : SE}
set_option maxRecDepth 100000 in
set_option maxHeartbeats 3200000 in
theorem sesPost_any (h : EndAt w B g v E) (n : Int) : Calls Try.prog 21 #[.pointer (some ⟨g, 0, none⟩), .int .i64 n] w (GivesSi w.heap.size (E.post n) w) := by
  obtain ⟨D, hD⟩ : ∃ D : Nat, E.s - E.l.length = D := ⟨_, rfl⟩
  have hDi : (E.s : Int) - (E.l.length : Int) = (D : Int) := by have := h.good.le; omega
  have HP : Hid (E.post n = itemsFrom (D + 1) (E.l.take n.toNat)) := Lib.hid (by unfold SE.post; rw [hD])
  have hD9 : D ≤ 1099511627776 := by have := h.good.sl; omega
  have Htx := Lib.hid h.good.tx
  obtain ⟨A, c, rfl, hnc, -, hh⟩ := h.own.slice
  have HBr : Hid (∀ wx, Below w.heap.size w wx → Calls Try.prog 62 #[.pointer (some ⟨g, 0, none⟩)] wx fun e w' => e = .returned (.int .i64 (D : Int)) ∧ Below wx.heap.size wx w') := Lib.hid fun wx hx => by have h9 := brought_any (h.below hx); rwa [hDi] at h9
  have HX : Hid (∀ wx, Below w.heap.size w wx → wx.cell? ⟨g, 2, none⟩ = some (.slice A E.l.length c) ∧ HasTexts wx w.heap.size A E.l.length E.l) := Lib.hid fun wx hx => ⟨(h.below hx).cells.2.2.1, hh.below hx⟩
  have hN2 := h.good.ll
  have c2 := h.cells.2.2.1
  obtain ⟨N, hN⟩ : ∃ N, E.l.length = N := ⟨_, rfl⟩
  have HN := Lib.hid hN
  rw [hN] at HX hN2 c2
  obtain ⟨R, hR⟩ : ∃ R, E.post n = R := ⟨_, rfl⟩
  rw [hR] at HP ⊢
  obtain ⟨M, hM⟩ : ∃ M : Int, (if (N : Int) < n then (N : Int) else n) = M := ⟨_, rfl⟩
  have HM : Hid (M ≤ N ∧ E.l.take n.toNat = E.l.take M.toNat) := Lib.hid (by
    rw [← hM]
    split
    · refine ⟨Int.le_refl _, ?_⟩
      rw [List.take_of_length_le (by omega), List.take_of_length_le (by omega)]
    · exact ⟨by omega, rfl⟩)
  have Hsz : Hid (0 ≤ w.heap.size) := Lib.hid (Nat.zero_le _)
  clear h hh hN hDi hD hnc hR
  go_enter Try.func21, Try.ntmps21
  go_wp2
  go_loopw [5, 14] (fun o i wr => ∃ k : Nat, k ≤ M.toNat ∧ i = .int .i64 (k : Int) ∧ Hid (OwnSis wr w.heap.size o (itemsFrom (D + 1) (E.l.take k)) ∧ Below w.heap.size w wr)) (fun _ i _ => M.toNat - (intOf i).toNat)
  case atStart => exact ⟨0, Nat.zero_le _, rfl, Lib.hid ⟨OwnSis.nil _ _, Below.refl _ _⟩⟩
  case round =>
    obtain ⟨k, hk, rfl, HR⟩ := hrel
    by_cases hlt : (k : Int) < M
    · have hkN : k < N := by have := HM.out.1; omega
      obtain ⟨x, hx⟩ : ∃ x, E.l[k]? = some x := ⟨_, List.getElem?_eq_getElem (by have := HN.out; omega)⟩
      have Hx := Lib.hid hx
      have hxs : x.size ≤ 140737488355328 := by have := Htx.out x (List.mem_of_getElem? hx); omega
      obtain ⟨P, hP⟩ : ∃ P, itemsFrom (D + 1) (E.l.take k) = P := ⟨_, rfl⟩
      have hPl : P.length = k := by rw [← hP, itemsFrom_len, List.length_take]; have := HN.out; omega
      have HPk : Hid (itemsFrom (D + 1) (E.l.take (k + 1)) = P ++ [⟨D + 1 + k, x⟩]) := Lib.hid (by rw [take_itemsS hx, hP])
      rw [hP] at HR
      obtain ⟨Ao, co, rfl, hoc, hcm, -⟩ := HR.out.1.slice
      have Ho : Hid (wr.ownsRow w.heap.size 105 2 (.slice Ao k co) k (siCells P)) := Lib.hid (by have h9 := HR.out.1; unfold OwnSis at h9; rw [hPl] at h9; exact h9)
      have HPl := Lib.hid hPl
      rw [hPl] at HR hoc ⊢
      obtain ⟨a, ha⟩ : ∃ a, A = some a := by obtain ⟨a, e, -⟩ := (HX.out wr HR.out.2).2.text hkN; exact ⟨a, e⟩
      subst ha
      have HC : Hid (∀ wx, wr.grownBy wx (Value.slice Ao k co).ownBlock → (wx.cell? ⟨g, 2, none⟩ = some (.slice (some a) N c) ∧ wx.cell? (a.add k) = some (.string x)) ∧ wr.grownBy wx (Value.slice Ao k co).ownBlock) := Lib.hid fun wx hg => by
        have hb : Below w.heap.size w wx := HR.out.2.grown hg HR.out.2.size fun q hq => (Ho.out.lt q hq).1
        obtain ⟨h1, h2⟩ := HX.out wx hb
        refine ⟨⟨h1, ?_⟩, hg⟩
        obtain ⟨a', e, -, h3⟩ := h2.text hkN
        injection e with e
        subst e
        rw [h3]
        simp [hx]
      have Hb0 : Hid (∀ wx, wr.grownBy wx (Value.slice Ao k co).ownBlock → Below w.heap.size w wx) := Lib.hid fun wx hg => HR.out.2.grown hg HR.out.2.size fun q hq => (Ho.out.lt q hq).1
      have hw1 : IntKind.i64.wrap ((D : Int) + (k : Int)) = (D : Int) + (k : Int) := IntWalk.i64_in _ (by omega)
      have hw2 : IntKind.i64.wrap ((D : Int) + (k : Int) + 1) = ((D + 1 + k : Nat) : Int) := by rw [show (D : Int) + (k : Int) + 1 = ((D + 1 + k : Nat) : Int) from by omega]; exact IntWalk.i64_in _ (by omega)
      have hwc : w.heap.size ≤ wr.heap.size := HR.out.2.size
      clear hx hP hPl
      obtain ⟨⟨p0, p1⟩, -⟩ := HC.out wr (World.grownBy.refl _ _)
      go_wp2
      go_region_held3 (fun wx => (wx.cell? ⟨g, 2, none⟩ = some (.slice (some a) N c) ∧ wx.cell? (a.add k) = some (.string x)) ∧ wr.grownBy wx (Value.slice Ao k co).ownBlock)
        (first | exact HC.out _ (grown_belS (Below.refl _ _).drew _) | exact HC.out _ (World.grownBy.trans (And.right (by assumption)) (grown_belS b4 _)) | exact HC.out _ (World.grownBy.trans (And.right (by assumption)) (grown_belS b3 _)) | exact HC.out _ (World.grownBy.trans (And.right (by assumption)) (World.grownBy_alloc _ _ _)) | exact HC.out _ (World.grownBy.trans (And.right (by assumption)) gA))
        (first
          | (go_at_call 62; refine (HBr.out _ (Hb0.out _ (And.right (by assumption)))).mono ?_; rintro e w3 ⟨rfl, b3⟩)
          | (go_at_call 61; refine (clone_any x _ hxs).mono ?_; rintro e w4 ⟨rfl, b4⟩; have C4 : wr.grownBy w4 (Value.slice Ao k co).ownBlock := ((grown_belS ((Below.refl wr.heap.size wr).drew) _).trans (grown_belS b3 _)).trans (grown_belS b4 _); have B4 : Below wr.heap.size wr w4 := (((Below.refl wr.heap.size wr).drew).trans b3).trans (b4.mono b3.size))
          | (refine step_append_hasN (by rfl) _ _ _ (by rfl) 105 si_elem (by omega) Try.underlying38 (by rfl) (own_belowN Ho.out (B4.alloc B4.size (Obj.cells #[.int .i64 ((D + 1 + k : Nat) : Int), .string x] 105))) (by rfl) (si_lit_at w4 w4.heap.size rfl ⟨D + 1 + k, x⟩) (siCells_one _) (by simp only [maxLen]; omega) (by omega) (Nat.le_trans hwc (B4.alloc B4.size (Obj.cells #[.int .i64 ((D + 1 + k : Nat) : Int), .string x] 105)).size) ?_; intro vA wA oA gA zA))
      all_goals
        have HE : Hid (OwnSis wA w.heap.size vA (itemsFrom (D + 1) (E.l.take (k + 1))) ∧ Below w.heap.size w wA) := Lib.hid ⟨by unfold OwnSis; rw [HPk.out, List.length_append, HPl.out, siCells_app]; exact oA, Hb0.out wA (And.right (by assumption))⟩
        clear oA gA zA b3 b4 C4 B4 p0 p1 hw1 hw2
        go_wp2
        go_roundw
        case rel => exact ⟨k + 1, by omega, by go_num, HE⟩
        case measure => simp [intOf]; omega
    · have hke : (k : Int) = M ∨ M < 0 ∧ k = 0 := by omega
      go_wp2
      go_ret
      refine ⟨_, rfl, ?_, HR.out.2⟩
      rw [HP.out, HM.out.2, show M.toNat = k from by omega]
      exact HR.out.1
end
end Go.Proofs.Ytaljojjpgkmiiaa
