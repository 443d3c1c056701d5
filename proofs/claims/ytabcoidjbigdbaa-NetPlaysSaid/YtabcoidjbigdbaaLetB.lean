/- Letters packed: the closures of letter.Pack, which take forms into a row of rows of bytes. Condition: texts of at most a million bytes. -/
import Derived.Test.YtabcoidjbigdbaaLetA
import Derived.Test.YtabcoidjbigdbaaPvA
import Derived.Test.YtabcoidjbigdbaaPakD
import Derived.Deep.RegionHeld3
import Derived.Deep.RegionLaw
namespace Go.Proofs.Ytabcoidjbigdbaa
open Go.RowKit
open Go.Lib (strCells)

/-- blocks of cells whose type is not one of some are as they were -/
def KeepT (bad : TypeId → Prop) (w w' : World) : Prop := w.heap.size ≤ w'.heap.size ∧ ∀ (k : Nat) (cs : Array Value) (t : TypeId), w.heap[k]? = some (.cells cs t (0, 0)) → ¬ bad t → w'.heap[k]? = w.heap[k]?
theorem KeepT.refl (bad : TypeId → Prop) (w : World) : KeepT bad w w := ⟨Nat.le_refl _, fun _ _ _ _ _ => rfl⟩
theorem KeepT.trans {bad : TypeId → Prop} {a b c : World} (h : KeepT bad a b) (k : KeepT bad b c) : KeepT bad a c :=
  ⟨Nat.le_trans h.1 k.1, fun i cs t hi ht => by
    have h1 := h.2 i cs t hi ht
    exact (k.2 i cs t (h1.trans hi) ht).trans h1⟩
theorem KeepT.below {bad : TypeId → Prop} {a b : World} (h : Below a.heap.size a b) : KeepT bad a b := ⟨h.size, fun i _ _ hi _ => h.block i (Array.getElem?_eq_some_iff.1 hi).1⟩
theorem KeepT.box {bad : TypeId → Prop} {a b : World} {g : Nat} {t : TypeId} {cs : Array Value} (h : KeepT bad a b) (hb : Box a g t cs) (ht : ¬ bad t) : Box b g t cs := (h.2 g cs t hb ht).trans hb
theorem KeepT.set {bad : TypeId → Prop} {a b : World} {g i : Nat} {t : TypeId} {cs : Array Value} {u : Value} (h : KeepT bad a b) (hb : Box b g t cs) (ht : bad t) (ha : g < a.heap.size) : KeepT bad a (b.setCell ⟨g, i, none⟩ u) :=
  ⟨by have := h.1; simpa using this, fun k cs' t' hk ht' => by
    have h1 := h.2 k cs' t' hk ht'
    by_cases hkg : k = g
    · subst hkg
      unfold Box at hb
      rw [h1, hk] at hb
      injection hb with hb
      injection hb with _ hb _
      exact absurd (hb ▸ ht) ht'
    · exact (Below.heap_setCell b ⟨g, i, none⟩ u k hkg).trans h1⟩
theorem KeepT.grown {bad : TypeId → Prop} {a b c : World} {B m size : Nat} {e : TypeId} {v : Value} {xs : List Value} (h : KeepT bad a b) (ho : b.ownsRow B e size v m xs) (hg : b.grownBy c v.ownBlock) (ht : bad e) : KeepT bad a c :=
  ⟨Nat.le_trans h.1 hg.size, fun k cs t hk ht' => by
    have h1 := h.2 k cs t hk ht'
    refine (hg.block k (Nat.lt_of_lt_of_le (Array.getElem?_eq_some_iff.1 hk).1 h.1) fun e0 => ?_).trans h1
    obtain ⟨cur, hc⟩ := own_typeP ho e0.symm
    rw [h1, hk] at hc
    injection hc with hc
    injection hc with _ hc _
    exact ht' (hc ▸ ht)⟩
theorem OwnPv.farG {w : World} {g i : Nat} {v : Value} {rs : Pvs} {u : Value} (h : OwnPv w (g + 1) v rs) : OwnPv (w.setCell ⟨g, i, none⟩ u) (g + 1) v rs := by
  have k : ∀ (e : TypeId) (m : Nat) (x : Value) (xs : List Value), w.ownsRow (g + 1) e 1 x m xs → (w.setCell ⟨g, i, none⟩ u).ownsRow (g + 1) e 1 x m xs := fun e m x xs ho =>
    own_keepP ho fun b hb => Below.heap_setCell w ⟨g, i, none⟩ u b (fun e0 => by have := (ho.lt b hb).1; have e1 : b = g := e0; omega)
  exact ⟨k _ _ _ _ h.own, fun r hr => k _ _ _ _ (h.rows r hr)⟩
def badP (t : TypeId) : Prop := t = 67 ∨ t = 69
/-- the forms so far, behind the variable of a closure -/
def StP (w0 : World) (g : Nat) (L : List (List UInt8)) (wx : World) : Prop :=
  ∃ v rs, Box wx g 67 #[v] ∧ OwnPv wx (g + 1) v rs ∧ rs.map (·.2) = L ∧ Below g w0 wx ∧ g + 1 ≤ wx.heap.size ∧ L.length ≤ 10000
set_option maxRecDepth 100000 in
set_option maxHeartbeats 3200000 in
theorem packNum_any (w0 : World) (g : Nat) (L : List (List UInt8)) (n : Int) (w : World) (h : StP w0 g L w) (hn : 0 ≤ n ∧ n ≤ 1099511627776) (hL : L.length < 10000) :
    Calls Try.prog 36 #[.int .i64 n, .pointer (some ⟨g, 0, none⟩)] w fun e w' => e = .returned (.tuple #[]) ∧ StP w0 g (L ++ [numForm n.toNat]) w' ∧ KeepT badP w w' := by
  obtain ⟨v, rs, hbx, hown, hrs, hb, hsz, -⟩ := h
  obtain ⟨Ap, cp, rfl, -, -, -⟩ := own_slice hown.own
  have HBX := Lib.hid hbx
  have HO := Lib.hid hown
  have Hrs := Lib.hid hrs
  have HB := Lib.hid hb
  have hN : rs.length < 10000 := by rw [← hrs, List.length_map] at hL; exact hL
  have Hgo := Lib.hid hown.own
  obtain ⟨N, hNe⟩ : ∃ N, rs.length = N := ⟨_, rfl⟩
  have HN := Lib.hid hNe
  rw [hNe] at Hgo hN HBX HO
  have HL := Lib.hid hL
  have c0 : w.cell? ⟨g, 0, none⟩ = some (.slice Ap N cp) := HBX.out.cell 0
  have hgw := HBX.out.lt
  clear hbx hown hrs hb hNe hL
  go_enter Try.func36, Try.ntmps36
  go_wp2
  go_region_law (first
    | (go_simp; refine (num_any n _ (by omega)).mono ?_; rintro e w3 ⟨v3, rfl, o3, b3⟩; rw [if_neg (by omega)] at o3; obtain ⟨A3, m3, rfl, -, -, -⟩ := own_slice o3; have hb3 : Below w.heap.size w w3 := (Below.refl w.heap.size w).drew.trans b3; have c3 : w3.cell? ⟨g, 0, none⟩ = some (.slice Ap N cp) := (HBX.out.below hb3 hgw).cell 0; have hb5 : Below w.heap.size w (w3.alloc (Obj.cells #[.slice A3 (numForm n.toNat).length m3] 69)) := hb3.alloc hb3.size _; have c5 : (w3.alloc (Obj.cells #[.slice A3 (numForm n.toNat).length m3] 69)).cell? ⟨g, 0, none⟩ = some (.slice Ap N cp) := (HBX.out.below hb5 hgw).cell 0)
    | (refine step_append_hasN (by rfl) _ _ _ (by rfl) 69 pv_elem (by omega) Try.underlying67 (by rfl) (own_belowN Hgo.out hb5) (by rfl) (Has.lit w3 #[.slice A3 (numForm n.toNat).length m3] 69) (fun u hu => by simp at hu; subst hu; rfl) (by simp only [maxLen]; omega) (by omega) (Nat.le_trans hsz hb5.size) ?_; intro vA wA oA gA zA; obtain ⟨AA, cA, rfl, -, -, -⟩ := own_sliceN oA; have hBA : Box wA g 67 #[.slice Ap N cp] := (HBX.out.below hb5 hgw).grown gA (fun e => by have := ((own_belowN Hgo.out hb5).lt _ e.symm).1; omega); have c7 := hBA.cell 0; have f7 := hBA.frozen 0; simp at c7))
  all_goals
    go_wp2
    go_end0
    have hBA : Box wA g 67 #[.slice Ap N cp] := (HBX.out.below hb5 hgw).grown gA (fun e => by have := ((own_belowN Hgo.out hb5).lt _ e.symm).1; omega)
    have hnoA : (Value.slice AA (N + 1) cA).ownBlock ≠ some g := fun e => by have := (oA.lt _ e).1; omega
    have hsn : OwnPv wA (g + 1) (.slice AA (N + 1) cA) (rs ++ [(.slice A3 (numForm n.toNat).length m3, (numForm n.toNat))]) := by
      have h5 : OwnPv (w3.alloc (Obj.cells #[.slice A3 (numForm n.toNat).length m3] 69)) (g + 1) (.slice Ap N cp) rs := HO.out.below hb5
      refine h5.snoc (qs := [(.slice A3 (numForm n.toNat).length m3, (numForm n.toNat))]) (fun q hq => ?_) (by rw [HN.out]; exact oA) gA
      simp only [List.mem_cons, List.not_mem_nil, or_false] at hq
      subst hq
      exact own_baseN (own_belowN o3 (below_box _)) (Nat.le_trans hsz (Nat.le_refl _))
    refine ⟨rfl, ⟨.slice AA (N + 1) cA, _, by have h8 := hBA.set_ 0 (.slice AA (N + 1) cA); simpa using h8, hsn.farG (i := 0) (u := .slice AA (N + 1) cA), by rw [List.map_append, Hrs.out]; rfl, (HB.out.trans ((hb5.mono (Nat.le_of_lt hgw)).trans ((Below.refl g _).grown gA (by have := hb5.size; omega) fun i e => by have := ((own_belowN Hgo.out hb5).lt i e).1; omega))).setCell (Nat.le_refl _) _, by have h9 : (wA.setCell ⟨g, 0, none⟩ (.slice AA (N + 1) cA)).heap.size = wA.heap.size := (by simp); have := gA.size; have := hb5.size; omega, by rw [List.length_append]; have := HL.out; simp; omega⟩, ?_⟩
    exact ((KeepT.below hb5).grown (own_belowN Hgo.out hb5) gA (.inr rfl)).set hBA (.inl rfl) hgw
set_option maxRecDepth 100000 in
set_option maxHeartbeats 3200000 in
theorem packText_any (w0 : World) (g : Nat) (L : List (List UInt8)) (s : ByteArray) (w : World) (h : StP w0 g L w) (hs : s.size ≤ 1000000) (hL : L.length < 10000) :
    Calls Try.prog 38 #[.string s, .pointer (some ⟨g, 0, none⟩)] w fun e w' => e = .returned (.tuple #[]) ∧ StP w0 g (L ++ [textForm s.data.toList]) w' ∧ KeepT badP w w' := by
  obtain ⟨v, rs, hbx, hown, hrs, hb, hsz, -⟩ := h
  obtain ⟨Ap, cp, rfl, -, -, -⟩ := own_slice hown.own
  have HBX := Lib.hid hbx
  have HO := Lib.hid hown
  have Hrs := Lib.hid hrs
  have HB := Lib.hid hb
  have hN : rs.length < 10000 := by rw [← hrs, List.length_map] at hL; exact hL
  have Hgo := Lib.hid hown.own
  obtain ⟨N, hNe⟩ : ∃ N, rs.length = N := ⟨_, rfl⟩
  have HN := Lib.hid hNe
  rw [hNe] at Hgo hN HBX HO
  have HL := Lib.hid hL
  have c0 : w.cell? ⟨g, 0, none⟩ = some (.slice Ap N cp) := HBX.out.cell 0
  have hgw := HBX.out.lt
  clear hbx hown hrs hb hNe hL
  go_enter Try.func38, Try.ntmps38
  go_wp2
  go_region_law (first
    | (go_simp; refine (text_any s _ hs).mono ?_; rintro e w3 ⟨v3, rfl, o3, b3⟩; obtain ⟨A3, m3, rfl, -, -, -⟩ := own_slice o3; have hb3 : Below w.heap.size w w3 := (Below.refl w.heap.size w).drew.trans b3; have c3 : w3.cell? ⟨g, 0, none⟩ = some (.slice Ap N cp) := (HBX.out.below hb3 hgw).cell 0; have hb5 : Below w.heap.size w (w3.alloc (Obj.cells #[.slice A3 (textForm s.data.toList).length m3] 69)) := hb3.alloc hb3.size _; have c5 : (w3.alloc (Obj.cells #[.slice A3 (textForm s.data.toList).length m3] 69)).cell? ⟨g, 0, none⟩ = some (.slice Ap N cp) := (HBX.out.below hb5 hgw).cell 0)
    | (refine step_append_hasN (by rfl) _ _ _ (by rfl) 69 pv_elem (by omega) Try.underlying67 (by rfl) (own_belowN Hgo.out hb5) (by rfl) (Has.lit w3 #[.slice A3 (textForm s.data.toList).length m3] 69) (fun u hu => by simp at hu; subst hu; rfl) (by simp only [maxLen]; omega) (by omega) (Nat.le_trans hsz hb5.size) ?_; intro vA wA oA gA zA; obtain ⟨AA, cA, rfl, -, -, -⟩ := own_sliceN oA; have hBA : Box wA g 67 #[.slice Ap N cp] := (HBX.out.below hb5 hgw).grown gA (fun e => by have := ((own_belowN Hgo.out hb5).lt _ e.symm).1; omega); have c7 := hBA.cell 0; have f7 := hBA.frozen 0; simp at c7))
  all_goals
    go_wp2
    go_end0
    have hBA : Box wA g 67 #[.slice Ap N cp] := (HBX.out.below hb5 hgw).grown gA (fun e => by have := ((own_belowN Hgo.out hb5).lt _ e.symm).1; omega)
    have hnoA : (Value.slice AA (N + 1) cA).ownBlock ≠ some g := fun e => by have := (oA.lt _ e).1; omega
    have hsn : OwnPv wA (g + 1) (.slice AA (N + 1) cA) (rs ++ [(.slice A3 (textForm s.data.toList).length m3, (textForm s.data.toList))]) := by
      have h5 : OwnPv (w3.alloc (Obj.cells #[.slice A3 (textForm s.data.toList).length m3] 69)) (g + 1) (.slice Ap N cp) rs := HO.out.below hb5
      refine h5.snoc (qs := [(.slice A3 (textForm s.data.toList).length m3, (textForm s.data.toList))]) (fun q hq => ?_) (by rw [HN.out]; exact oA) gA
      simp only [List.mem_cons, List.not_mem_nil, or_false] at hq
      subst hq
      exact own_baseN (own_belowN o3 (below_box _)) (Nat.le_trans hsz (Nat.le_refl _))
    refine ⟨rfl, ⟨.slice AA (N + 1) cA, _, by have h8 := hBA.set_ 0 (.slice AA (N + 1) cA); simpa using h8, hsn.farG (i := 0) (u := .slice AA (N + 1) cA), by rw [List.map_append, Hrs.out]; rfl, (HB.out.trans ((hb5.mono (Nat.le_of_lt hgw)).trans ((Below.refl g _).grown gA (by have := hb5.size; omega) fun i e => by have := ((own_belowN Hgo.out hb5).lt i e).1; omega))).setCell (Nat.le_refl _) _, by have h9 : (wA.setCell ⟨g, 0, none⟩ (.slice AA (N + 1) cA)).heap.size = wA.heap.size := (by simp); have := gA.size; have := hb5.size; omega, by rw [List.length_append]; have := HL.out; simp; omega⟩, ?_⟩
    exact ((KeepT.below hb5).grown (own_belowN Hgo.out hb5) gA (.inr rfl)).set hBA (.inl rfl) hgw
end Go.Proofs.Ytabcoidjbigdbaa
