/- letter.tell with the closures of Pack: it tells the numbers and texts of a letter in their order. Condition: the letter is inside its limits. -/
import Derived.Test.YtaljojjpgkmiiaaMLet
import Derived.Test.YtaljojjpgkmiiaaMWalk
import Derived.Deep.RegionHeld3
import Derived.Deep.RegionLaw
namespace Go.Proofs.Ytaljojjpgkmiiaa
open Go.RowKit
open Go.Lib (strCells)

/-- blocks of cells whose type is not one of some are as they were -/
def KeepT (bad : TypeId → Prop) (w w' : World) : Prop := w.heap.size ≤ w'.heap.size ∧ ∀ (k : Nat) (cs : Array Value) (t : TypeId), w.heap[k]? = some (.cells cs t (0, 0)) → ¬ bad t → w'.heap[k]? = w.heap[k]?
theorem KeepT.refl (bad : TypeId → Prop) (w : World) : KeepT bad w w := ⟨Nat.le_refl _, fun _ _ _ _ _ => rfl⟩
theorem KeepT.trans {bad : TypeId → Prop} {a b c : World} (h : KeepT bad a b) (k : KeepT bad b c) : KeepT bad a c :=
  ⟨Nat.le_trans h.1 k.1, fun i cs t hi ht => by
    have h1 := h.2 i cs t hi ht
    exact (k.2 i cs t (h1.trans hi) ht).trans h1⟩
theorem KeepT.below {bad : TypeId → Prop} {a b : World} (h : Below a.heap.size a b) : KeepT bad a b := ⟨h.size, fun i _ _ hi _ => h.block i (Array.getElem?_eq_some_iff.1 hi).1⟩
theorem KeepT.box {bad : TypeId → Prop} {a b : World} {g : Nat} {t : TypeId} {cs : Array Value} (h : KeepT bad a b) (hb : Box a g t cs) (ht : ¬ bad t) : Box b g t cs := (h.2 g cs t hb ht).trans hb
theorem KeepT.set {bad : TypeId → Prop} {a b : World} {g i : Nat} {t : TypeId} {cs : Array Value} {u : Value} (h : KeepT bad a b) (hb : Box b g t cs) (ht : bad t) (ha : g < a.heap.size) : KeepT bad a (b.setCell ⟨g, i, none⟩ u) :=
  ⟨by have := h.1; simpa using this, fun k cs' t' hk ht' => by
    have h1 := h.2 k cs' t' hk ht'
    by_cases hkg : k = g
    · subst hkg
      unfold Box at hb
      rw [h1, hk] at hb
      injection hb with hb
      injection hb with _ hb _
      exact absurd (hb ▸ ht) ht'
    · exact (Below.heap_setCell b ⟨g, i, none⟩ u k hkg).trans h1⟩
theorem KeepT.grown {bad : TypeId → Prop} {a b c : World} {B m size : Nat} {e : TypeId} {v : Value} {xs : List Value} (h : KeepT bad a b) (ho : b.ownsRow B e size v m xs) (hg : b.grownBy c v.ownBlock) (ht : bad e) : KeepT bad a c :=
  ⟨Nat.le_trans h.1 hg.size, fun k cs t hk ht' => by
    have h1 := h.2 k cs t hk ht'
    refine (hg.block k (Nat.lt_of_lt_of_le (Array.getElem?_eq_some_iff.1 hk).1 h.1) fun e0 => ?_).trans h1
    obtain ⟨cur, hc⟩ := own_typeP ho e0.symm
    rw [h1, hk] at hc
    injection hc with hc
    injection hc with _ hc _
    exact ht' (hc ▸ ht)⟩
theorem OwnPv.farG {w : World} {g i : Nat} {v : Value} {rs : Pvs} {u : Value} (h : OwnPv w (g + 1) v rs) : OwnPv (w.setCell ⟨g, i, none⟩ u) (g + 1) v rs := by
  have k : ∀ (e : TypeId) (m : Nat) (x : Value) (xs : List Value), w.ownsRow (g + 1) e 1 x m xs → (w.setCell ⟨g, i, none⟩ u).ownsRow (g + 1) e 1 x m xs := fun e m x xs ho =>
    own_keepP ho fun b hb => Below.heap_setCell w ⟨g, i, none⟩ u b (fun e0 => by have := (ho.lt b hb).1; have e1 : b = g := e0; omega)
  exact ⟨k _ _ _ _ h.own, fun r hr => k _ _ _ _ (h.rows r hr)⟩
def badP (t : TypeId) : Prop := t = 132 ∨ t = 76
/-- the forms so far, behind the variable of a closure -/
def StP (w0 : World) (g : Nat) (L : List (List UInt8)) (wx : World) : Prop :=
  ∃ v rs, Box wx g 132 #[v] ∧ OwnPv wx (g + 1) v rs ∧ rs.map (·.2) = L ∧ Below g w0 wx ∧ g + 1 ≤ wx.heap.size ∧ L.length ≤ 10000
set_option maxRecDepth 100000 in
set_option maxHeartbeats 3200000 in
theorem packNum_any (w0 : World) (g : Nat) (L : List (List UInt8)) (n : Int) (w : World) (h : StP w0 g L w) (hn : 0 ≤ n ∧ n ≤ 1099511627776) (hL : L.length < 10000) :
    Calls Try.prog 81 #[.int .i64 n, .pointer (some ⟨g, 0, none⟩)] w fun e w' => e = .returned (.tuple #[]) ∧ StP w0 g (L ++ [numForm n.toNat]) w' ∧ KeepT badP w w' := by
  obtain ⟨v, rs, hbx, hown, hrs, hb, hsz, -⟩ := h
  obtain ⟨Ap, cp, rfl, -, -, -⟩ := own_slice hown.own
  have HBX := Lib.hid hbx
  have HO := Lib.hid hown
  have Hrs := Lib.hid hrs
  have HB := Lib.hid hb
  have hN : rs.length < 10000 := by rw [← hrs, List.length_map] at hL; exact hL
  have Hgo := Lib.hid hown.own
  obtain ⟨N, hNe⟩ : ∃ N, rs.length = N := ⟨_, rfl⟩
  have HN := Lib.hid hNe
  rw [hNe] at Hgo hN HBX HO
  have HL := Lib.hid hL
  have c0 : w.cell? ⟨g, 0, none⟩ = some (.slice Ap N cp) := HBX.out.cell 0
  have hgw := HBX.out.lt
  clear hbx hown hrs hb hNe hL
  go_enter Try.func81, Try.ntmps81
  go_wp2
  go_region_law (first
    | (go_simp; refine (num_any n _ (by omega)).mono ?_; rintro e w3 ⟨v3, rfl, o3, b3⟩; rw [if_neg (by omega)] at o3; obtain ⟨A3, m3, rfl, -, -, -⟩ := own_slice o3; have hb3 : Below w.heap.size w w3 := (Below.refl w.heap.size w).drew.trans b3; have c3 : w3.cell? ⟨g, 0, none⟩ = some (.slice Ap N cp) := (HBX.out.below hb3 hgw).cell 0; have hb5 : Below w.heap.size w (w3.alloc (Obj.cells #[.slice A3 (numForm n.toNat).length m3] 76)) := hb3.alloc hb3.size _; have c5 : (w3.alloc (Obj.cells #[.slice A3 (numForm n.toNat).length m3] 76)).cell? ⟨g, 0, none⟩ = some (.slice Ap N cp) := (HBX.out.below hb5 hgw).cell 0)
    | (refine step_append_hasN (by rfl) _ _ _ (by rfl) 76 pv_elem (by omega) Try.underlying132 (by rfl) (own_belowN Hgo.out hb5) (by rfl) (Has.lit w3 #[.slice A3 (numForm n.toNat).length m3] 76) (fun u hu => by simp at hu; subst hu; rfl) (by simp only [maxLen]; omega) (by omega) (Nat.le_trans hsz hb5.size) ?_; intro vA wA oA gA zA; obtain ⟨AA, cA, rfl, -, -, -⟩ := own_sliceN oA; have hBA : Box wA g 132 #[.slice Ap N cp] := (HBX.out.below hb5 hgw).grown gA (fun e => by have := ((own_belowN Hgo.out hb5).lt _ e.symm).1; omega); have c7 := hBA.cell 0; have f7 := hBA.frozen 0; simp at c7))
  all_goals
    go_wp2
    go_end0
    have hBA : Box wA g 132 #[.slice Ap N cp] := (HBX.out.below hb5 hgw).grown gA (fun e => by have := ((own_belowN Hgo.out hb5).lt _ e.symm).1; omega)
    have hnoA : (Value.slice AA (N + 1) cA).ownBlock ≠ some g := fun e => by have := (oA.lt _ e).1; omega
    have hsn : OwnPv wA (g + 1) (.slice AA (N + 1) cA) (rs ++ [(.slice A3 (numForm n.toNat).length m3, (numForm n.toNat))]) := by
      have h5 : OwnPv (w3.alloc (Obj.cells #[.slice A3 (numForm n.toNat).length m3] 76)) (g + 1) (.slice Ap N cp) rs := HO.out.below hb5
      refine h5.snoc (qs := [(.slice A3 (numForm n.toNat).length m3, (numForm n.toNat))]) (fun q hq => ?_) (by rw [HN.out]; exact oA) gA
      simp only [List.mem_cons, List.not_mem_nil, or_false] at hq
      subst hq
      exact own_baseN (own_belowN o3 (below_box _)) (Nat.le_trans hsz (Nat.le_refl _))
    refine ⟨rfl, ⟨.slice AA (N + 1) cA, _, by have h8 := hBA.set_ 0 (.slice AA (N + 1) cA); simpa using h8, hsn.farG (i := 0) (u := .slice AA (N + 1) cA), by rw [List.map_append, Hrs.out]; rfl, (HB.out.trans ((hb5.mono (Nat.le_of_lt hgw)).trans ((Below.refl g _).grown gA (by have := hb5.size; omega) fun i e => by have := ((own_belowN Hgo.out hb5).lt i e).1; omega))).setCell (Nat.le_refl _) _, by have h9 : (wA.setCell ⟨g, 0, none⟩ (.slice AA (N + 1) cA)).heap.size = wA.heap.size := (by simp); have := gA.size; have := hb5.size; omega, by rw [List.length_append]; have := HL.out; simp; omega⟩, ?_⟩
    exact ((KeepT.below hb5).grown (own_belowN Hgo.out hb5) gA (.inr rfl)).set hBA (.inl rfl) hgw
set_option maxRecDepth 100000 in
set_option maxHeartbeats 3200000 in
theorem packText_any (w0 : World) (g : Nat) (L : List (List UInt8)) (s : ByteArray) (w : World) (h : StP w0 g L w) (hs : s.size ≤ 1000000) (hL : L.length < 10000) :
    Calls Try.prog 82 #[.string s, .pointer (some ⟨g, 0, none⟩)] w fun e w' => e = .returned (.tuple #[]) ∧ StP w0 g (L ++ [textForm s.data.toList]) w' ∧ KeepT badP w w' := by
  obtain ⟨v, rs, hbx, hown, hrs, hb, hsz, -⟩ := h
  obtain ⟨Ap, cp, rfl, -, -, -⟩ := own_slice hown.own
  have HBX := Lib.hid hbx
  have HO := Lib.hid hown
  have Hrs := Lib.hid hrs
  have HB := Lib.hid hb
  have hN : rs.length < 10000 := by rw [← hrs, List.length_map] at hL; exact hL
  have Hgo := Lib.hid hown.own
  obtain ⟨N, hNe⟩ : ∃ N, rs.length = N := ⟨_, rfl⟩
  have HN := Lib.hid hNe
  rw [hNe] at Hgo hN HBX HO
  have HL := Lib.hid hL
  have c0 : w.cell? ⟨g, 0, none⟩ = some (.slice Ap N cp) := HBX.out.cell 0
  have hgw := HBX.out.lt
  clear hbx hown hrs hb hNe hL
  go_enter Try.func82, Try.ntmps82
  go_wp2
  go_region_law (first
    | (go_simp; refine (text_any s _ hs).mono ?_; rintro e w3 ⟨v3, rfl, o3, b3⟩; obtain ⟨A3, m3, rfl, -, -, -⟩ := own_slice o3; have hb3 : Below w.heap.size w w3 := (Below.refl w.heap.size w).drew.trans b3; have c3 : w3.cell? ⟨g, 0, none⟩ = some (.slice Ap N cp) := (HBX.out.below hb3 hgw).cell 0; have hb5 : Below w.heap.size w (w3.alloc (Obj.cells #[.slice A3 (textForm s.data.toList).length m3] 76)) := hb3.alloc hb3.size _; have c5 : (w3.alloc (Obj.cells #[.slice A3 (textForm s.data.toList).length m3] 76)).cell? ⟨g, 0, none⟩ = some (.slice Ap N cp) := (HBX.out.below hb5 hgw).cell 0)
    | (refine step_append_hasN (by rfl) _ _ _ (by rfl) 76 pv_elem (by omega) Try.underlying132 (by rfl) (own_belowN Hgo.out hb5) (by rfl) (Has.lit w3 #[.slice A3 (textForm s.data.toList).length m3] 76) (fun u hu => by simp at hu; subst hu; rfl) (by simp only [maxLen]; omega) (by omega) (Nat.le_trans hsz hb5.size) ?_; intro vA wA oA gA zA; obtain ⟨AA, cA, rfl, -, -, -⟩ := own_sliceN oA; have hBA : Box wA g 132 #[.slice Ap N cp] := (HBX.out.below hb5 hgw).grown gA (fun e => by have := ((own_belowN Hgo.out hb5).lt _ e.symm).1; omega); have c7 := hBA.cell 0; have f7 := hBA.frozen 0; simp at c7))
  all_goals
    go_wp2
    go_end0
    have hBA : Box wA g 132 #[.slice Ap N cp] := (HBX.out.below hb5 hgw).grown gA (fun e => by have := ((own_belowN Hgo.out hb5).lt _ e.symm).1; omega)
    have hnoA : (Value.slice AA (N + 1) cA).ownBlock ≠ some g := fun e => by have := (oA.lt _ e).1; omega
    have hsn : OwnPv wA (g + 1) (.slice AA (N + 1) cA) (rs ++ [(.slice A3 (textForm s.data.toList).length m3, (textForm s.data.toList))]) := by
      have h5 : OwnPv (w3.alloc (Obj.cells #[.slice A3 (textForm s.data.toList).length m3] 76)) (g + 1) (.slice Ap N cp) rs := HO.out.below hb5
      refine h5.snoc (qs := [(.slice A3 (textForm s.data.toList).length m3, (textForm s.data.toList))]) (fun q hq => ?_) (by rw [HN.out]; exact oA) gA
      simp only [List.mem_cons, List.not_mem_nil, or_false] at hq
      subst hq
      exact own_baseN (own_belowN o3 (below_box _)) (Nat.le_trans hsz (Nat.le_refl _))
    refine ⟨rfl, ⟨.slice AA (N + 1) cA, _, by have h8 := hBA.set_ 0 (.slice AA (N + 1) cA); simpa using h8, hsn.farG (i := 0) (u := .slice AA (N + 1) cA), by rw [List.map_append, Hrs.out]; rfl, (HB.out.trans ((hb5.mono (Nat.le_of_lt hgw)).trans ((Below.refl g _).grown gA (by have := hb5.size; omega) fun i e => by have := ((own_belowN Hgo.out hb5).lt i e).1; omega))).setCell (Nat.le_refl _) _, by have h9 : (wA.setCell ⟨g, 0, none⟩ (.slice AA (N + 1) cA)).heap.size = wA.heap.size := (by simp); have := gA.size; have := hb5.size; omega, by rw [List.length_append]; have := HL.out; simp; omega⟩, ?_⟩
    exact ((KeepT.below hb5).grown (own_belowN Hgo.out hb5) gA (.inr rfl)).set hBA (.inl rfl) hgw
end Go.Proofs.Ytaljojjpgkmiiaa

namespace Go.Proofs.Ytaljojjpgkmiiaa
open Go.RowKit
open Go.Lib (strCells)

theorem prToks_len : ∀ l : List LPr, (prToks l).length = 2 * l.length
  | [] => rfl
  | p :: l => by simp only [prToks, List.length_cons, prToks_len l]; omega
theorem itToks_len : ∀ l : List LIt, (itToks l).length = 3 * l.length
  | [] => rfl
  | p :: l => by simp only [itToks, List.length_cons, itToks_len l]; omega
set_option maxRecDepth 100000 in
set_option maxHeartbeats 6400000 in
theorem tellP_any (St : List LTok → World → Prop) (bad : TypeId → Prop) (hbL : ¬ bad 69) (hbP : ¬ bad 94) (hbI : ¬ bad 96) (g : Nat) (L : Let) (Ap : Option Addr) (np cp : Nat) (Ai : Option Addr) (ni ci : Nat) (C M : Nat) (w : World)
    (hPs : ∀ T wx, St T wx → HasLps wx C Ap np L.ps ∧ HasLis wx C Ai ni L.is ∧ C ≤ wx.heap.size) (hSb : ∀ T wx w', St T wx → Below wx.heap.size wx w' → St T w')
    (hF1 : ∀ T n wx, St T wx → okNum n → T.length < 5000 → Calls Try.prog 81 #[.int .i64 n, .pointer (some ⟨g, 0, none⟩)] wx fun e w' => e = .returned (.tuple #[]) ∧ St (T ++ [.n n]) w' ∧ KeepT bad wx w')
    (hF2 : ∀ T s wx, St T wx → s.size ≤ M → T.length < 5000 → Calls Try.prog 82 #[.string s, .pointer (some ⟨g, 0, none⟩)] wx fun e w' => e = .returned (.tuple #[]) ∧ St (T ++ [.t s]) w' ∧ KeepT bad wx w')
    (h0 : St [] w) (hin : L.inside) (hp : np ≤ 256) (hi : ni ≤ 256) (ht : ∀ s ∈ L.txts, s.size ≤ M) (htp : ∀ p ∈ L.ps, p.k.size ≤ M ∧ p.v.size ≤ M) (hti : ∀ p ∈ L.is, p.e.size ≤ M) :
    Calls Try.prog 80 #[.agg #[.int .i64 L.kind, .int .i64 L.frm, .int .i64 L.to, .int .i64 L.a, .int .i64 L.b, .int .i64 L.c, .int .i64 L.d, .string L.s, .string L.t, .slice Ap np cp, .slice Ai ni ci, .int .i64 L.code, .bool L.yes, .string L.body], .func (.func 81) #[] #[.pointer (some ⟨g, 0, none⟩)], .func (.func 82) #[] #[.pointer (some ⟨g, 0, none⟩)]] w fun e w' => e = .returned (.tuple #[]) ∧ St L.toks w' ∧ KeepT bad w w' := by
  have HPs := Lib.hid hPs
  have HSb := Lib.hid hSb
  have HF1 := Lib.hid hF1
  have HF2 := Lib.hid hF2
  have HIn := Lib.hid hin
  have Ht := Lib.hid ht
  have Htp := Lib.hid htp
  have Hti := Lib.hid hti
  have HbP := Lib.hid hbP
  have HbI := Lib.hid hbI
  have Hnp : Hid (L.ps.length = np) := Lib.hid (hPs _ _ h0).1.1
  have Hni : Hid (L.is.length = ni) := Lib.hid (hPs _ _ h0).2.1.1
  have HB0 : Hid (∀ wx, KeepT bad (w.alloc (.cells #[.int .i64 L.kind, .int .i64 L.frm, .int .i64 L.to, .int .i64 L.a, .int .i64 L.b, .int .i64 L.c, .int .i64 L.d, .string L.s, .string L.t, .slice Ap np cp, .slice Ai ni ci, .int .i64 L.code, .bool L.yes, .string L.body] 69)) wx → Box wx w.heap.size 69 #[.int .i64 L.kind, .int .i64 L.frm, .int .i64 L.to, .int .i64 L.a, .int .i64 L.b, .int .i64 L.c, .int .i64 L.d, .string L.s, .string L.t, .slice Ap np cp, .slice Ai ni ci, .int .i64 L.code, .bool L.yes, .string L.body]) := Lib.hid fun wx hk => hk.box (Box.made w _ _) hbL
  have HK0 : Hid (KeepT bad w (w.alloc (.cells #[.int .i64 L.kind, .int .i64 L.frm, .int .i64 L.to, .int .i64 L.a, .int .i64 L.b, .int .i64 L.c, .int .i64 L.d, .string L.s, .string L.t, .slice Ap np cp, .slice Ai ni ci, .int .i64 L.code, .bool L.yes, .string L.body] 69))) := Lib.hid (KeepT.below (below_box _))
  have HS0 : Hid (St [] (w.alloc (.cells #[.int .i64 L.kind, .int .i64 L.frm, .int .i64 L.to, .int .i64 L.a, .int .i64 L.b, .int .i64 L.c, .int .i64 L.d, .string L.s, .string L.t, .slice Ap np cp, .slice Ai ni ci, .int .i64 L.code, .bool L.yes, .string L.body] 69))) := Lib.hid (hSb _ _ _ h0 (below_box _))
  clear hPs hSb hF1 hF2 hin ht htp hti hbP hbI hbL h0
  have ix0 : ∀ wx, (Instr.index 143 (.agg #[.int .i64 L.kind, .int .i64 L.frm, .int .i64 L.to, .int .i64 L.a, .int .i64 L.b, .int .i64 L.c, .int .i64 L.d, .int .i64 L.code]) (.int .i64 0)).run Try.prog wx = .ok (.int .i64 L.kind) wx := fun _ => by kernel_rfl
  have ix1 : ∀ wx, (Instr.index 143 (.agg #[.int .i64 L.kind, .int .i64 L.frm, .int .i64 L.to, .int .i64 L.a, .int .i64 L.b, .int .i64 L.c, .int .i64 L.d, .int .i64 L.code]) (.int .i64 1)).run Try.prog wx = .ok (.int .i64 L.frm) wx := fun _ => by kernel_rfl
  have ix2 : ∀ wx, (Instr.index 143 (.agg #[.int .i64 L.kind, .int .i64 L.frm, .int .i64 L.to, .int .i64 L.a, .int .i64 L.b, .int .i64 L.c, .int .i64 L.d, .int .i64 L.code]) (.int .i64 2)).run Try.prog wx = .ok (.int .i64 L.to) wx := fun _ => by kernel_rfl
  have ix3 : ∀ wx, (Instr.index 143 (.agg #[.int .i64 L.kind, .int .i64 L.frm, .int .i64 L.to, .int .i64 L.a, .int .i64 L.b, .int .i64 L.c, .int .i64 L.d, .int .i64 L.code]) (.int .i64 3)).run Try.prog wx = .ok (.int .i64 L.a) wx := fun _ => by kernel_rfl
  have ix4 : ∀ wx, (Instr.index 143 (.agg #[.int .i64 L.kind, .int .i64 L.frm, .int .i64 L.to, .int .i64 L.a, .int .i64 L.b, .int .i64 L.c, .int .i64 L.d, .int .i64 L.code]) (.int .i64 4)).run Try.prog wx = .ok (.int .i64 L.b) wx := fun _ => by kernel_rfl
  have ix5 : ∀ wx, (Instr.index 143 (.agg #[.int .i64 L.kind, .int .i64 L.frm, .int .i64 L.to, .int .i64 L.a, .int .i64 L.b, .int .i64 L.c, .int .i64 L.d, .int .i64 L.code]) (.int .i64 5)).run Try.prog wx = .ok (.int .i64 L.c) wx := fun _ => by kernel_rfl
  have ix6 : ∀ wx, (Instr.index 143 (.agg #[.int .i64 L.kind, .int .i64 L.frm, .int .i64 L.to, .int .i64 L.a, .int .i64 L.b, .int .i64 L.c, .int .i64 L.d, .int .i64 L.code]) (.int .i64 6)).run Try.prog wx = .ok (.int .i64 L.d) wx := fun _ => by kernel_rfl
  have ix7 : ∀ wx, (Instr.index 143 (.agg #[.int .i64 L.kind, .int .i64 L.frm, .int .i64 L.to, .int .i64 L.a, .int .i64 L.b, .int .i64 L.c, .int .i64 L.d, .int .i64 L.code]) (.int .i64 7)).run Try.prog wx = .ok (.int .i64 L.code) wx := fun _ => by kernel_rfl
  have iy0 : ∀ wx, (Instr.index 145 (.agg #[.string L.s, .string L.t, .string L.body]) (.int .i64 0)).run Try.prog wx = .ok (.string L.s) wx := fun _ => by kernel_rfl
  have iy1 : ∀ wx, (Instr.index 145 (.agg #[.string L.s, .string L.t, .string L.body]) (.int .i64 1)).run Try.prog wx = .ok (.string L.t) wx := fun _ => by kernel_rfl
  have iy2 : ∀ wx, (Instr.index 145 (.agg #[.string L.s, .string L.t, .string L.body]) (.int .i64 2)).run Try.prog wx = .ok (.string L.body) wx := fun _ => by kernel_rfl
  go_enter Try.func80, Try.ntmps80
  go_wp2_with fail
  refine (numbers_any L Ap np cp Ai ni ci _).mono ?_
  rintro e w1 ⟨rfl, b1⟩
  have HS1 : Hid (St (L.head.take 0) w1 ∧ KeepT bad (w.alloc (.cells #[.int .i64 L.kind, .int .i64 L.frm, .int .i64 L.to, .int .i64 L.a, .int .i64 L.b, .int .i64 L.c, .int .i64 L.d, .string L.s, .string L.t, .slice Ap np cp, .slice Ai ni ci, .int .i64 L.code, .bool L.yes, .string L.body] 69)) w1) := Lib.hid ⟨HSb.out _ _ _ HS0.out b1, KeepT.below b1⟩
  clear b1 HS0
  go_wp2
  go_loopw [7, 16] (fun _ iv wr => ∃ j : Nat, j ≤ 8 ∧ iv = .int .i64 (j : Int) ∧ Hid (St (L.head.take j) wr ∧ KeepT bad (w.alloc (.cells #[.int .i64 L.kind, .int .i64 L.frm, .int .i64 L.to, .int .i64 L.a, .int .i64 L.b, .int .i64 L.c, .int .i64 L.d, .string L.s, .string L.t, .slice Ap np cp, .slice Ai ni ci, .int .i64 L.code, .bool L.yes, .string L.body] 69)) wr)) (fun _ iv _ => 8 - (intOf iv).toNat)
  case atStart => exact ⟨0, by omega, rfl, HS1⟩
  case round =>
    clear HS1
    obtain ⟨j, hj, rfl, HS⟩ := hrel
    by_cases hlt : j < 8
    · have hc : j = 0 ∨ j = 1 ∨ j = 2 ∨ j = 3 ∨ j = 4 ∨ j = 5 ∨ j = 6 ∨ j = 7 := by omega
      clear hj hlt
      rcases hc with rfl | rfl | rfl | rfl | rfl | rfl | rfl | rfl
      all_goals
        go_wp2_with fail
        refine (HF1.out _ _ _ HS.out.1 ?_ ?_).mono ?_
        · exact HIn.out.2.1 _ (by simp [Let.nums])
        · simp [Let.head, Let.nums]
        rintro e w2 ⟨rfl, hs2, hk2⟩
        have HS2 := Lib.hid (And.intro hs2 (HS.out.2.trans hk2))
        clear hs2 hk2
        go_wp2
        go_roundw
        case rel => first | exact ⟨1, by omega, by go_num, Lib.hid ⟨HS2.out.1, HS2.out.2⟩⟩ | exact ⟨2, by omega, by go_num, Lib.hid ⟨HS2.out.1, HS2.out.2⟩⟩ | exact ⟨3, by omega, by go_num, Lib.hid ⟨HS2.out.1, HS2.out.2⟩⟩ | exact ⟨4, by omega, by go_num, Lib.hid ⟨HS2.out.1, HS2.out.2⟩⟩ | exact ⟨5, by omega, by go_num, Lib.hid ⟨HS2.out.1, HS2.out.2⟩⟩ | exact ⟨6, by omega, by go_num, Lib.hid ⟨HS2.out.1, HS2.out.2⟩⟩ | exact ⟨7, by omega, by go_num, Lib.hid ⟨HS2.out.1, HS2.out.2⟩⟩ | exact ⟨8, by omega, by go_num, Lib.hid ⟨HS2.out.1, HS2.out.2⟩⟩
        case measure => simp [intOf]
    · obtain rfl : j = 8 := by omega
      have HS' : Hid (St L.head wr ∧ KeepT bad (w.alloc (.cells #[.int .i64 L.kind, .int .i64 L.frm, .int .i64 L.to, .int .i64 L.a, .int .i64 L.b, .int .i64 L.c, .int .i64 L.d, .string L.s, .string L.t, .slice Ap np cp, .slice Ai ni ci, .int .i64 L.code, .bool L.yes, .string L.body] 69)) wr) := Lib.hid HS.out
      obtain ⟨-, -, -, -, d12, -⟩ := let_cells (HB0.out wr HS.out.2)
      clear HS hj hlt
      clear ix0 ix1 ix2 ix3 ix4 ix5 ix6 ix7
      generalize wr = wa at *
      have Hone := Lib.hid (oneIf_any L.yes wa)
      go_wp2_with fail
      refine Hone.out.mono ?_
      rintro e w2 ⟨rfl, rfl⟩
      go_wp2_with fail
      refine (HF1.out _ _ _ HS'.out.1 (by unfold one okNum; split <;> omega) (by simp [Let.head, Let.nums])).mono ?_
      rintro e w3 ⟨rfl, hs3, hk3⟩
      have HS3 := Lib.hid (And.intro hs3 (HS'.out.2.trans hk3))
      have hlc := let_cells (HB0.out w3 HS3.out.2)
      obtain ⟨⟨d0, d1, d2, d3, d4, d5, d6⟩, ⟨d7, d8⟩, ⟨d9, d10⟩, ⟨d11, d12, d13⟩⟩ := hlc
      clear hs3 hk3 HS' Hone
      go_wp2_with fail
      refine (texts_any13 L Ap np cp Ai ni ci _).mono ?_
      rintro e w4 ⟨rfl, b4⟩
      have HS4 : Hid (St ((L.head ++ [LTok.n (one L.yes)]) ++ (L.txts.map LTok.t).take 0) w4 ∧ KeepT bad (w.alloc (.cells #[.int .i64 L.kind, .int .i64 L.frm, .int .i64 L.to, .int .i64 L.a, .int .i64 L.b, .int .i64 L.c, .int .i64 L.d, .string L.s, .string L.t, .slice Ap np cp, .slice Ai ni ci, .int .i64 L.code, .bool L.yes, .string L.body] 69)) w4) := Lib.hid ⟨by simpa using HSb.out _ _ _ HS3.out.1 b4, HS3.out.2.trans (KeepT.below b4)⟩
      clear b4 HS3 d0 d1 d2 d3 d4 d5 d6 d7 d8 d9 d10 d11 d12 d13
      go_wp2
      go_loopw [9, 30] (fun _ iv wr => ∃ j : Nat, j ≤ 3 ∧ iv = .int .i64 (j : Int) ∧ Hid (St ((L.head ++ [LTok.n (one L.yes)]) ++ (L.txts.map LTok.t).take j) wr ∧ KeepT bad (w.alloc (.cells #[.int .i64 L.kind, .int .i64 L.frm, .int .i64 L.to, .int .i64 L.a, .int .i64 L.b, .int .i64 L.c, .int .i64 L.d, .string L.s, .string L.t, .slice Ap np cp, .slice Ai ni ci, .int .i64 L.code, .bool L.yes, .string L.body] 69)) wr)) (fun _ iv _ => 3 - (intOf iv).toNat)
      case atStart => exact ⟨0, by omega, rfl, HS4⟩
      case round =>
        clear HS4
        obtain ⟨j, hj, rfl, HS⟩ := hrel
        by_cases hlt : j < 3
        · have hc : j = 0 ∨ j = 1 ∨ j = 2 := by omega
          clear hj hlt
          rcases hc with rfl | rfl | rfl
          all_goals
            go_wp2_with fail
            refine (HF2.out _ _ _ HS.out.1 ?_ ?_).mono ?_
            · exact Ht.out _ (by simp [Let.txts])
            · simp [Let.head, Let.nums, Let.txts]
            rintro e w2 ⟨rfl, hs2, hk2⟩
            have HS2 := Lib.hid (And.intro hs2 (HS.out.2.trans hk2))
            clear hs2 hk2
            go_wp2
            go_roundw
            case rel => first | exact ⟨1, by omega, by go_num, Lib.hid ⟨HS2.out.1, HS2.out.2⟩⟩ | exact ⟨2, by omega, by go_num, Lib.hid ⟨HS2.out.1, HS2.out.2⟩⟩ | exact ⟨3, by omega, by go_num, Lib.hid ⟨HS2.out.1, HS2.out.2⟩⟩
            case measure => simp [intOf]
        · obtain rfl : j = 3 := by omega
          obtain ⟨H, hH⟩ : ∃ H, (L.head ++ [LTok.n (one L.yes)]) ++ L.txts.map LTok.t = H := ⟨_, rfl⟩
          have hHl : H.length = 12 := by rw [← hH]; simp [Let.head, Let.nums, Let.txts]
          have HH := Lib.hid hH
          have HHl := Lib.hid hHl
          have HS' : Hid (St H wr ∧ KeepT bad (w.alloc (.cells #[.int .i64 L.kind, .int .i64 L.frm, .int .i64 L.to, .int .i64 L.a, .int .i64 L.b, .int .i64 L.c, .int .i64 L.d, .string L.s, .string L.t, .slice Ap np cp, .slice Ai ni ci, .int .i64 L.code, .bool L.yes, .string L.body] 69)) wr) := Lib.hid ⟨by rw [← hH]; exact HS.out.1, HS.out.2⟩
          obtain ⟨-, -, ⟨d9, -⟩, -⟩ := let_cells (HB0.out wr HS.out.2)
          clear HS hj hlt hH hHl
          clear iy0 iy1 iy2
          generalize wr = wb at *
          go_wp2_with fail
          refine (HF1.out _ _ _ HS'.out.1 ⟨by omega, by omega⟩ (by rw [HHl.out]; omega)).mono ?_
          rintro e w3 ⟨rfl, hs3, hk3⟩
          have HS3 : Hid (St ((H ++ [LTok.n (np : Int)]) ++ prToks (L.ps.take 0)) w3 ∧ KeepT bad (w.alloc (.cells #[.int .i64 L.kind, .int .i64 L.frm, .int .i64 L.to, .int .i64 L.a, .int .i64 L.b, .int .i64 L.c, .int .i64 L.d, .string L.s, .string L.t, .slice Ap np cp, .slice Ai ni ci, .int .i64 L.code, .bool L.yes, .string L.body] 69)) w3) := Lib.hid ⟨by simpa [prToks] using hs3, HS'.out.2.trans hk3⟩
          obtain ⟨-, -, ⟨d9, -⟩, -⟩ := let_cells (HB0.out w3 HS3.out.2)
          clear hs3 hk3 HS'
          go_wp2
          go_loopw [11, 45] (fun _ iv wr => ∃ j : Nat, j ≤ np ∧ iv = .int .i64 (j : Int) ∧ Hid (St ((H ++ [LTok.n (np : Int)]) ++ prToks (L.ps.take j)) wr ∧ KeepT bad (w.alloc (.cells #[.int .i64 L.kind, .int .i64 L.frm, .int .i64 L.to, .int .i64 L.a, .int .i64 L.b, .int .i64 L.c, .int .i64 L.d, .string L.s, .string L.t, .slice Ap np cp, .slice Ai ni ci, .int .i64 L.code, .bool L.yes, .string L.body] 69)) wr)) (fun _ iv _ => np - (intOf iv).toNat)
          case atStart => exact ⟨0, by omega, rfl, HS3⟩
          case round =>
            clear HS3 d9
            obtain ⟨j, hj, rfl, HS⟩ := hrel
            by_cases hlt : j < np
            · obtain ⟨a, p, rfl, hab, hpj, c0, c1⟩ := (HPs.out _ _ HS.out.1).1.at_ hlt
              have Hst := Lib.hid (prToks_succ hpj)
              have Htj := Lib.hid (Htp.out p (List.mem_of_getElem? hpj))
              have HTl : Hid (((H ++ [LTok.n (np : Int)]) ++ prToks (L.ps.take j)).length < 4990) := Lib.hid (by
                rw [List.length_append, List.length_append, HHl.out]
                have h9 := prToks_len (L.ps.take j)
                rw [List.length_take] at h9
                simp
                omega)
              obtain ⟨pk, pv⟩ := p
              simp only at c0 c1 Hst Htj
              have hk0 : (0 : Int) ≤ (j : Int) := by omega
              have hk1 : (j : Int) < (np : Int) := by omega
              have HSa : Hid (St ((H ++ [LTok.n (np : Int)]) ++ prToks (L.ps.take j)) (wr.alloc (.cells #[.string pk, .string pv] 94)) ∧ KeepT bad _ (wr.alloc (.cells #[.string pk, .string pv] 94))) := Lib.hid ⟨HSb.out _ _ _ HS.out.1 (below_box _), HS.out.2.trans (KeepT.below (below_box _))⟩
              have HBa := Lib.hid (Box.made wr 94 #[.string pk, .string pv])
              clear hpj hab
              go_wp2_with fail
              refine (HF2.out _ _ _ HSa.out.1 Htj.out.1 (Nat.lt_of_lt_of_le HTl.out (by omega))).mono ?_
              rintro e w5 ⟨rfl, hs5, hk5⟩
              have HS5 := Lib.hid (And.intro hs5 (HSa.out.2.trans hk5))
              have hb5 := hk5.box HBa.out HbP.out
              have e1 : w5.cell? ⟨wr.heap.size, 1, none⟩ = some (.string pv) := hb5.cell 1
              clear hs5 hk5 hb5 HSa
              go_wp2_with fail
              refine (HF2.out _ _ _ HS5.out.1 Htj.out.2 (by rw [List.length_append]; have := HTl.out; simp only [List.length_cons, List.length_nil]; omega)).mono ?_
              rintro e w6 ⟨rfl, hs6, hk6⟩
              have HS6 : Hid (St ((H ++ [LTok.n (np : Int)]) ++ prToks (L.ps.take (j + 1))) w6 ∧ KeepT bad _ w6) := Lib.hid ⟨by rw [Hst.out]; simpa [List.append_assoc] using hs6, HS5.out.2.trans hk6⟩
              clear hs6 hk6
              go_wp2
              go_roundw
              case rel => exact ⟨j + 1, by omega, by go_num, HS6⟩
              case measure => simp [intOf]; omega
            · obtain rfl : np = j := by omega
              obtain ⟨H2, hH2⟩ : ∃ H2, (H ++ [LTok.n (np : Int)]) ++ prToks L.ps = H2 := ⟨_, rfl⟩
              have hpl := prToks_len L.ps
              have hH2l : H2.length ≤ 600 := by rw [← hH2, List.length_append, List.length_append, HHl.out]; have := Hnp.out; simp; omega
              have HH2 := Lib.hid hH2
              have HH2l := Lib.hid hH2l
              have HS' : Hid (St H2 wr ∧ KeepT bad (w.alloc (.cells #[.int .i64 L.kind, .int .i64 L.frm, .int .i64 L.to, .int .i64 L.a, .int .i64 L.b, .int .i64 L.c, .int .i64 L.d, .string L.s, .string L.t, .slice Ap np cp, .slice Ai ni ci, .int .i64 L.code, .bool L.yes, .string L.body] 69)) wr) := Lib.hid ⟨by
                have h9 := HS.out.1
                rw [List.take_of_length_le (by rw [Hnp.out]; exact Nat.le_refl _), hH2] at h9
                exact h9, HS.out.2⟩
              obtain ⟨-, -, ⟨-, d10⟩, -⟩ := let_cells (HB0.out wr HS.out.2)
              clear HS hj hlt hH2 hH2l hpl
              generalize wr = wd at *
              go_wp2_with fail
              refine (HF1.out _ _ _ HS'.out.1 ⟨by omega, by omega⟩ (by have := HH2l.out; omega)).mono ?_
              rintro e w3' ⟨rfl, hs3, hk3⟩
              have HS3 : Hid (St ((H2 ++ [LTok.n (ni : Int)]) ++ itToks (L.is.take 0)) w3' ∧ KeepT bad (w.alloc (.cells #[.int .i64 L.kind, .int .i64 L.frm, .int .i64 L.to, .int .i64 L.a, .int .i64 L.b, .int .i64 L.c, .int .i64 L.d, .string L.s, .string L.t, .slice Ap np cp, .slice Ai ni ci, .int .i64 L.code, .bool L.yes, .string L.body] 69)) w3') := Lib.hid ⟨by simpa [itToks] using hs3, HS'.out.2.trans hk3⟩
              obtain ⟨-, -, ⟨-, d10⟩, -⟩ := let_cells (HB0.out w3' HS3.out.2)
              clear hs3 hk3 HS'
              go_wp2
              go_loopw [13, 66] (fun _ iv wr => ∃ j : Nat, j ≤ ni ∧ iv = .int .i64 (j : Int) ∧ Hid (St ((H2 ++ [LTok.n (ni : Int)]) ++ itToks (L.is.take j)) wr ∧ KeepT bad (w.alloc (.cells #[.int .i64 L.kind, .int .i64 L.frm, .int .i64 L.to, .int .i64 L.a, .int .i64 L.b, .int .i64 L.c, .int .i64 L.d, .string L.s, .string L.t, .slice Ap np cp, .slice Ai ni ci, .int .i64 L.code, .bool L.yes, .string L.body] 69)) wr)) (fun _ iv _ => ni - (intOf iv).toNat)
              case atStart => exact ⟨0, by omega, rfl, HS3⟩
              case round =>
                clear HS3 d10
                obtain ⟨j', hj, rfl, HS⟩ := hrel
                by_cases hlt : j' < ni
                · obtain ⟨a, p, rfl, hab, hpj, c0, c1, c2⟩ := (HPs.out _ _ HS.out.1).2.1.at_ hlt
                  have Hst := Lib.hid (itToks_succ hpj)
                  have Htj := Lib.hid (Hti.out p (List.mem_of_getElem? hpj))
                  have Hnj := Lib.hid (HIn.out.2.2 p (List.mem_of_getElem? hpj))
                  have HTl : Hid (((H2 ++ [LTok.n (ni : Int)]) ++ itToks (L.is.take j')).length < 4900) := Lib.hid (by
                    rw [List.length_append, List.length_append]
                    have h9 := itToks_len (L.is.take j')
                    rw [List.length_take] at h9
                    have := HH2l.out
                    simp
                    omega)
                  obtain ⟨pe, pn, pg⟩ := p
                  simp only at c0 c1 c2 Hst Htj Hnj
                  have hk0 : (0 : Int) ≤ (j' : Int) := by omega
                  have hk1 : (j' : Int) < (ni : Int) := by omega
                  have HSa : Hid (St ((H2 ++ [LTok.n (ni : Int)]) ++ itToks (L.is.take j')) (wr.alloc (.cells #[.string pe, .int .i64 pn, .bool pg] 96)) ∧ KeepT bad _ (wr.alloc (.cells #[.string pe, .int .i64 pn, .bool pg] 96))) := Lib.hid ⟨HSb.out _ _ _ HS.out.1 (below_box _), HS.out.2.trans (KeepT.below (below_box _))⟩
                  have HBa := Lib.hid (Box.made wr 96 #[.string pe, .int .i64 pn, .bool pg])
                  clear hpj hab
                  go_wp2_with fail
                  refine (HF2.out _ _ _ HSa.out.1 Htj.out (Nat.lt_of_lt_of_le HTl.out (by omega))).mono ?_
                  rintro e w5 ⟨rfl, hs5, hk5⟩
                  have HS5 := Lib.hid (And.intro hs5 (HSa.out.2.trans hk5))
                  have HB5 := Lib.hid (hk5.box HBa.out HbI.out)
                  have e1 : w5.cell? ⟨wr.heap.size, 1, none⟩ = some (.int .i64 pn) := HB5.out.cell 1
                  clear hs5 hk5 HSa
                  go_wp2_with fail
                  refine (HF1.out _ _ _ HS5.out.1 Hnj.out (by rw [List.length_append]; have := HTl.out; simp only [List.length_cons, List.length_nil]; omega)).mono ?_
                  rintro e w6 ⟨rfl, hs6, hk6⟩
                  have HS6 := Lib.hid (And.intro hs6 (HS5.out.2.trans hk6))
                  have hb6 := hk6.box HB5.out HbI.out
                  have e2 : w6.cell? ⟨wr.heap.size, 2, none⟩ = some (.bool pg) := hb6.cell 2
                  clear hs6 hk6 hb6 HS5 e1
                  go_wp2_with fail
                  refine (oneIf_any pg w6).mono ?_
                  rintro e w6' ⟨rfl, rfl⟩
                  go_wp2_with fail
                  refine (HF1.out _ _ _ HS6.out.1 (by unfold one okNum; split <;> omega) (by rw [List.length_append, List.length_append]; have := HTl.out; simp only [List.length_cons, List.length_nil]; omega)).mono ?_
                  rintro e w7 ⟨rfl, hs7, hk7⟩
                  have HS7 : Hid (St ((H2 ++ [LTok.n (ni : Int)]) ++ itToks (L.is.take (j' + 1))) w7 ∧ KeepT bad _ w7) := Lib.hid ⟨by rw [Hst.out]; simpa [List.append_assoc] using hs7, HS6.out.2.trans hk7⟩
                  clear hs7 hk7
                  go_wp2
                  go_roundw
                  case rel => exact ⟨j' + 1, by omega, by go_num, HS7⟩
                  case measure => simp [intOf]; omega
                · obtain rfl : ni = j' := by omega
                  have HE : Hid (St L.toks wr ∧ KeepT bad w wr) := Lib.hid ⟨by
                    have h9 := HS.out.1
                    rw [List.take_of_length_le (by rw [Hni.out]; exact Nat.le_refl _), ← HH2.out, ← HH.out] at h9
                    unfold Let.toks
                    rw [Hnp.out, Hni.out]
                    simpa [List.append_assoc] using h9, HK0.out.trans HS.out.2⟩
                  clear HS
                  go_wp2
                  go_end0
                  exact ⟨rfl, HE.out.1, HE.out.2⟩
end Go.Proofs.Ytaljojjpgkmiiaa
