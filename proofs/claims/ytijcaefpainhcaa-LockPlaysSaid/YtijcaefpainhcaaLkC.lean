/- Package lock: what a store leaves of a table; Renew, Free, Ids. Condition: the table is in memory. -/
import Derived.Test.YtijcaefpainhcaaLkB
import Derived.Test.YtijcaefpainhcaaShelf
namespace Go.Proofs.Ytijcaefpainhcaa
open Go.RowKit

section
variable {F : Nat → Prop} {w w1 : World} {sb mb : Nat} {lease : Int} {M : List LE}
theorem LkAt.setLeft (h : LkAt w F sb mb lease M) {e : LE} (he : e ∈ M) (z : Int) {w' : World} (hw : w.setCell ⟨e.b, 1, none⟩ (.int .i64 z) = w') : LkAt w' F sb mb lease (updM ⟨⟨e.p.n, e.p.L, z⟩, e.b, e.A, e.c⟩ M) ∧ KeptF F w w' := by
  subst hw
  have hs : (w.setCell ⟨e.b, 1, none⟩ (.int .i64 z)).heap.size = w.heap.size := by simp
  have hk : ∀ i, i ≠ e.b → (w.setCell ⟨e.b, 1, none⟩ (.int .i64 z)).heap[i]? = w.heap[i]? := fun i hi => Below.heap_setCell w ⟨e.b, 1, none⟩ _ i hi
  have hne := h.bNe he
  obtain ⟨h1, h2⟩ := h.upd (w' := w.setCell ⟨e.b, 1, none⟩ (.int .i64 z)) he (x := ⟨⟨e.p.n, e.p.L, z⟩, e.b, e.A, e.c⟩) rfl rfl rfl rfl rfl (Nat.le_of_eq hs.symm) (fun i _ hi _ => hk i hi) ((h.held e he).set_ 1 (.int .i64 z))
    (ownL_keep (h.rows e he) fun g hg => hk g ((hne.2.2 g hg).2.2 e he)) (fun g hg => .inl hg)
  exact ⟨h1.mono (fun i hi => hi.elim id (fun hi => absurd hi (by omega))) (fun i hi => by rw [hs]; exact h.lt i hi), h2⟩
theorem LkAt.setRow (h : LkAt w F sb mb lease M) {e : LE} (he : e ∈ M) (os : w1.os = w.os) (tape : w1.tape = w.tape) (output : w1.output = w.output) (size : w.heap.size ≤ w1.heap.size)
    (hk : ∀ i, i < w.heap.size → e.row.ownBlock ≠ some i → w1.heap[i]? = w.heap[i]?) {A : Option Addr} {l : List Rg} {c : Nat} (ho : OwnRgs w1 w.heap.size (.slice A l.length c) l) {w' : World} (hw : w1.setCell ⟨e.b, 0, none⟩ (.slice A l.length c) = w') :
    LkAt w' (addF F w w') sb mb lease (updM ⟨⟨e.p.n, l, e.p.left⟩, e.b, A, c⟩ M) ∧ KeptF F w w' := by
  subst hw
  have hs : (w1.setCell ⟨e.b, 0, none⟩ (.slice A l.length c)).heap.size = w1.heap.size := by simp
  have hk1 : ∀ i, i ≠ e.b → (w1.setCell ⟨e.b, 0, none⟩ (.slice A l.length c)).heap[i]? = w1.heap[i]? := fun i hi => Below.heap_setCell w1 ⟨e.b, 0, none⟩ _ i hi
  have hne := h.bNe he
  have hl := h.lt _ (h.eF e he).1
  have hb1 : Box w1 e.b 81 #[e.row, .int .i64 e.p.left] := (hk e.b hl (fun e1 => (hne.2.2 _ e1).2.2 e he rfl)).trans (h.held e he)
  exact h.upd (w' := w1.setCell ⟨e.b, 0, none⟩ (.slice A l.length c)) he (x := ⟨⟨e.p.n, l, e.p.left⟩, e.b, A, c⟩) rfl rfl os tape output (by rw [hs]; exact size) (fun i hi h1 h2 => (hk1 i h1).trans (hk i hi h2)) (hb1.set_ 0 (.slice A l.length c))
    (own_baseN (ownL_keep ho fun g hg => hk1 g (by have := (World.ownsRow.lt ho g hg).1; omega)) (Nat.zero_le _)) (fun g hg => .inr (World.ownsRow.lt ho g hg).1)
set_option maxRecDepth 100000 in
theorem lockRenew_any (h : LkAt w F sb mb lease M) (k : Int) (hk : (Lit.int .i64 k).wf = true) : Calls Try.prog 58 #[.pointer (some ⟨sb, 0, none⟩), .int .i64 k] w fun e w' =>
    e = .returned (.bool (getL k (pl M)).isSome) ∧ ∃ M', LkAt w' F sb mb lease M' ∧ pl M' = renewT lease k (pl M) ∧ KeptF F w w' := by
  obtain ⟨q0, q1⟩ := h.cells
  obtain ⟨l0, l1⟩ := h.look k hk
  rw [pl_get]
  cases hg : getM k M with
  | none =>
    have hl := l0 hg
    have HE : Hid (LkAt w F sb mb lease M ∧ pl M = renewT lease k (pl M)) := Lib.hid ⟨h, by unfold renewT; rw [pl_get, hg]; rfl⟩
    clear l0 l1 h
    go_enter Try.func58, Try.ntmps58
    go_wp2
    go_ret
    exact ⟨rfl, _, HE.out.1, HE.out.2, KeptF.of (Below.refl _ _)⟩
  | some e =>
    have hl := l1 e hg
    obtain ⟨he, hn⟩ := getM_some hg
    obtain ⟨w', hw⟩ : ∃ w', w.setCell ⟨e.b, 1, none⟩ (.int .i64 lease) = w' := ⟨_, rfl⟩
    have HE := Lib.hid (h.setLeft he lease hw)
    have Hp : Hid (pl (updM ⟨⟨e.p.n, e.p.L, lease⟩, e.b, e.A, e.c⟩ M) = renewT lease k (pl M)) := Lib.hid (by
      unfold renewT
      rw [pl_get, hg, pl_upd, hn]
      rfl)
    obtain ⟨-, -, f1⟩ := h.heldCells he
    obtain ⟨⟨-, c1⟩, -, -⟩ := h.heldCells he
    clear l0 l1 h hg he hn
    go_enter Try.func58, Try.ntmps58
    go_wp2
    go_ret
    exact ⟨rfl, _, HE.out.1, Hp.out, HE.out.2⟩
set_option maxRecDepth 100000 in
theorem lockFree_any (h : LkAt w F sb mb lease M) (k : Int) (hk : (Lit.int .i64 k).wf = true) : Calls Try.prog 41 #[.pointer (some ⟨sb, 0, none⟩), .int .i64 k] w fun e w' =>
    e = .returned (.bool (getL k (pl M)).isSome) ∧ ∃ M', LkAt w' F sb mb lease M' ∧ pl M' = delL k (pl M) ∧ KeptF F w w' := by
  obtain ⟨q0, q1⟩ := h.cells
  obtain ⟨l0, l1⟩ := h.look k hk
  obtain ⟨wM, hdl, mM, tM⟩ := h.own.drop intKeyed Try.underlying73 (Maps.keyOf_int_mk Try.underlying3 hk) 0
  have HE := Lib.hid (And.intro (h.del mM tM) (pl_del k M))
  rw [pl_get]
  clear mM tM
  cases hg : getM k M with
  | none =>
    have hl := l0 hg
    clear l0 l1 h
    go_enter Try.func41, Try.ntmps41
    go_wp2
    go_ret
    exact ⟨rfl, _, HE.out.1.1, HE.out.2, HE.out.1.2⟩
  | some e =>
    have hl := l1 e hg
    clear l0 l1 h
    go_enter Try.func41, Try.ntmps41
    go_wp2
    go_ret
    exact ⟨rfl, _, HE.out.1.1, HE.out.2, HE.out.1.2⟩
theorem sorts_int (m : Nat) : AnyZI.SortsIn Try.prog Try.sorted66_ren Fence.wide m :=
  ⟨fun blk off cap ss W hH hblk hsz => callsIn_wide.2 (AnyM.slices_Sort_int Try.sort75 blk off cap ss W hH hblk hsz),
   fun p cap W => callsIn_wide.2 (AnyM.slices_Sort_int_none Try.sort75 p cap W)⟩
theorem sort_ints {ss ks : List Int} (h : ss.Perm ks) (hk : ks.Pairwise (· < ·)) : ss.mergeSort (fun x y => decide (x ≤ y)) = ks := by
  have h1 : (ss.mergeSort (fun x y => decide (x ≤ y))).Perm ks := (List.mergeSort_perm ss _).trans h
  have h2 : (ss.mergeSort (fun x y => decide (x ≤ y))).Pairwise (· ≤ ·) := by
    have := List.pairwise_mergeSort (le := fun (x y : Int) => decide (x ≤ y)) (by intro a b c; simp; omega) (by intro a b; simp; omega) ss
    exact this.imp (by intro a b; simp)
  exact h1.eq_of_pairwise (fun a b _ _ h3 h4 => by omega) h2 (hk.imp (by intro a b; omega))
theorem mapsKeysI_any (mb : Option Nat) (W : World) : Calls Try.prog 67 #[.map mb] W fun e w' => e = .returned (.func (.func 76) #[] #[.pointer (some ⟨W.heap.size, 0, none⟩)]) ∧ w' = W.alloc (.cells #[.map mb] 73) :=
  callsIn_wide.1 (AnyZI.keys_in Try.keys67 Fence.wide 5 trivial rfl mb W)
set_option maxHeartbeats 1000000 in
theorem sortedKeysI_any (b nn : Nat) (D0 : DataW Value) (w : World) (hown : w.ownsMap Try.prog 3 Rn b nn D0) (hmax : Maps.size D0 ≤ maxLen) (hbytes : Maps.size D0 * 8 ≤ 140737488355328) :
    Calls Try.prog 66 #[.func (.func 76) #[] #[.pointer (some ⟨w.heap.size, 0, none⟩)]] (w.alloc (.cells #[.map (some b)] 73)) fun e w' => ∃ (v : Value) (ss : List Int), e = .returned v ∧ ss.Perm (intKeys D0) ∧
      w'.ownsRow (w.alloc (.cells #[.map (some b)] 73)).heap.size 3 1 v ss.length ((ss.mergeSort (fun x y => decide (x ≤ y))).map encZ) ∧ (v = .slice none 0 0 ↔ ss = []) ∧ Below (w.alloc (.cells #[.map (some b)] 73)).heap.size (w.alloc (.cells #[.map (some b)] 73)) w' := by
  have hbl := hown.lt
  have hseq : SeqGives Fence.wide 2 Try.prog 76 #[.pointer (some ⟨w.heap.size, 0, none⟩)] encZ (fun ss => ss.Perm (intKeys D0)) (Maps.size D0) (w.alloc (.cells #[.map (some b)] 73)) :=
    AnyZI.keys_gives (ρ := Try.keys67_ren) { Try.keys67 with } Fence.wide _ trivial rfl (by omega) w.heap.size b nn D0 _ (by simp) (by simp) (by
      obtain ⟨es, clock, hb, Ft, hs, hD⟩ := hown
      exact ⟨es, clock, (Below.heap_alloc _ _ b hbl).trans hb, Ft, hs, hD⟩)
  exact callsIn_wide.1 (AnyZI.sorted_in Try.sorted66 Fence.wide 5 trivial trivial trivial trivial rfl (by omega) (sorts_int _) (enters_of Try.func75 (by kernel_rfl) rfl) 76 #[.pointer (some ⟨w.heap.size, 0, none⟩)] trivial (enters_of Try.func76 (by kernel_rfl) rfl) _ _ hmax hbytes _ hseq)
theorem nums_pair {E : List TL} (h : RiseL E) : (E.map (·.n)).Pairwise (· < ·) := by
  rw [List.pairwise_map]
  exact h
set_option maxRecDepth 100000 in
theorem lockIds_any (h : LkAt w F sb mb lease M) (hM : M.length ≤ 100000) : Calls Try.prog 35 #[.pointer (some ⟨sb, 0, none⟩)] w fun e w' => ∃ v, e = .returned v ∧ w'.ownsRow w.heap.size 3 1 v M.length (((pl M).map (·.n)).map encZ) ∧ Below w.heap.size w w' := by
  obtain ⟨q0, q1⟩ := h.cells
  have Hs := Lib.hid (sortedKeysI_any mb M.length _ w h.own (by rw [lmap_size]; simp only [maxLen]; omega) (by rw [lmap_size]; omega))
  have Hr := Lib.hid (nums_pair h.rise)
  clear h
  go_enter Try.func35, Try.ntmps35
  go_wp2_with fail
  refine (mapsKeysI_any (some mb) _).mono ?_
  rintro e w1 ⟨rfl, rfl⟩
  go_wp2_with fail
  refine Hs.out.mono ?_
  rintro e w2 ⟨v, ss, rfl, hp, hrow, -, hb⟩
  have hb2 := Lib.hid ((below_box (w := w) (.cells #[.map (some mb)] 73)).trans (hb.mono (by simp)))
  rw [lmap_keys] at hp
  have hsort := sort_ints hp Hr.out
  have hlen : ss.length = M.length := by rw [hp.length_eq, List.length_map, pl_len]
  rw [hsort, hlen] at hrow
  have Hrow := Lib.hid (own_base hrow (by simp : w.heap.size ≤ _))
  clear hb hsort hlen hrow hp
  go_wp2
  go_ret
  exact ⟨_, rfl, Hrow.out, hb2.out⟩
end
end Go.Proofs.Ytijcaefpainhcaa
