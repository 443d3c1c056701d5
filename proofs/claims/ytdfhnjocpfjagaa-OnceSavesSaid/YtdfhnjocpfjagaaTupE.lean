/- addVal, Key and the document's put and Key give what the plain text (SpecTuple) gives. Condition: rows in memory, what is put before is short. -/
import Derived.Test.YtdfhnjocpfjagaaTupD
namespace Go.Proofs.Ytdfhnjocpfjagaa
open Go.RowKit
open Go.Lib (strCells compareBytes)

theorem one_in (w : World) (g : Nat) (hg : w.heap.size = g) (u : Value) (t : TypeId) : Has (w.alloc (.cells #[u] t)) (g + 1) (some ⟨g, 0, none⟩) 1 [u] := by
  subst hg
  exact Has.more (Has.one w u t _ rfl) (by simp)
/-- a box of three cells that the call lays, and the row that came in -/
theorem grew_box {w : World} {v w1v : Value} {w1 : World} {o o' : Obj} (h : Grew ((w.alloc o).alloc o').drew v w1 w1v) : Grew w v w1 w1v := Grew.trans ((((Grew.refl w v).alloc o).alloc o').drew) h

set_option maxHeartbeats 400000 in
set_option maxRecDepth 100000 in
theorem addVal_any (B m : Nat) (u : TVal) (v : Value) (xs : List Value) (w : World) (hown : w.ownsRow B 5 1 v m xs) (hB : B ≤ w.heap.size) (hg : goodV u = true) (hn : InI64 u.n) (hm : m ≤ 1000) :
    Calls Try.prog 69 #[v, vagg u] w (GivesG v B (m + (keyV u).length) (xs ++ byteCells (keyV u)) w) := by
  have Hne : v.ownBlock ≠ some w.heap.size := fun e => by have := (hown.lt _ e).2; omega
  have Hg := Lib.hid hg
  obtain ⟨k, n, s⟩ := u
  have Hn : Hid (InI64 n) := Lib.hid hn
  have hcs : (k = 0 ∨ k = 1) ∨ (k = 2 ∧ s.size ≤ 32) := by
    rw [goodV_iff] at hg
    simp only [TVal.t] at hg
    rw [Lib.size_eq]
    omega
  clear hg hn
  unfold vagg
  simp only
  rcases hcs with (rfl | rfl) | ⟨rfl, hs⟩
  · have Hown := Lib.hid hown
    clear hown
    have E : Hid (keyV ⟨0, n, s⟩ = [1]) := Lib.hid (by simp [keyV])
    go_enter Try.func69, Try.ntmps69
    go_wp2_with (at_builtin; refine wpList_append_has rfl (.tmp 23) (.tmp 24) _ rfl 5 u8_elem Try.underlying22 rfl ((Hown.out.alloc _).alloc _) rfl (one_in _ _ (by simp) _ _) (one_int _ _) (by simp only [maxLen]; omega) (by omega) (by simp; omega) ?_; intro v1 w1 hown1 hg1 hz1; have hK1 : Grew w v w1 v1 := (((Grew.refl w v).alloc _).alloc _).app hg1 hz1; clear hg1 hz1)
    go_ret
    exact ret_grew rfl hown1 (by rw [E.out]; rfl) (by rw [E.out]; rfl) hK1
  · have Hown := Lib.hid (hown.alloc (.cells #[.int .i64 1, .int .i64 n, .string s] 47))
    clear hown
    have E : Hid (keyV ⟨1, n, s⟩ = 2 :: be 8 (n + 9223372036854775808).toNat) := Lib.hid (by simp [keyV])
    go_enter Try.func69, Try.ntmps69
    go_wp2
    go_region_held3 (fun wx => wx.cell? ⟨w.heap.size, 1, none⟩ = some (.int .i64 n))
      (first
        | go_keep
        | exact (hK1.cell Hne ‹_›)
        | exact (hK2.cell hNe1 ‹_›))
      (first
        | (refine step_append_hasN (by rfl) _ _ _ (by rfl) 5 u8_elemN (by omega) Try.underlying22 (by rfl) ((Hown.out.alloc _).drew) (by rfl) (one_at _ _ (by simp) _ _) (one_int _ _) (by simp only [maxLen]; omega) (by omega) (by simp; omega) ?_; intro v1 w1 hown1 hg1 hz1; have hK1 : Grew _ v w1 v1 := (Grew.refl _ _).app hg1 hz1; have hB1 : B ≤ w1.heap.size := Nat.le_trans (by simp; omega) hK1.size; have hNe1 := hK1.far (by simp; omega) Hne; clear hg1 hz1)
        | (go_at_call 106; refine (addInt_any _ _ _ _ _ _ hown1 hB1 Hn.out (by omega)).mono ?_; rintro e w2 ⟨v2, rfl, hown2, hK2⟩))
    have Hown2 := Lib.hid hown2
    have HK := Lib.hid ((grew_box hK1).trans hK2)
    clear hown2 hown1 hK1 hK2 hNe1
    go_wp2
    go_ret
    refine ret_grew rfl Hown2.out ?_ ?_ HK.out
    · rw [E.out, List.length_cons, be_len]
    · rw [E.out, byteCells_cons, List.append_assoc]; rfl
  · have Hown := Lib.hid (hown.alloc (.cells #[.int .i64 2, .int .i64 n, .string s] 47))
    clear hown
    have E : Hid (keyV ⟨2, n, s⟩ = 3 :: (esc s.data.toList ++ [0, 0])) := Lib.hid (by simp [keyV, TVal.t])
    go_enter Try.func69, Try.ntmps69
    go_wp2
    go_region_held3 (fun wx => wx.cell? ⟨w.heap.size, 2, none⟩ = some (.string s))
      (first
        | go_keep
        | exact (hK1.cell Hne ‹_›)
        | exact (hK2.cell hNe1 ‹_›))
      (first
        | (refine step_append_hasN (by rfl) _ _ _ (by rfl) 5 u8_elemN (by omega) Try.underlying22 (by rfl) ((Hown.out.alloc _).drew) (by rfl) (one_at _ _ (by simp) _ _) (one_int _ _) (by simp only [maxLen]; omega) (by omega) (by simp; omega) ?_; intro v1 w1 hown1 hg1 hz1; have hK1 : Grew _ v w1 v1 := (Grew.refl _ _).app hg1 hz1; have hB1 : B ≤ w1.heap.size := Nat.le_trans (by simp; omega) hK1.size; have hNe1 := hK1.far (by simp; omega) Hne; clear hg1 hz1)
        | (go_at_call 107; refine (addText_any _ _ _ _ _ _ hown1 hB1 hs (by omega)).mono ?_; rintro e w2 ⟨v2, rfl, hown2, hK2⟩))
    have Hown2 := Lib.hid hown2
    have HK := Lib.hid ((grew_box hK1).trans hK2)
    clear hown2 hown1 hK1 hK2 hNe1
    go_wp2
    go_ret
    refine ret_grew rfl Hown2.out ?_ ?_ HK.out
    · rw [E.out]; simp only [List.length_cons, List.length_append, List.length_nil]; omega
    · rw [E.out, byteCells_cons, List.append_assoc]; rfl

end Go.Proofs.Ytdfhnjocpfjagaa
