/- Words for rows of the call's own and for literal slices, for every layer that handles bytes. -/
import Derived.Test.YtdfhnjocpfjagaaRows
import Derived.Test.YtdfhnjocpfjagaaAppend
namespace Go.Proofs.Ytdfhnjocpfjagaa
open Go.RowKit
def intOf : Value → Int | .int _ q => q | _ => 0

theorem drop_at {b : List UInt8} {k : Nat} (h : k < b.length) : b.drop k = b[k]?.getD 0 :: b.drop (k + 1) := by
  rw [List.drop_eq_getElem_cons h]
  simp [h]

theorem take_snoc {l : List UInt8} {k : Nat} (h : k < l.length) : l.take (k + 1) = l.take k ++ [l[k]?.getD 0] := by
  rw [List.take_succ_eq_append_getElem h]
  simp [h]

theorem u8_elem : Elem Try.prog 5 1 (.int .u8 0) := ⟨by kernel_rfl, rfl⟩

/-- What is handed back is a row of the call's own, from block B on, that holds xs; below B nothing has turned. -/
def Gives (B m : Nat) (xs : List Value) (w : World) (e : Ending) (w' : World) : Prop :=
  ∃ v', e = .returned v' ∧ w'.ownsRow B 5 1 v' m xs ∧ Below B w w'

theorem ret_own {v v' : Value} {B m m' : Nat} {xs xs' : List Value} {w w' : World} (hv : v = v') (h : w'.ownsRow B 5 1 v' m' xs') (hm : m' = m) (hx : xs' = xs) (hb : Below B w w') : Gives B m xs w (.returned v) w' := by
  subst hv; subst hm; subst hx
  exact ⟨_, rfl, h, hb⟩
theorem byte_cell (k : Nat) (h : k < 256) : byteCells [UInt8.ofNat k] = [.int .u8 (k : Int)] := by
  have : (UInt8.ofNat k).toNat = k := by simp; omega
  simp only [byteCells, List.map_cons, List.map_nil, this]

theorem byteCells_set (l : List UInt8) (j : Nat) (x : UInt8) : (byteCells l).set j (.int .u8 (x.toNat : Int)) = byteCells (l.set j x) := by
  unfold byteCells
  rw [List.map_set]
theorem own_slice {w : World} {B m : Nat} {e : TypeId} {v : Value} {xs : List Value} (h : w.ownsRow B e 1 v m xs) : ∃ A c, v = .slice A m c ∧ m ≤ c ∧ c ≤ maxLen ∧ Has w w.heap.size A m xs := by
  have h0 := h
  rcases h.2 with ⟨hv, hn⟩ | ⟨g, cap, cur, hv, _, _, hc, hm, _⟩
  · subst hn
    subst hv
    exact ⟨none, 0, rfl, Nat.le_refl _, by simp [maxLen], Has.of_own h0⟩
  · subst hv
    exact ⟨_, cap, rfl, hc, hm, Has.of_own h0⟩

theorem own_base {w : World} {B B' m : Nat} {e : TypeId} {v : Value} {xs : List Value} (h : w.ownsRow B e 1 v m xs) (hB : B' ≤ B) : w.ownsRow B' e 1 v m xs := by
  refine ⟨h.1, ?_⟩
  rcases h.2 with hn | ⟨g, cap, cur, hv, hb, rest⟩
  · exact .inl hn
  · exact .inr ⟨g, cap, cur, hv, Nat.le_trans hB hb, rest⟩
theorem own_below {w w' : World} {B m : Nat} {e : TypeId} {v : Value} {xs : List Value} (h : w.ownsRow B e 1 v m xs) (hb : Below w.heap.size w w') : w'.ownsRow B e 1 v m xs := by
  refine ⟨h.1, ?_⟩
  rcases h.2 with hn | ⟨g, cap, cur, hv, hB, hg, rest⟩
  · exact .inl hn
  · exact .inr ⟨g, cap, cur, hv, hB, (hb.block g (Array.getElem?_eq_some_iff.1 hg).1).trans hg, rest⟩
theorem own_at {w : World} {B m c : Nat} {e : TypeId} {A : Option Addr} {xs : List Value} (h : w.ownsRow B e 1 (.slice A m c) m xs) (hm : 0 < m) : ∃ g, A = some ⟨g, 0, none⟩ ∧ B ≤ g := by
  rcases h.2 with ⟨_, h0⟩ | ⟨g, cap, cur, hv, hb, _⟩
  · omega
  · injection hv with hA _ _
    exact ⟨g, hA, hb⟩
theorem lit_bytes (w : World) (l : List UInt8) (t : TypeId) (cs : Array Value) (hcs : cs.toList = byteCells l) : HasBytes (w.alloc (.cells cs t)) (w.alloc (.cells cs t)).heap.size (some ⟨w.heap.size, 0, none⟩) l.length l := by
  have h := Has.lit w cs t
  have hsz : cs.size = l.length := by
    have := congrArg List.length hcs
    rw [byteCells_length] at this
    simpa using this
  rw [hcs, hsz] at h
  refine Has.more h (by simp)

/-- the row of '[]byte("..")' of a constant text: as a literal's, with the run-time's mark behind its last cell -/
theorem lit_mark (w : World) (g : Nat) (hg : w.heap.size = g) (l : List UInt8) (t : TypeId) (m : Nat × Nat) (cs : Array Value) (hcs : cs.toList = byteCells l) : HasBytes (w.alloc (.cells cs t m)) (g + 1) (some ⟨g, 0, none⟩) l.length l := by
  subst hg
  refine ⟨byteCells_length l, fun k u hu => ⟨_, rfl, by simp, ?_⟩⟩
  have e : (⟨w.heap.size, 0, none⟩ : Addr).add k = ⟨w.heap.size, k, none⟩ := by unfold Addr.add; split <;> simp_all
  rw [e, cell_of_row _ w.heap.size k cs t m (heap_alloc_new w _), ← hu, ← hcs]
  simp

end Go.Proofs.Ytdfhnjocpfjagaa
