/- '[]byte(s)' of any text, and 'string(b)' of a row of the call's own: what the walk wants of them. No condition. -/
import Derived.Test.YtdfhnjocpfjagaaOwn
import Derived.Lib.ConvBytes
import Derived.Lib.Strings
import Derived.Lib.UnsafeStr
namespace Go.Proofs.Ytdfhnjocpfjagaa
open Go.RowKit

/-- Block g begins with the bytes l, none of them frozen. -/
def Bytes (w : World) (g : Nat) (l : List UInt8) : Prop := g < w.heap.size ∧ ∀ j, j < l.length → w.cell? ⟨g, j, none⟩ = some (.int .u8 ((l[j]?.getD 0).toNat : Int)) ∧ w.frozen? ⟨g, j, none⟩ = false
theorem Bytes.has {w : World} {g : Nat} {l : List UInt8} (h : Bytes w g l) : HasBytes w (g + 1) (some ⟨g, 0, none⟩) l.length l := by
  refine ⟨byteCells_length l, fun k u hu => ⟨_, rfl, by simp, ?_⟩⟩
  have hk : k < l.length := by
    have := (List.getElem?_eq_some_iff.1 hu).1
    rwa [byteCells_length] at this
  have e : (⟨g, 0, none⟩ : Addr).add k = ⟨g, k, none⟩ := by unfold Addr.add; split <;> simp_all
  rw [e, (h.2 k hk).1, ← hu]
  simp [byteCells, hk]
theorem Bytes.below {w w' : World} {B g : Nat} {l : List UInt8} (h : Bytes w g l) (hb : Below B w w') (hg : g < B) : Bytes w' g l :=
  ⟨Nat.lt_of_lt_of_le h.1 hb.size, fun j hj => ⟨(hb.cell (p := ⟨g, j, none⟩) hg).trans (h.2 j hj).1, (hb.frozen (p := ⟨g, j, none⟩) hg).trans (h.2 j hj).2⟩⟩
theorem Bytes.keep {w w' : World} {g : Nat} {l : List UInt8} (h : Bytes w g l) (hb : w'.heap[g]? = w.heap[g]?) (hs : w.heap.size ≤ w'.heap.size) : Bytes w' g l :=
  ⟨Nat.lt_of_lt_of_le h.1 hs, fun j hj => ⟨(World.cell?_of_block (w := w) (a := ⟨g, j, none⟩) hb).trans (h.2 j hj).1, (World.frozen?_of_block (w := w) (a := ⟨g, j, none⟩) hb).trans (h.2 j hj).2⟩⟩

theorem conv_bytes (P : Program) (w : World) (src dst e : TypeId) (s : ByteArray) (hs : P.underlying src = some .string) (hd : P.underlying dst = some (.slice e)) (he : P.underlying e = some (.int .u8)) :
    ∃ w1 c, (convert src dst (.string s)).run P w = .ok (.slice (some ⟨w.heap.size, 0, none⟩) s.size c) w1 ∧ s.size ≤ c ∧ w1.heap.size = w.heap.size + 1 ∧ Below w.heap.size w w1 ∧ Bytes w1 w.heap.size s.data.toList := by
  refine ⟨_, _, Lib.run_convert_string_bytes w src dst e s hs hd he, grownCap_ge _ _ _ _, Lib.bytesWorld_size _ _ _, ?_, ?_, ?_⟩
  · unfold Lib.bytesWorld
    exact Lib.below_freeze (((Below.refl _ w).drew).alloc (Nat.le_refl _) _) (Nat.le_refl _) _
  · rw [Lib.bytesWorld_size]
    omega
  · intro j hj
    have hj' : j < s.size := by
      rw [Lib.size_eq]
      exact hj
    refine ⟨?_, ?_⟩
    · rw [Lib.bytesWorld_cell w e s j hj']
      rfl
    · unfold World.frozen?
      rw [show (Lib.bytesWorld w e s).heap[(⟨w.heap.size, j, none⟩ : Addr).block]? = _ from Lib.bytesWorld_at_new w e s]
      have : j < (Lib.bytesCells w e s).size := by
        unfold Lib.bytesCells
        simp
        omega
      simp
      omega

theorem string_run {w : World} {B n : Nat} {A : Option Addr} {l : List UInt8} (h : HasBytes w B A n l) (c : Nat) : (convert 22 9 (.slice A n c)).run Try.prog w = .ok (.string ⟨l.toArray⟩) w :=
  run_string_of h c _ _ _ Try.underlying22 Try.underlying5 Try.underlying9

end Go.Proofs.Ytdfhnjocpfjagaa
