/- Boxes of three cells that the call has laid, in later worlds; s[a:] to the end. No condition. -/
import Derived.Test.YtdfhnjocpfjagaaMem
import Derived.Test.YtdfhnjocpfjagaaSpecTuple
import Derived.Test.YtdfhnjocpfjagaaTupA
import Derived.Test.YtdfhnjocpfjagaaBoxM
namespace Go.Proofs.Ytdfhnjocpfjagaa
open Go.RowKit
open Go.Lib (strCells compareBytes)

/-- s[a:] -/
theorem extract_end (s : ByteArray) (a : Nat) : s.extract a s.size = ⟨(s.data.toList.drop a).toArray⟩ := by
  apply bytes_ext
  rw [Lib.extract_data, List.take_of_length_le (by rw [List.length_drop, ← Lib.size_eq]; omega)]
theorem vals_lit (w : World) (k n : Int) (s : ByteArray) : Has (w.alloc (.cells #[.int .i64 k, .int .i64 n, .string s] 47)) (w.heap.size + 1) (some ⟨w.heap.size, 0, none⟩) (1 * 3) (valCells [⟨k, n, s⟩]) :=
  Has.lit w #[.int .i64 k, .int .i64 n, .string s] 47

theorem val_lit (w : World) (k : Int) : Has (w.alloc (.cells #[.int .i64 k, .int .i64 0, .string ⟨#[]⟩] 47)) (w.heap.size + 1) (some ⟨w.heap.size, 0, none⟩) (1 * 3) (valCells [⟨k, 0, ⟨#[]⟩⟩]) :=
  Has.lit w #[.int .i64 k, .int .i64 0, .string ⟨#[]⟩] 47

end Go.Proofs.Ytdfhnjocpfjagaa
