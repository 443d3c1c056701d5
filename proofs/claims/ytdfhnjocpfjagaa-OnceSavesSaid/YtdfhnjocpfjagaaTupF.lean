/- Key, of the program, gives what the plain text (SpecTuple) gives. Condition: the row is in memory. -/
import Derived.Test.YtdfhnjocpfjagaaTupE
namespace Go.Proofs.Ytdfhnjocpfjagaa
open Go.RowKit
open Go.Lib (strCells compareBytes)

theorem keyL_take {l : List TVal} {k : Nat} {v : TVal} (h : l[k]? = some v) : keyL (l.take (k + 1)) = keyL (l.take k) ++ keyV v := by
  rw [List.take_add_one, h]
  exact keyL_snoc _ _
theorem keyL_take_len {l : List TVal} (k : Nat) (h : ∀ v ∈ l, goodV v = true) (h4 : l.length ≤ 4) : (keyL (l.take k)).length ≤ 268 := by
  have h1 := keyL_len (l := l.take k) fun v hv => h v (List.mem_of_mem_take hv)
  have h2 : (l.take k).length ≤ l.length := List.length_take_le' _ _
  omega
/-- a text and an error -/
def textErr (l : List UInt8) (e : Nat) : Value := .tuple #[.string ⟨l.toArray⟩, .int .i64 e]

set_option maxHeartbeats 400000 in
set_option maxRecDepth 100000 in
theorem key_any (A : Option Addr) (n c B : Nat) (l : List TVal) (w : World) (h : HasVals w B A n l) (hn : n ≤ maxLen) (hw : B ≤ w.heap.size) (hi : ∀ v ∈ l, InI64 v.n) :
    Calls Try.prog 30 #[.slice A n c] w fun e w' => e = .returned (textErr (keyT l) (rowErr l)) ∧ Below w.heap.size w w' := by
  have Hcheck := Lib.hid (check_any A n c B l w h hn hw)
  unfold maxLen at hn
  have H := Lib.hid h
  clear h
  have Hl := Lib.hid H.out.1
  have Hi := Lib.hid hi
  clear hi
  by_cases he : rowErr l = 0
  · have Hg := Lib.hid (rowErr_ok.1 he)
    have Et : Hid (keyT l = keyL l) := Lib.hid (by unfold keyT; rw [if_pos he])
    rw [he] at Hcheck
    rw [he]
    clear he
    have hn4 : n ≤ 4 := by have := Hg.out.1; have := Hl.out; omega
    go_enter Try.func30, Try.ntmps30
    go_wp2_with fail
    refine Hcheck.out.mono ?_
    rintro e w0 ⟨rfl, hb0⟩
    have hw0 := hb0.size
    have Hb0 := Lib.hid hb0
    clear hb0
    go_wp2
    go_loopw [5, 15] (fun v i wr => ∃ k : Nat, k ≤ n ∧ i = .int .i64 (k : Int) ∧ wr.ownsRow w.heap.size 5 1 v (keyL (l.take k)).length (byteCells (keyL (l.take k))) ∧ Below w.heap.size w wr) (fun _ i _ => n - (intOf i).toNat)
    case atStart => exact ⟨0, by omega, rfl, World.ownsRow_nil _ _ _ _, Hb0.out⟩
    case round =>
      obtain ⟨k, hk, rfl, hown, hb⟩ := hrel
      have hsz := hb.size
      have hkl := keyL_take_len k Hg.out.2 Hg.out.1
      have Hb := Lib.hid hb
      clear hb
      by_cases hlt : k < n
      · have H1 := Lib.hid (H.out.belowOf Hb.out hw)
        obtain ⟨a, v, rfl, _, hv, c0, c1, c2⟩ := H1.out.at_ hlt
        have hvm := List.mem_of_getElem? hv
        have Hgv := Lib.hid (Hg.out.2 v hvm)
        have Hiv := Lib.hid (Hi.out v hvm)
        have Et2 := Lib.hid (keyL_take hv)
        have Hown := Lib.hid hown
        clear hv hvm hown
        go_wp2_with fail
        refine (addVal_any w.heap.size (keyL (l.take k)).length v _ (byteCells (keyL (l.take k))) _ (Hown.out.alloc _) (le_alloc hsz _) Hgv.out Hiv.out (by omega)).mono ?_
        rintro e w1 ⟨v1, rfl, hown1, hk1⟩
        have Hown1 := Lib.hid hown1
        have Hb1 : Hid (Below w.heap.size w w1) := Lib.hid ((Hb.out.alloc hsz _).trans (hk1.below (Hown.out.alloc _) (le_alloc hsz _)))
        clear hown1 hk1
        go_wp2
        go_roundw
        case rel =>
          refine ⟨k + 1, by omega, by go_num, ?_, Hb1.out⟩
          rw [Et2.out, byteCells_app, List.length_append]
          exact Hown1.out
        case measure => simp [intOf]; omega
      · obtain rfl : k = n := by omega
        have E : Hid (l.take k = l) := Lib.hid (List.take_of_length_le (by have := Hl.out; omega))
        rw [E.out] at hown hkl
        obtain ⟨A', c', rfl, hc', _, hh⟩ := own_slice hown
        have hcv := string_run hh c'
        clear hh hown
        go_wp2
        go_ret2
        exact ⟨by rw [Et.out]; rfl, Hb.out⟩
  · have Et : Hid (keyT l = []) := Lib.hid (by unfold keyT; rw [if_neg he])
    have hne : ((rowErr l : Int) == 0) = false := by simp; omega
    have hne' : ((rowErr l : Int) != 0) = true := by simp; omega
    clear he
    go_enter Try.func30, Try.ntmps30
    go_wp2_with fail
    refine Hcheck.out.mono ?_
    rintro e w0 ⟨rfl, hb0⟩
    have Hb0 := Lib.hid hb0
    clear hb0
    go_wp2
    go_ret2
    exact ⟨by rw [Et.out]; rfl, Hb0.out⟩

end Go.Proofs.Ytdfhnjocpfjagaa
