/- What puts the bytes of values: addInt, addText, addVal, Key, and the document's put and Key, give what the plain text (SpecTuple) gives. Condition: rows in memory, what is put before is short. -/
import Derived.Test.YtdfhnjocpfjagaaTupC
import Derived.Test.YtdfhnjocpfjagaaGrew
import Derived.Test.YtdfhnjocpfjagaaStep
namespace Go.Proofs.Ytdfhnjocpfjagaa
open Go.RowKit
open Go.Lib (strCells compareBytes)

theorem u64_of {n : Int} (h : InI64 n) : IntKind.u64.wrap (IntKind.u64.wrap n + 9223372036854775808) = (((n + 9223372036854775808).toNat : Nat) : Int) := by
  obtain ⟨h1, h2⟩ := h
  simp only [IntKind.wrap, IntKind.signed, IntKind.bits]
  simp
  omega
theorem byteOf (U j : Nat) : (U : Int) / 2 ^ (8 * j) % 256 = ((U / 256 ^ j % 256 : Nat) : Int) := by
  have e : (2 : Int) ^ (8 * j) = ((256 ^ j : Nat) : Int) := by
    rw [Int.pow_mul, Int.natCast_pow]
    rfl
  rw [e, Int.natCast_emod, Int.natCast_ediv]
  rfl

set_option maxHeartbeats 400000 in
theorem addInt_any (B m : Nat) (n : Int) (v : Value) (xs : List Value) (w : World) (hown : w.ownsRow B 5 1 v m xs) (hB : B ≤ w.heap.size) (hn : InI64 n) (hm : m ≤ 70368744177664) :
    Calls Try.prog 106 #[v, .int .i64 n] w (GivesG v B (m + 8) (xs ++ byteCells (be 8 (n + 9223372036854775808).toNat)) w) := by
  have Hu := Lib.hid (u64_of hn)
  clear hn
  generalize (n + 9223372036854775808).toNat = U at Hu ⊢
  go_enter Try.func106, Try.ntmps106
  go_wp2
  go_loopw [0, 6, 10] (fun vr _ i wr => ∃ k : Nat, k ≤ 8 ∧ i = .int .i64 (k : Int) ∧ wr.ownsRow B 5 1 vr (m + k) (xs ++ byteCells ((be 8 U).take k)) ∧ Grew w v wr vr) (fun _ _ i _ => 8 - (intOf i).toNat)
  case atStart => exact ⟨0, by omega, rfl, by simpa [byteCells] using hown, Grew.refl _ _⟩
  case round =>
    obtain ⟨k, hk, rfl, hown', hb⟩ := hrel
    have hBr : B ≤ wr.heap.size := Nat.le_trans hB hb.size
    have Hb := Lib.hid hb
    clear hb
    by_cases hlt : k < 8
    · go_wp2_with (at_builtin; refine wpList_append_has rfl (.tmp 13) (.tmp 20) _ rfl 5 u8_elem Try.underlying22 rfl (hown'.alloc _) rfl (Has.one wr _ _ _ rfl) (one_int _ _) (by simp only [maxLen]; omega) (by omega) (le_alloc hBr _) ?_; intro v' w1 hown1 hg1 hz1; have Hb1 : Hid (Grew w v w1 v') := Lib.hid ((Hb.out.alloc _).app hg1 hz1); clear hg1 hz1)
      go_roundw
      case rel =>
        refine ⟨k + 1, by omega, by go_num, ?_, Hb1.out⟩
        rw [Hu.out, byteOf, ← byte_cell _ (Nat.mod_lt _ (by omega)), List.append_assoc, ← byteCells_app] at hown1
        rw [be_take k U 8 hlt]
        exact hown1
      case measure => simp [intOf]; omega
    · obtain rfl : k = 8 := by omega
      go_wp2
      go_ret
      exact ret_grew rfl hown' rfl (by rw [List.take_of_length_le (by rw [be_len]; omega)]) Hb.out

theorem two_zero (w : World) : Has (w.alloc (.cells #[.int .u8 0, .int .u8 0] 5)) (w.heap.size + 1) (some ⟨w.heap.size, 0, none⟩) 2 (byteCells [0, 0]) := Has.lit w #[.int .u8 0, .int .u8 0] 5
theorem bytes_alloc {w : World} {g : Nat} {l : List UInt8} (h : Bytes w g l) (o : Obj) : Bytes (w.alloc o) g l := h.keep (Below.heap_alloc w o g h.1) (by simp)
theorem esc_take {l : List UInt8} {k : Nat} (h : k < l.length) : esc (l.take (k + 1)) = esc (l.take k) ++ esc1 (l[k]?.getD 0) := by rw [take_snoc h, esc_snoc]
theorem esc_take_len (l : List UInt8) (k : Nat) : (esc (l.take k)).length ≤ 2 * l.length := by
  have h1 := esc_len (l.take k)
  have h2 : (l.take k).length ≤ l.length := List.length_take_le' _ _
  omega

set_option maxHeartbeats 800000 in
theorem addText_any (B m : Nat) (s : ByteArray) (v : Value) (xs : List Value) (w : World) (hown : w.ownsRow B 5 1 v m xs) (hB : B ≤ w.heap.size) (hs : s.size ≤ 32) (hm : m ≤ 70368744177664) :
    Calls Try.prog 107 #[v, .string s] w (GivesG v B (m + ((esc s.data.toList).length + 2)) (xs ++ byteCells (esc s.data.toList ++ [0, 0])) w) := by
  obtain ⟨w0, c0, hcv, hc0, hz0, hb0, hbs⟩ := conv_bytes Try.prog w 9 22 5 s Try.underlying9 Try.underlying22 Try.underlying5
  have Hb0 := Lib.hid ((Grew.refl w v).under hb0)
  obtain ⟨g, hgw⟩ : ∃ g, w.heap.size = g := ⟨_, rfl⟩
  rw [hgw] at hcv hz0 hb0 hbs
  have Hsl := Lib.hid (Lib.size_eq s)
  have Hne0 : Hid (v.ownBlock ≠ some g) := Lib.hid fun e => by have := (hown.lt g e).2; omega
  have Hown0 := Lib.hid (own_below hown (by rw [hgw]; exact hb0))
  have Hbs := Lib.hid hbs
  clear hbs hown hb0 hgw hz0
  generalize hl : s.data.toList = l at Hsl Hbs ⊢
  clear hl
  go_enter Try.func107, Try.ntmps107
  go_wp2
  clear hcv
  go_loopw [0, 6, 10] (fun vr _ i wr => ∃ k : Nat, k ≤ s.size ∧ i = .int .i64 (k : Int) ∧ wr.ownsRow B 5 1 vr (m + (esc (l.take k)).length) (xs ++ byteCells (esc (l.take k))) ∧ Grew w v wr vr ∧ Bytes wr g l ∧ vr.ownBlock ≠ some g) (fun _ _ i _ => s.size - (intOf i).toNat)
  case atStart => exact ⟨0, by omega, rfl, by simpa [byteCells, esc] using Hown0.out, Hb0.out, Hbs.out, Hne0.out⟩
  case round =>
    obtain ⟨k, hk, rfl, hown', hb, hbs, hne⟩ := hrel
    have hBr : B ≤ wr.heap.size := Nat.le_trans hB hb.size
    have hel : (esc (l.take k)).length ≤ 64 := by have := esc_take_len l k; have := Hsl.out; omega
    have Hb := Lib.hid hb
    clear hb
    by_cases hlt : k < s.size
    · have hc := (hbs.2 k (by have := Hsl.out; omega)).1
      have Hbs' := Lib.hid hbs
      have Hne := Lib.hid hne
      have He := Lib.hid (esc_take (l := l) (k := k) (by have := Hsl.out; omega))
      clear hbs hne
      have h256 := (l[k]?.getD 0).toNat_lt
      generalize l[k]?.getD 0 = x at hc He h256
      by_cases hx : x = 0
      · subst hx
        have E1 : Hid (esc1 0 = [0] ++ [255]) := Lib.hid rfl
        go_wp2_with (first
          | (at_builtin; refine wpList_append_has rfl (.tmp 14) (.tmp 16) _ rfl 5 u8_elem Try.underlying22 rfl (hown'.alloc _) rfl (Has.one wr _ _ _ rfl) (one_int _ _) (by simp only [maxLen]; omega) (by omega) (le_alloc hBr _) ?_; intro v1 w1 hown1 hg1 hz1; have Hk1 : Hid (Grew wr _ w1 v1) := Lib.hid (((Grew.refl wr _).alloc _).app hg1 hz1); have hB1 : B ≤ w1.heap.size := Nat.le_trans hBr Hk1.out.size; clear hg1 hz1)
          | (at_builtin; refine wpList_append_has rfl (.tmp 20) (.tmp 21) _ rfl 5 u8_elem Try.underlying22 rfl (hown1.alloc _) rfl (Has.one w1 _ _ _ rfl) (one_int _ _) (by simp only [maxLen]; omega) (by omega) (le_alloc hB1 _) ?_; intro v2 w2 hown2 hg2 hz2; have Hk2 : Hid (Grew wr _ w2 v2) := Lib.hid ((Hk1.out.alloc _).app hg2 hz2); clear hg2 hz2))
        go_roundw
        case rel =>
          refine ⟨k + 1, by omega, by go_num, ?_, Hb.out.trans Hk2.out, Hk2.out.bytes Hbs'.out Hne.out, Hk2.out.far Hbs'.out.1 Hne.out⟩
          rw [He.out, E1.out, byteCells_app, byteCells_app, List.length_append, ← List.append_assoc, ← List.append_assoc]
          exact hown2
        case measure => simp [intOf]; omega
      · have hx1 : ((x.toNat : Int) == 0) = false := by
          have : x.toNat ≠ 0 := fun e => hx (UInt8.toNat_inj.1 (by rw [e]; rfl))
          simp
          omega
        have E1 : Hid (esc1 x = [x]) := Lib.hid (by unfold esc1; rw [if_neg hx])
        go_wp2_with
          (at_builtin; refine wpList_append_has rfl (.tmp 14) (.tmp 16) _ rfl 5 u8_elem Try.underlying22 rfl (hown'.alloc _) rfl (Has.one wr _ _ _ rfl) (one_int _ _) (by simp only [maxLen]; omega) (by omega) (le_alloc hBr _) ?_; intro v1 w1 hown1 hg1 hz1; have Hk1 : Hid (Grew wr _ w1 v1) := Lib.hid (((Grew.refl wr _).alloc _).app hg1 hz1); clear hg1 hz1)
        go_roundw
        case rel =>
          refine ⟨k + 1, by omega, by go_num, ?_, Hb.out.trans Hk1.out, Hk1.out.bytes Hbs'.out Hne.out, Hk1.out.far Hbs'.out.1 Hne.out⟩
          rw [He.out, E1.out, byteCells_app, List.length_append, ← List.append_assoc]
          exact hown1
        case measure => simp [intOf]; omega
    · obtain rfl : k = s.size := by omega
      have E : Hid (l.take s.size = l) := Lib.hid (List.take_of_length_le (by have := Hsl.out; omega))
      clear hbs hne
      go_wp2_with (at_builtin; refine wpList_append_has rfl (.tmp 24) (.tmp 25) _ rfl 5 u8_elem Try.underlying22 rfl (hown'.alloc _) rfl (two_zero wr) (byteCells_one _) (by simp only [maxLen]; omega) (by omega) (le_alloc hBr _) ?_; intro v1 w1 hown1 hg1 hz1; have Hb1 : Hid (Grew w v w1 v1) := Lib.hid ((Hb.out.alloc _).app hg1 hz1); clear hg1 hz1)
      go_ret
      refine ret_grew rfl hown1 ?_ ?_ Hb1.out
      · rw [E.out]; rfl
      · rw [E.out, byteCells_app, ← List.append_assoc]

end Go.Proofs.Ytdfhnjocpfjagaa
