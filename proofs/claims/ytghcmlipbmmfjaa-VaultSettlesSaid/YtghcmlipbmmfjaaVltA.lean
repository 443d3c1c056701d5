/- A machine for the laws of layer 8: a text to which each command adds itself. Condition: texts shorter than a million bytes. -/
import Derived.Test.YtghcmlipbmmfjaaDskN
import Derived.Test.YtghcmlipbmmfjaaDskI
import Derived.Test.YtghcmlipbmmfjaaConv
import Derived.Handy
namespace Go.Proofs.Ytghcmlipbmmfjaa
open Go.RowKit
open Go.Lib (strCells)

def tenD : ByteArray := ⟨#[48, 49, 50, 51, 52, 53, 54, 55, 56, 57]⟩
def dig1 (n : Nat) : ByteArray := tenD.extract n (n + 1)
def digF : Nat → Nat → ByteArray → ByteArray
  | 0, n, s => dig1 n ++ s
  | f + 1, n, s => if 9 < n then digF f (n / 10) (dig1 (n % 10) ++ s) else dig1 n ++ s
/-- a number as a text -/
def digS (n : Nat) : ByteArray := digF n n ⟨#[]⟩
theorem digF_more : ∀ (f n : Nat) (s : ByteArray), n ≤ f → digF f n s = digF n n s
  | 0, n, s, h => by
    obtain rfl : n = 0 := by omega
    rfl
  | f + 1, n, s, h => by
    cases n with
    | zero => rfl
    | succ n =>
      unfold digF
      by_cases h9 : 9 < n + 1
      · rw [if_pos h9, if_pos h9, digF_more f _ _ (by omega), digF_more n _ _ (by omega)]
      · rw [if_neg h9, if_neg h9]
theorem digF_next (n : Nat) (s : ByteArray) (h : 9 < n) : digF n n s = digF (n / 10) (n / 10) (dig1 (n % 10) ++ s) := by
  obtain ⟨k, rfl⟩ : ∃ k, n = k + 1 := ⟨n - 1, by omega⟩
  conv => lhs; unfold digF
  rw [if_pos h, digF_more k _ _ (by omega)]
theorem digF_last (n : Nat) (s : ByteArray) (h : n ≤ 9) : digF n n s = dig1 n ++ s := by
  cases n with
  | zero => rfl
  | succ k =>
    unfold digF
    rw [if_neg (by omega)]
theorem dig1_size (n : Nat) (h : n ≤ 9) : (dig1 n).size = 1 := by
  unfold dig1 tenD
  rw [ByteArray.size_extract]
  show min (n + 1) 10 - n = 1
  omega
theorem digits_any (n : Nat) (w : World) (h : n ≤ 1000000) : Calls Try.prog 12 #[.int .i64 (n : Int)] w fun e w' => e = .returned (.string (digS n)) ∧ w = w' := by
  go_enter Try.func12, Try.ntmps12
  go_wp2
  go_loop [0, 3] (fun x y => ∃ (m : Nat) (s : ByteArray), x = .int .i64 (m : Int) ∧ y = .string s ∧ m + s.size ≤ n ∧ Hid (digF m m s = digS n)) (fun x _ => (intOf x).toNat)
  case atStart => exact ⟨n, _, rfl, rfl, by simp [ByteArray.size], Lib.hid rfl⟩
  case round =>
    obtain ⟨m, s, rfl, rfl, hms, Hd⟩ := hrel
    by_cases h9 : 9 < m
    · have hd : (dig1 (m % 10)).size = 1 := dig1_size _ (by omega)
      go_wp2
      refine ⟨⟨m / 10, dig1 (m % 10) ++ s, by rw [show ((m : Int) / 10) = ((m / 10 : Nat) : Int) from by omega], rfl, ?_, Lib.hid (by rw [← digF_next m s h9]; exact Hd.out)⟩, by simp [intOf]; omega⟩
      rw [ByteArray.size_append, hd]
      omega
    · have hd : (dig1 m).size = 1 := dig1_size _ (by omega)
      go_wp2
      go_ret
      refine ⟨?_, rfl⟩
      rw [← Hd.out, digF_last m s (by omega)]
      rfl

/-- what commands make of an empty text -/
def allB : List ByteArray → ByteArray := fun l => l.foldl (fun s c => s ++ c ++ ⟨#[124]⟩) ⟨#[]⟩
theorem allB_snoc (l : List ByteArray) (c : ByteArray) : allB (l ++ [c]) = allB l ++ c ++ ⟨#[124]⟩ := by simp [allB]
/-- a tape: its text -/
def Tape (w : World) (tb : Nat) (T : ByteArray) : Prop := ∃ x : Int, Box w tb 37 #[.string T, .int .i64 x]
theorem tape_do {tb : Nat} {T : ByteArray} (cmd : ByteArray) {w : World} (h : Tape w tb T) (h1 : T.size ≤ 1000000) (h2 : cmd.size ≤ 1000000) : Calls Try.prog 60 #[.pointer (some ⟨tb, 0, none⟩), .string cmd] w fun e w' => e = .returned (.string (digS T.size)) ∧ Tape w' tb (T ++ cmd ++ ⟨#[124]⟩) ∧ Keeps (fun g => g = tb) w w' ∧ w'.heap.size = w.heap.size := by
  obtain ⟨x, hb⟩ := h
  have q0 := hb.cell 0
  have q1 := hb.cell 1
  have f0 := hb.frozen 0
  have f1 := hb.frozen 1
  obtain ⟨w1, hw1⟩ : ∃ w1, w.setCell ⟨tb, 0, none⟩ (.string (T ++ cmd ++ ⟨#[124]⟩)) = w1 := ⟨_, rfl⟩
  have hb1 : Box w1 tb 37 #[.string (T ++ cmd ++ ⟨#[124]⟩), .int .i64 x] := hw1 ▸ hb.set_ 0 _
  have p0 := hb1.cell 0
  have p1 := hb1.cell 1
  have g1 := hb1.frozen 1
  obtain ⟨w2, hw2⟩ : ∃ w2, w1.setCell ⟨tb, 1, none⟩ (.int .i64 (wrap64 (x + 1))) = w2 := ⟨_, rfl⟩
  have hend : Hid (Tape w2 tb (T ++ cmd ++ ⟨#[124]⟩) ∧ Keeps (fun g => g = tb) w w2 ∧ w2.heap.size = w.heap.size) := Lib.hid (by
    subst hw2
    subst hw1
    exact ⟨⟨_, hb1.set_ 1 _⟩, Keeps.trans (D := fun g => g = tb) (D' := fun g => g = tb) (Keeps.set rfl) (Keeps.set rfl) fun g hg => .inl hg, by simp [World.setCell]⟩)
  clear hb hb1
  go_enter Try.func60, Try.ntmps60
  go_wp2_with fail
  refine (digits_any T.size w2 h1).mono ?_
  rintro e w' ⟨rfl, rfl⟩
  go_wp2
  go_ret
  exact ⟨rfl, hend.out⟩
theorem tape_save {tb : Nat} {T : ByteArray} {w : World} (h : Tape w tb T) (h1 : T.size ≤ 1000000) : Calls Try.prog 62 #[.pointer (some ⟨tb, 0, none⟩)] w fun e w' => e = .returned (.string (⟨#[61]⟩ ++ T)) ∧ w = w' := by
  obtain ⟨x, hb⟩ := h
  have q0 := hb.cell 0
  clear hb
  go_enter Try.func62, Try.ntmps62
  go_wp2
  go_ret
  exact ⟨rfl, rfl⟩
theorem ba_ext {a b : ByteArray} (h : a.data.toList = b.data.toList) : a = b := by
  obtain ⟨⟨a⟩⟩ := a
  obtain ⟨⟨b⟩⟩ := b
  simp only at h
  rw [h]
theorem ba_end (s : ByteArray) (a : Nat) : s.extract a s.size = ⟨(s.data.toList.drop a).toArray⟩ := by
  apply ba_ext
  rw [Lib.extract_data, List.take_of_length_le (by rw [List.length_drop, ← Lib.size_eq]; omega)]
theorem ba_at (s : ByteArray) (k : Nat) (h : k < s.size) : s[k] = s.data.toList[k]?.getD 0 := by
  have h' : k < s.data.toList.length := by rw [← Lib.size_eq]; exact h
  simp [List.getElem?_eq_getElem h']
  rfl
theorem tape_load {tb : Nat} {T : ByteArray} {w : World} (h : Tape w tb T) (st : ByteArray) (c : UInt8) (r : List UInt8) (hst : st.data.toList = c :: r) (hr : r.length ≤ 1000000) : Calls Try.prog 61 #[.pointer (some ⟨tb, 0, none⟩), .string st] w fun e w' => e = .returned (.bool (decide (c = 61))) ∧ Tape w' tb (if c = 61 then ⟨r.toArray⟩ else T) ∧ Keeps (fun g => g = tb) w w' ∧ w'.heap.size = w.heap.size := by
  obtain ⟨x, hb⟩ := h
  have f0 := hb.frozen 0
  have q0 := hb.cell 0
  have hsz : st.size = r.length + 1 := by rw [Lib.size_eq, hst]; rfl
  have h0 : 0 < st.size := by omega
  have hc0 : st[0] = c := by rw [ba_at st 0 h0, hst]; rfl
  have he : st.extract 1 st.size = ⟨r.toArray⟩ := by rw [ba_end, hst]; rfl
  have hne0 : (st.toList == []) = false := by rw [Lib.toList_data, hst]; rfl
  have h1s : (1 : Int) ≤ (st.size : Int) := by omega
  have hss : (st.size : Int) ≤ 1000001 := by omega
  have Hend : Hid (Tape (w.setCell ⟨tb, 0, none⟩ (.string ⟨r.toArray⟩)) tb ⟨r.toArray⟩ ∧ Keeps (fun g => g = tb) w (w.setCell ⟨tb, 0, none⟩ (.string ⟨r.toArray⟩)) ∧ (w.setCell ⟨tb, 0, none⟩ (.string ⟨r.toArray⟩)).heap.size = w.heap.size) := Lib.hid ⟨⟨_, hb.set_ 0 _⟩, Keeps.set rfl, by simp [World.setCell]⟩
  have Hkeep : Hid (Tape w tb T ∧ Keeps (fun g => g = tb) w w) := Lib.hid ⟨⟨_, hb⟩, Keeps.of (Below.refl _ _)⟩
  clear hb hst hsz
  by_cases hc : c = 61
  · subst hc
    go_enter Try.func61, Try.ntmps61
    go_wp2
    go_ret
    exact ⟨rfl, Hend.out⟩
  · have hne : ((c.toNat : Int) != 61) = true := by
      have : c.toNat ≠ 61 := fun e => hc (UInt8.toNat_inj.1 e)
      simp
      omega
    go_enter Try.func61, Try.ntmps61
    go_wp2
    go_ret
    exact ⟨rfl, Hkeep.out.1, Hkeep.out.2, rfl⟩
end Go.Proofs.Ytghcmlipbmmfjaa
