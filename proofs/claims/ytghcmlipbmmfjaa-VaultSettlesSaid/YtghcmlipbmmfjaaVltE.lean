/- The vault's Open, and the laws' opened. Condition: a disk in memory, of at most a million bytes. -/
import Derived.Test.YtghcmlipbmmfjaaVltD
namespace Go.Proofs.Ytghcmlipbmmfjaa
open Go.RowKit
open Go.Lib (strCells)

section
variable {w : World} {B vb sb tb : Nat} {E : Nat → Prop} {S : DState} {T : ByteArray} {c : Nat}
theorem start_on (h : Disk w B sb E S) (hon : S.on = true) : Calls Try.prog 21 #[.pointer (some ⟨sb, 0, none⟩)] w fun e w' => e = .returned (.tuple #[.slice none 0 0, .slice none 0 0, .int .i64 8]) ∧ w = w' := by
  obtain ⟨cp, lg, ws, h, hD⟩ := h
  obtain ⟨-, q1, -⟩ := h.cells
  rw [hon] at q1
  clear h hD
  go_enter Try.func21, Try.ntmps21
  go_wp2
  go_ret3
  exact ⟨rfl, rfl⟩
/-- a disk that is on is not opened -/
theorem open_on (h : Disk w B sb E S) (hon : S.on = true) (m : Value) : Calls Try.prog 23 #[.pointer (some ⟨sb, 0, none⟩), m] w fun e w' => e = .returned (.tuple #[.pointer none, .int .i64 8]) ∧ w = w' := by
  have Hs := Lib.hid (start_on h hon)
  clear h
  go_enter Try.func23, Try.ntmps23
  go_wp2_with fail
  refine Hs.out.mono ?_
  rintro e w' ⟨rfl, rfl⟩
  go_wp2
  go_ret2
  exact ⟨rfl, rfl⟩
/-- what Open leaves of a checkpoint -/
def startT (C : List UInt8) (T : ByteArray) : ByteArray := if C = [] then T else ⟨(C.drop 1).toArray⟩
def startS (S : DState) : DState := { S with on := true, L := S.L.take (scanT S.L).2, k := false }
theorem OwnRs.tape {w w' : World} {B tb : Nat} {v : Value} {rs : Brs} {T : ByteArray} (h : OwnRs w B v rs) (hk : Keeps (fun g => g = tb) w w') (ht : Tape w tb T) : OwnRs w' B v rs := by
  obtain ⟨x, hx⟩ := ht
  have far : ∀ (m : Nat) (e : TypeId) (u : Value) (xs : List Value), w.ownsRow B e 1 u m xs → e ≠ 37 → w'.ownsRow B e 1 u m xs := fun m e u xs ho h2 => own_keep1 ho fun g hg => hk.block g (ho.lt g hg).2 fun e' => box_ne hx (fun e => h2 e.symm) ho hg e'
  exact ⟨far _ _ _ _ h.own (by decide), fun r hr => far _ _ _ _ (h.rows r hr) (by decide), h.apart⟩
theorem tape_load61 {tb : Nat} {T : ByteArray} {w : World} (h : Tape w tb T) (st : ByteArray) (r : List UInt8) (hst : st.data.toList = 61 :: r) (hr : r.length ≤ 1000000) : Calls Try.prog 61 #[.pointer (some ⟨tb, 0, none⟩), .string st] w fun e w' => e = .returned (.bool true) ∧ Tape w' tb ⟨r.toArray⟩ ∧ Keeps (fun g => g = tb) w w' ∧ w'.heap.size = w.heap.size :=
  (tape_load h st 61 r hst hr).mono fun _ _ h => h
/-- behind Start, and what is done with the tape, the vault is made -/
theorem open_mid {w w1 w2 : World} {cp lg ws : Value} {S1 : DState} {T1 T2 : ByteArray} (h : Dsk w B sb cp lg ws S) (hD : ∀ g, DBlk sb cp lg ws g → E g) (hE : E tb) (h1 : Disk w1 B sb (DBlk sb cp lg ws) S1) (hk1 : Keeps (DBlk sb cp lg ws) w w1) (ht : Tape w tb T1) (ht2 : Tape w2 tb T2) (hk2 : Keeps (fun g => g = tb) w1 w2) :
    Vlt (w2.alloc (.cells #[.pointer (some ⟨sb, 0, none⟩), tapeV tb, .int .i64 0] 62)) B w2.heap.size sb tb (Up E w (w2.alloc (.cells #[.pointer (some ⟨sb, 0, none⟩), tapeV tb, .int .i64 0] 62))) S1 T2 0 ∧ Keeps E w (w2.alloc (.cells #[.pointer (some ⟨sb, 0, none⟩), tapeV tb, .int .i64 0] 62)) ∧
      ∀ v rs, OwnRs w1 w.heap.size v rs → OwnRs (w2.alloc (.cells #[.pointer (some ⟨sb, 0, none⟩), tapeV tb, .int .i64 0] 62)) w.heap.size v rs := by
  have hd2 : Disk w2 B sb (DBlk sb cp lg ws) S1 := h1.kept hk2 fun g _ hg e => by
    obtain ⟨x, hx⟩ := ht
    exact vault_far h hx (by decide) (by decide) (by decide) (e ▸ hg)
  have ht1 : Tape w1 tb T1 := ht.kept hk1 (by obtain ⟨x, hx⟩ := ht; exact vault_far h hx (by decide) (by decide) (by decide))
  have hb3 := dsk_alloc w2 (.cells #[.pointer (some ⟨sb, 0, none⟩), tapeV tb, .int .i64 0] 62)
  have hkE : Keeps E w w2 := Keeps.trans (D := E) (D' := E) ⟨hk1.os, hk1.tape, hk1.output, hk1.size, fun i hi hn => hk1.block i hi fun e => hn (hD i e)⟩ ⟨hk2.os, hk2.tape, hk2.output, hk2.size, fun i hi hn => hk2.block i hi fun e => hn (e ▸ hE)⟩ fun g hg => .inl hg
  have hsz := hkE.size
  refine ⟨⟨(hd2.below hb3).more fun g hg => .inl (hD g hg), Box.made _ _ _, ht2.kept (Keeps.of (D := fun _ => False) hb3) (fun e => e), .inr ⟨hsz, by simp⟩, .inl hE⟩, hkE.trans (Keeps.of (D := E) hb3) fun g hg => .inl hg, fun v rs hv => ?_⟩
  exact (hv.tape hk2 ht1).kept fun g _ hg => hb3.block g hg

theorem open_end {w w3 w4 : World} {v0 tb0 c0 : Nat} {T3 : ByteArray} (h3 : Keeps E w w3) (h4 : Vlt w4 B v0 sb tb0 (Up E w w3) S T3 c0) (hk4 : Keeps (fun g => g = v0 ∨ g = tb0) w3 w4) (hv0 : Up E w w3 v0) (ht0 : Up E w w3 tb0) : Vlt w4 B v0 sb tb0 (Up E w w4) S T3 c0 ∧ Keeps E w w4 := by
  have hs3 := h3.size
  have hs4 := hk4.size
  refine ⟨h4.more fun g hg => ?_, h3.trans hk4 fun g hg => ?_⟩
  · rcases hg with e | e
    · exact .inl e
    · exact .inr (by omega)
  · rcases hg with e | e
    · exact e ▸ hv0
    · exact e ▸ ht0
theorem open_bad (h : Disk w B sb E S) (hoff : S.on = false) (ht : Tape w tb T) (hL : S.L.length ≤ 1000000) (hC : S.C.length ≤ 1000000) (ch : UInt8) (r : List UInt8) (hc : S.C = ch :: r) (hne : ch ≠ 61) :
    Calls Try.prog 23 #[.pointer (some ⟨sb, 0, none⟩), tapeV tb] w fun e w' => e = .returned (.tuple #[.pointer none, .int .i64 3]) ∧ Disk w' B sb E (startS S) ∧ Keeps (fun g => E g ∨ g = tb) w w' := by
  obtain ⟨cp, lg, ws, hd, hD⟩ := h
  have Hs := Lib.hid (start_any (D := DBlk sb cp lg ws) (z := false) ⟨cp, lg, ws, hd, fun g hg => hg, fun e => by cases e⟩ hoff hL hC)
  have Hd := Lib.hid hd
  have HD := Lib.hid hD
  have Ht := Lib.hid ht
  have hrl : r.length ≤ 1000000 := by rw [hc, List.length_cons] at hC; omega
  have Hc := Lib.hid hc
  clear hd hD ht hc hC
  go_enter Try.func23, Try.ntmps23
  go_wp2_with fail
  refine Hs.out.mono ?_
  rintro e w1 ⟨s, v, rs, m, rfl, hd1, hown, hl, hs, hk1, hm, -, -⟩
  obtain ⟨As, cs, rfl, hcs, hcm, hhs⟩ := own_slice hs
  have hfar : ¬ DBlk sb cp lg ws tb := by
    obtain ⟨x, hx⟩ := Ht.out
    exact vault_far Hd.out hx (by decide) (by decide) (by decide)
  have ht1 := Ht.out.kept hk1 hfar
  rw [Hc.out] at hhs hcs ⊢
  have kc := string_run (l := ch :: r) hhs cs
  rw [List.length_cons] at kc
  have Hld := Lib.hid (tape_load ht1 ⟨(ch :: r).toArray⟩ ch r rfl hrl)
  have Hd1 := Lib.hid hd1
  have Hk1 := Lib.hid hk1
  have hl0 : (0 : Int) < ((ch :: r).length : Int) := by simp
  clear hs hhs hown hl hd1 hk1 ht1 hm
  go_wp2_with fail
  refine Hld.out.mono ?_
  rw [decide_eq_false hne, if_neg hne]
  rintro e w2 ⟨rfl, ht2, hk2, hs2⟩
  go_wp2
  go_ret2
  refine ⟨rfl, (Hd1.out.kept hk2 fun g _ hg e => hfar (e ▸ hg)).more HD.out, ?_⟩
  exact Keeps.trans (D' := fun g => E g ∨ g = tb) ⟨Hk1.out.os, Hk1.out.tape, Hk1.out.output, Hk1.out.size, fun i hi hn => Hk1.out.block i hi fun e => hn (.inl (HD.out i e))⟩ ⟨hk2.os, hk2.tape, hk2.output, hk2.size, fun i hi hn => hk2.block i hi fun e => hn (.inr e)⟩ fun g hg => .inl hg
theorem open_empty (h : Disk w B sb E S) (hoff : S.on = false) (ht : Tape w tb T) (hE : E tb) (hL : S.L.length ≤ 1000000) (hc : S.C = []) (hT : T.size + bulk (scanT S.L).1 ≤ 1000000) :
    Calls Try.prog 23 #[.pointer (some ⟨sb, 0, none⟩), tapeV tb] w fun e w' => ∃ vb, e = .returned (.tuple #[.pointer (some ⟨vb, 0, none⟩), .int .i64 0]) ∧ Vlt w' B vb sb tb (Up E w w') (startS S) (allF T (scanT S.L).1) (scanT S.L).1.length ∧ Keeps E w w' := by
  obtain ⟨cp, lg, ws, hd, hD⟩ := h
  have Hs := Lib.hid (start_any (D := DBlk sb cp lg ws) (z := false) ⟨cp, lg, ws, hd, fun g hg => hg, fun e => by cases e⟩ hoff hL (by rw [hc]; simp))
  have Hd := Lib.hid hd
  have HD := Lib.hid hD
  have Ht := Lib.hid ht
  have HE := Lib.hid hE
  have HT := Lib.hid hT
  have Hc := Lib.hid hc
  clear hd hD ht hc hE hT
  have hmf : ∀ (fn : Fn) (first cap : Array Value) (w : World), (Instr.makeFunc fn first cap).run Try.prog w = .ok (.func fn first cap) w := fun _ _ _ _ => rfl
  go_enter Try.func23, Try.ntmps23
  go_wp2_with fail
  refine Hs.out.mono ?_
  rintro e w1 ⟨s, v, rs, m, rfl, hd1, hown, hl, hs, hk1, hm, -, -⟩
  obtain ⟨As, cs, rfl, hcs, hcm, hhs⟩ := own_slice hs
  have hfar : ¬ DBlk sb cp lg ws tb := by
    obtain ⟨x, hx⟩ := Ht.out
    exact vault_far Hd.out hx (by decide) (by decide) (by decide)
  have ht1 := Ht.out.kept hk1 hfar
  have hmid := open_mid Hd.out HD.out HE.out hd1 hk1 Ht.out ht1 (Keeps.of (Below.refl _ _))
  have hrows := hmid.2.2 v rs hown
  have hbl : bulk (brLists rs) = bulk (scanT S.L).1 := by rw [hl]
  have hlen : rs.length = (scanT S.L).1.length := by rw [← hl, brLists_len]
  have hbb := bulk_len (scanT S.L).1
  have hTT := HT.out
  have Hag := Lib.hid (again_any hmid.1 hrows (by omega) (by omega))
  have Hmid := Lib.hid hmid
  have Hl := Lib.hid hl
  have Hlen := Lib.hid hlen
  rw [Hc.out]
  clear hs hhs hown hl hd1 hk1 ht1 hm hmid hrows hbl hlen hbb hTT
  go_wp2_with fail
  refine Hag.out.mono ?_
  rintro e w4 ⟨rfl, hv4, hk4, hs4⟩
  have hend := open_end Hmid.out.2.1 hv4 hk4 Hmid.out.1.ev Hmid.out.1.et
  rw [Hl.out, Hlen.out, Nat.zero_add] at hend
  have Hend := Lib.hid hend
  clear hend hv4 hk4 hs4
  go_wp2
  go_ret2
  exact ⟨_, rfl, Hend.out⟩
theorem open_state (h : Disk w B sb E S) (hoff : S.on = false) (ht : Tape w tb T) (hE : E tb) (hL : S.L.length ≤ 1000000) (r : List UInt8) (hc : S.C = 61 :: r) (hT : r.length + bulk (scanT S.L).1 ≤ 100000) :
    Calls Try.prog 23 #[.pointer (some ⟨sb, 0, none⟩), tapeV tb] w fun e w' => ∃ vb, e = .returned (.tuple #[.pointer (some ⟨vb, 0, none⟩), .int .i64 0]) ∧ Vlt w' B vb sb tb (Up E w w') (startS S) (allF ⟨r.toArray⟩ (scanT S.L).1) (scanT S.L).1.length ∧ Keeps E w w' := by
  obtain ⟨cp, lg, ws, hd, hD⟩ := h
  have Hs := Lib.hid (start_any (D := DBlk sb cp lg ws) (z := false) ⟨cp, lg, ws, hd, fun g hg => hg, fun e => by cases e⟩ hoff hL (by rw [hc, List.length_cons]; omega))
  have Hd := Lib.hid hd
  have HD := Lib.hid hD
  have Ht := Lib.hid ht
  have HE := Lib.hid hE
  have HT := Lib.hid hT
  have hrl : r.length ≤ 1000000 := by omega
  have Hc := Lib.hid hc
  clear hd hD ht hc hE hT
  have hmf : ∀ (fn : Fn) (first cap : Array Value) (w : World), (Instr.makeFunc fn first cap).run Try.prog w = .ok (.func fn first cap) w := fun _ _ _ _ => rfl
  go_enter Try.func23, Try.ntmps23
  go_wp2_with fail
  refine Hs.out.mono ?_
  rintro e w1 ⟨s, v, rs, m, rfl, hd1, hown, hl, hs, hk1, hm, -, -⟩
  obtain ⟨As, cs, rfl, hcs, hcm, hhs⟩ := own_slice hs
  have hfar : ¬ DBlk sb cp lg ws tb := by
    obtain ⟨x, hx⟩ := Ht.out
    exact vault_far Hd.out hx (by decide) (by decide) (by decide)
  have ht1 := Ht.out.kept hk1 hfar
  rw [Hc.out] at hhs hcs ⊢
  have kc := string_run (l := 61 :: r) hhs cs
  rw [List.length_cons] at kc
  have Hld := Lib.hid (tape_load61 ht1 ⟨(61 :: r).toArray⟩ r rfl hrl)
  have Hd1 := Lib.hid hd1
  have Hk1 := Lib.hid hk1
  have Hown := Lib.hid hown
  have Hl := Lib.hid hl
  have hl0 : (0 : Int) < (((61 : UInt8) :: r).length : Int) := by simp
  clear hs hhs hown hl hd1 hk1 ht1 hm
  go_wp2_with fail
  refine Hld.out.mono ?_
  rintro e w2 ⟨rfl, ht2, hk2, hs2⟩
  have hmid := open_mid Hd.out HD.out HE.out Hd1.out Hk1.out Ht.out ht2 hk2
  have hrows := hmid.2.2 v rs Hown.out
  have hbl : bulk (brLists rs) = bulk (scanT S.L).1 := by rw [Hl.out]
  have hlen : rs.length = (scanT S.L).1.length := by rw [← Hl.out, brLists_len]
  have hbb := bulk_len (scanT S.L).1
  have hTT := HT.out
  have hrs : (ByteArray.mk r.toArray).size = r.length := by simp [ByteArray.size]
  have Hag := Lib.hid (again_any hmid.1 hrows (by omega) (by omega))
  have Hmid := Lib.hid hmid
  have Hlen := Lib.hid hlen
  clear ht2 hk2 hs2 hmid hrows hbl hlen hbb hTT hrs
  go_wp2_with fail
  refine Hag.out.mono ?_
  rintro e w4 ⟨rfl, hv4, hk4, hs4⟩
  have hend := open_end Hmid.out.2.1 hv4 hk4 Hmid.out.1.ev Hmid.out.1.et
  rw [Hl.out, Hlen.out, Nat.zero_add] at hend
  have Hend := Lib.hid hend
  clear hend hv4 hk4 hs4
  go_wp2
  go_ret2
  exact ⟨_, rfl, Hend.out⟩
end
end Go.Proofs.Ytghcmlipbmmfjaa
