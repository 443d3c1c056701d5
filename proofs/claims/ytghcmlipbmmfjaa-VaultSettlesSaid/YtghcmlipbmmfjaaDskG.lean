/- The disk's calls as the laws make them: below the law's own memory nothing turns. Condition: a disk in memory, of at most a million bytes. -/
import Derived.Test.YtghcmlipbmmfjaaDskF
namespace Go.Proofs.Ytghcmlipbmmfjaa
open Go.RowKit
open Go.Lib (strCells)

/-- behind some calls the disk is S, and below b nothing has turned since w -/
structure After (b sb : Nat) (w : World) (S : DState) (wr : World) : Prop where
  disk : Disk wr b sb (fun g => b ≤ g) S
  below : Below b w wr
  old : b ≤ w.heap.size
theorem After.size {b sb : Nat} {w wr : World} {S : DState} (h : After b sb w S wr) : b ≤ wr.heap.size := Nat.le_trans h.old h.below.size
theorem After.more {b sb : Nat} {w wr w' : World} {S : DState} (h : After b sb w S wr) (hb : Below wr.heap.size wr w') : After b sb w S w' := ⟨h.disk.below hb, h.below.trans (hb.mono h.size), h.old⟩
theorem After.eq {b sb : Nat} {w wr : World} {S S' : DState} (h : After b sb w S wr) (e : S = S') : After b sb w S' wr := e ▸ h
theorem After.drew {b sb : Nat} {w wr : World} {S : DState} (h : After b sb w S wr) (m : Nat) : After b sb w S (wr.drewN m) := h.more (below_drews (Below.refl _ _) m)
theorem After.op {b sb : Nat} {w wr w' : World} {S S' : DState} (h : After b sb w S wr) (hd : Disk w' b sb (Up (fun g => b ≤ g) wr w') S') (hk : Keeps (fun g => b ≤ g) wr w') : After b sb w S' w' :=
  ⟨hd.more fun _ hg => by
    rcases hg with hg | hg
    · exact hg
    · have := h.size; omega, h.below.trans (hk.below (fun _ hg => hg) h.size), h.old⟩
theorem After.op0 {b sb : Nat} {w wr w' : World} {S S' : DState} (h : After b sb w S wr) (hd : Disk w' b sb (fun g => b ≤ g) S') (hk : Keeps (fun g => b ≤ g) wr w') : After b sb w S' w' :=
  ⟨hd, h.below.trans (hk.below (fun _ hg => hg) h.size), h.old⟩

theorem new_law (n b : Nat) (w wr : World) (hn : n ≤ 4194304) (hb : Below b w wr) (ho : b ≤ w.heap.size) :
    Calls Try.prog 9 #[.int .i64 (n : Int)] wr fun e w' => ∃ sb, e = .returned (.tuple #[.pointer (some ⟨sb, 0, none⟩), .int .i64 0]) ∧ DiskZ w' b sb (fun g => b ≤ g) true ⟨n, false, [], [], [], true⟩ ∧ Below b w w' := by
  have hs : b ≤ wr.heap.size := Nat.le_trans ho hb.size
  refine (new_any n b wr hn hs).mono ?_
  rintro e w' ⟨rfl, hd, h2⟩
  exact ⟨_, rfl, hd.more fun _ hg => Nat.le_trans hs hg.1, hb.trans (h2.mono hs)⟩
theorem start0_law {n b sb : Nat} {w wr : World} (h : DiskZ wr b sb (fun g => b ≤ g) true ⟨n, false, [], [], [], true⟩) (hb : Below b w wr) (ho : b ≤ w.heap.size) :
    Calls Try.prog 21 #[.pointer (some ⟨sb, 0, none⟩)] wr fun e w' => ∃ s v, e = .returned (.tuple #[s, v, .int .i64 0]) ∧ After b sb w ⟨n, true, [], [], [], true⟩ w' := by
  have hs : b ≤ wr.heap.size := Nat.le_trans ho hb.size
  refine (start_any h rfl (by simp) (by simp)).mono ?_
  rintro e w' ⟨s, v, rs, m, rfl, hd, _, _, _, hk, _⟩
  exact ⟨s, v, rfl, hd.eq (by simp), hb.trans (hk.below (fun _ hg => hg) hs), ho⟩
section
variable {b sb : Nat} {w wr : World} {S : DState}
theorem start_law (h : After b sb w S wr) (hoff : S.on = false) (hL : S.L.length ≤ 1000000) (hC : S.C.length ≤ 1000000) :
    Calls Try.prog 21 #[.pointer (some ⟨sb, 0, none⟩)] wr fun e w' => ∃ s v rs, e = .returned (.tuple #[s, v, .int .i64 0]) ∧ After b sb w { S with on := true, L := S.L.take (scanT S.L).2, k := false } w' ∧ OwnRs w' wr.heap.size v rs ∧ brLists rs = (scanT S.L).1 := by
  refine (start_any h.disk.z hoff hL hC).mono ?_
  rintro e w' ⟨s, v, rs, m, rfl, hd, hown, hl, _, hk, _⟩
  exact ⟨s, v, rs, rfl, h.op0 hd hk, hown, hl⟩
theorem append_law (h : After b sb w S wr) (hon : S.on = true) (hk : S.k = true) (A : Option Addr) (n c Bl : Nat) (l : List UInt8) (hh : HasBytes wr Bl A n l) (hB : Bl ≤ wr.heap.size) (hn : n ≤ 65536) (hC : S.C.length ≤ 1000000) (hL : S.L.length ≤ 1000000) (hW : S.W.length ≤ 1000000) (hf : S.used + (8 + n) ≤ S.room) :
    Calls Try.prog 26 #[.pointer (some ⟨sb, 0, none⟩), .slice A n c] wr fun e w' => e = .returned (.int .i64 0) ∧ After b sb w { S with L := S.L ++ frameOf l, W := S.W ++ [S.L.length] } w' := by
  refine (append_ok h.disk hon hk A n c Bl l hh hB hn hC hL hW hf).mono ?_
  rintro e w' ⟨rfl, hd, hk⟩
  exact ⟨rfl, h.op hd hk⟩
theorem appendFull_law (h : After b sb w S wr) (hon : S.on = true) (A : Option Addr) (n c Bl : Nat) (l : List UInt8) (hh : HasBytes wr Bl A n l) (hB : Bl ≤ wr.heap.size) (hn : n ≤ 65536) (hC : S.C.length ≤ 1000000) (hL : S.L.length ≤ 1000000) (hf : S.room < S.used + (8 + n)) :
    Calls Try.prog 26 #[.pointer (some ⟨sb, 0, none⟩), .slice A n c] wr fun e w' => e = .returned (.int .i64 6) ∧ After b sb w S w' := by
  refine (append_full h.disk hon A n c Bl l hh hB hn hC hL hf).mono ?_
  rintro e w' ⟨rfl, hb⟩
  exact ⟨rfl, h.more hb⟩
theorem sync_law (h : After b sb w S wr) (hon : S.on = true) : Calls Try.prog 28 #[.pointer (some ⟨sb, 0, none⟩)] wr fun e w' => e = .returned (.int .i64 0) ∧ After b sb w { S with W := [] } w' := by
  refine (sync_any h.disk hon).mono ?_
  rintro e w' ⟨rfl, hd, hk, _⟩
  exact ⟨rfl, h.op0 hd hk⟩
theorem crashAll_law (h : After b sb w S wr) (hon : S.on = true) (keep torn : Int) (K : Nat) (hK : (if keep < 0 then 0 else keep) = (K : Int)) (hW : S.W.length ≤ K) :
    Calls Try.prog 15 #[.pointer (some ⟨sb, 0, none⟩), .int .i64 keep, .int .i64 torn] wr fun e w' => e = .returned (.tuple #[]) ∧ After b sb w { S with on := false, W := [] } w' := by
  refine (crash_all h.disk hon keep torn K hK hW).mono ?_
  rintro e w' ⟨rfl, hd, hk, _⟩
  exact ⟨rfl, h.op0 hd hk⟩
theorem crashAt_law (h : After b sb w S wr) (hon : S.on = true) (keep torn : Int) (K p e T t : Nat) (hK : (if keep < 0 then 0 else keep) = (K : Int)) (hW : S.W.length ≤ 1000000) (hb : S.W[K]? = some p) (he1 : K + 1 < S.W.length → S.W[K + 1]? = some e) (he2 : S.W.length = K + 1 → S.L.length = e) (hbe : p < e) (heL : e ≤ S.L.length) (hL : S.L.length ≤ 1000000)
    (hT : (if torn < 0 then 0 else torn) = (T : Int)) (ht : t = min T (e - 1 - p)) :
    Calls Try.prog 15 #[.pointer (some ⟨sb, 0, none⟩), .int .i64 keep, .int .i64 torn] wr fun e w' => e = .returned (.tuple #[]) ∧ After b sb w { S with on := false, L := S.L.take (p + t), W := [], k := false } w' := by
  refine (crash_at h.disk hon keep torn K p e T t hK hW hb he1 he2 hbe heL hL hT ht).mono ?_
  rintro e w' ⟨rfl, hd, hk, _⟩
  exact ⟨rfl, h.op0 hd hk⟩
theorem used_law (h : After b sb w S wr) (hC : S.C.length ≤ 1000000) (hL : S.L.length ≤ 1000000) (j : Nat) :
    Calls Try.prog 20 #[.pointer (some ⟨sb, 0, none⟩)] (wr.drewN j) fun e w' => e = .returned (.int .i64 (S.used : Int)) ∧ ∃ m, w' = (wr.drewN j).drewN m := used_any (h.drew j).disk (by omega) (by omega)
theorem waiting_law (h : After b sb w S wr) (j : Nat) : Calls Try.prog 31 #[.pointer (some ⟨sb, 0, none⟩)] (wr.drewN j) fun e w' => e = .returned (.int .i64 (S.W.length : Int)) ∧ wr.drewN j = w' := waiting_any (h.drew j).disk
theorem checkpointBusy_law (h : After b sb w S wr) (hon : S.on = true) (hW : 0 < S.W.length) (v : Value) :
    Calls Try.prog 22 #[.pointer (some ⟨sb, 0, none⟩), v] wr fun e w' => e = .returned (.int .i64 10) ∧ wr = w' := checkpoint_busy h.disk hon hW v
theorem checkpointFull_law (h : After b sb w S wr) (hon : S.on = true) (hW : S.W = []) (A : Option Addr) (n c : Nat) (C : List UInt8) (hn : C.length = n) (hn1 : n ≤ 1000000) (hf : S.room < takenN C) :
    Calls Try.prog 22 #[.pointer (some ⟨sb, 0, none⟩), .slice A n c] wr fun e w' => e = .returned (.int .i64 6) ∧ After b sb w S w' := by
  refine (checkpoint_full h.disk hon hW A n c C hn hn1 hf).mono ?_
  rintro e w' ⟨rfl, m, rfl⟩
  exact ⟨rfl, h.drew m⟩
theorem checkpoint_law (h : After b sb w S wr) (hon : S.on = true) (hW : S.W = []) (A : Option Addr) (n c Bc : Nat) (C : List UInt8) (hh : HasBytes wr Bc A n C) (hBc : Bc ≤ wr.heap.size) (hn1 : n ≤ 1000000) (hf : takenN C ≤ S.room) :
    Calls Try.prog 22 #[.pointer (some ⟨sb, 0, none⟩), .slice A n c] wr fun e w' => e = .returned (.int .i64 0) ∧ After b sb w { S with C := C, L := [], k := true } w' := by
  have hn := hh.len
  subst hn
  refine (checkpoint_ok h.disk hon hW A c Bc C hh hBc hn1 hf).mono ?_
  rintro e w' ⟨rfl, hd, hk⟩
  exact ⟨rfl, h.op hd.disk hk⟩
end

end Go.Proofs.Ytghcmlipbmmfjaa
