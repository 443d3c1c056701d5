/- The disk in memory: its words, and how it stays. -/
import Derived.Test.YtghcmlipbmmfjaaFrmE
namespace Go.Proofs.Ytghcmlipbmmfjaa
open Go.RowKit
open Go.Lib (strCells)

def natCells (l : List Nat) : List Value := l.map fun (n : Nat) => Value.int .i64 (n : Int)
theorem natCells_app (a b : List Nat) : natCells (a ++ b) = natCells a ++ natCells b := by simp [natCells]
theorem natCells_len (a : List Nat) : (natCells a).length = a.length := by simp [natCells]

/-- bytes that begin a block of the call's own; the room may end ahead of the block's end -/
def CutRow (w : World) (B : Nat) (v : Value) (l : List UInt8) : Prop :=
  (v = .slice none 0 0 ∧ l = []) ∨ ∃ g cap cur, v = .slice (some ⟨g, 0, none⟩) l.length cap ∧ B ≤ g ∧ w.heap[g]? = some (.cells cur 5 (0, 0)) ∧ l.length ≤ cap ∧ cap ≤ maxLen ∧ cap ≤ cur.size ∧ cur.toList.take l.length = byteCells l
section
variable {w w' : World} {B : Nat} {v : Value} {l : List UInt8}
theorem CutRow.of_own (h : w.ownsRow B 5 1 v l.length (byteCells l)) : CutRow w B v l := by
  rcases h.2 with ⟨hv, hn⟩ | ⟨g, cap, cur, hv, hB, hg, h1, h2, h3, h4⟩
  · exact .inl ⟨hv, List.eq_nil_of_length_eq_zero hn⟩
  · exact .inr ⟨g, cap, cur, hv, hB, hg, h1, h2, by omega, by simpa using h4⟩
theorem CutRow.keep (h : CutRow w B v l) (hk : ∀ g, v.ownBlock = some g → w'.heap[g]? = w.heap[g]?) : CutRow w' B v l := by
  rcases h with h | ⟨g, cap, cur, rfl, hB, hg, rest⟩
  · exact .inl h
  · exact .inr ⟨g, cap, cur, rfl, hB, (hk g rfl).trans hg, rest⟩
theorem CutRow.type (h : CutRow w B v l) {g : Nat} (hg : v.ownBlock = some g) : B ≤ g ∧ ∃ cur, w.heap[g]? = some (.cells cur 5 (0, 0)) := by
  rcases h with ⟨rfl, _⟩ | ⟨g', cap, cur, rfl, hB, hh, rest⟩
  · cases hg
  · cases hg; exact ⟨hB, cur, hh⟩
theorem CutRow.slice (h : CutRow w B v l) : ∃ A c, v = .slice A l.length c ∧ l.length ≤ c ∧ c ≤ maxLen ∧ HasBytes w w.heap.size A l.length l := by
  rcases h with ⟨rfl, rfl⟩ | ⟨g, cap, cur, rfl, hB, hg, h1, h2, h3, h4⟩
  · exact ⟨none, 0, rfl, Nat.le_refl _, by simp [maxLen], Has.nil _ _ _⟩
  · refine ⟨_, cap, rfl, h1, h2, byteCells_length l, fun k u hu => ⟨_, rfl, (Array.getElem?_eq_some_iff.1 hg).1, ?_⟩⟩
    have e : (⟨g, 0, none⟩ : Addr).add k = ⟨g, k, none⟩ := by unfold Addr.add; split <;> simp_all
    rw [e, cell_of_row w g k cur _ _ hg]
    rw [← h4, List.getElem?_take] at hu
    split at hu
    · simpa using hu
    · cases hu
/-- its first bytes, the room ending behind them -/
theorem CutRow.cut (h : CutRow w B v l) {A : Option Addr} {c : Nat} (hv : v = .slice A l.length c) {n : Nat} (hn : n ≤ l.length) : CutRow w B (.slice A n n) (l.take n) := by
  have hl : (l.take n).length = n := by rw [List.length_take]; omega
  rcases h with ⟨rfl, rfl⟩ | ⟨g, cap, cur, rfl, hB, hg, h1, h2, h3, h4⟩
  · injection hv with hA hn' hc
    subst hA
    have : n = 0 := by simpa using hn
    subst this
    exact .inl ⟨rfl, rfl⟩
  · injection hv with hA hn' hc
    subst hA
    refine .inr ⟨g, n, cur, by rw [hl], hB, hg, by omega, by omega, by omega, ?_⟩
    rw [hl, ← byteCells_take, ← h4, List.take_take, Nat.min_eq_left hn]
end

/-- what a disk is: its room, whether it is on, its checkpoint, its log, where the frames that wait begin (k: the log's room is its block's) -/
structure DState where
  room : Nat
  on : Bool
  C : List UInt8
  L : List UInt8
  W : List Nat
  k : Bool
def takenN (C : List UInt8) : Nat := if C.length = 0 then 0 else 8 + C.length
def DState.used (S : DState) : Nat := takenN S.C + S.L.length

structure Dsk (w : World) (B sb : Nat) (cp lg ws : Value) (S : DState) : Prop where
  sB : B ≤ sb
  box : Box w sb 58 #[.int .i64 (S.room : Int), .bool S.on, cp, lg, ws]
  crow : w.ownsRow B 5 1 cp S.C.length (byteCells S.C)
  lrow : CutRow w B lg S.L
  lown : S.k = true → w.ownsRow B 5 1 lg S.L.length (byteCells S.L)
  wrow : w.ownsRow B 3 1 ws S.W.length (natCells S.W)
  apart : ∀ g, cp.ownBlock = some g → lg.ownBlock ≠ some g
/-- the disk's blocks -/
def DBlk (sb : Nat) (cp lg ws : Value) (g : Nat) : Prop := g = sb ∨ cp.ownBlock = some g ∨ lg.ownBlock = some g ∨ ws.ownBlock = some g
section
variable {w w' : World} {B sb : Nat} {cp lg ws : Value} {S : DState}
theorem box_ne {w : World} {g h m size : Nat} {t e : TypeId} {cs : Array Value} {v : Value} {xs : List Value} {B : Nat} (hb : Box w g t cs) (hne : t ≠ e) (ho : w.ownsRow B e size v m xs) (hh : v.ownBlock = some h) : h ≠ g := fun e' => by
  obtain ⟨cur, hc⟩ := own_type1 ho hh
  unfold Box at hb
  rw [e', hb] at hc
  injection hc with hc
  injection hc with _ ht _
  exact hne ht
theorem own_ne {w : World} {g h m size m' size' : Nat} {t e : TypeId} {v v' : Value} {xs xs' : List Value} {B B' : Nat} (ho : w.ownsRow B e size v m xs) (ho' : w.ownsRow B' t size' v' m' xs') (hne : t ≠ e) (hg : v.ownBlock = some g) (hh : v'.ownBlock = some h) : g ≠ h := fun e' => by
  obtain ⟨cur, hc⟩ := own_type1 ho hg
  obtain ⟨cur', hc'⟩ := own_type1 ho' hh
  rw [e', hc'] at hc
  injection hc with hc
  injection hc with _ ht _
  exact hne ht
theorem Dsk.logNe (h : Dsk w B sb cp lg ws S) {g : Nat} (hg : lg.ownBlock = some g) : g ≠ sb ∧ ws.ownBlock ≠ some g := by
  obtain ⟨_, cur, hc⟩ := h.lrow.type hg
  refine ⟨fun e => ?_, fun e => ?_⟩
  · have hb := h.box
    unfold Box at hb
    rw [e, hb] at hc
    injection hc with hc
    injection hc with _ ht _
    exact absurd ht (by decide)
  · obtain ⟨cur', hc'⟩ := own_type1 h.wrow e
    rw [hc'] at hc
    injection hc with hc
    injection hc with _ ht _
    exact absurd ht (by decide)
theorem Dsk.lt (h : Dsk w B sb cp lg ws S) {g : Nat} (hg : DBlk sb cp lg ws g) : B ≤ g ∧ g < w.heap.size := by
  rcases hg with rfl | hg | hg | hg
  · exact ⟨h.sB, h.box.lt⟩
  · exact h.crow.lt g hg
  · obtain ⟨h1, cur, hc⟩ := h.lrow.type hg
    exact ⟨h1, (Array.getElem?_eq_some_iff.1 hc).1⟩
  · exact h.wrow.lt g hg
theorem Dsk.keep (h : Dsk w B sb cp lg ws S) (hk : ∀ g, DBlk sb cp lg ws g → w'.heap[g]? = w.heap[g]?) : Dsk w' B sb cp lg ws S where
  sB := h.sB
  box := (hk sb (.inl rfl)).trans h.box
  crow := own_keep1 h.crow fun g hg => hk g (.inr (.inl hg))
  lrow := h.lrow.keep fun g hg => hk g (.inr (.inr (.inl hg)))
  lown := fun e => own_keep1 (h.lown e) fun g hg => hk g (.inr (.inr (.inl hg)))
  wrow := own_keep1 h.wrow fun g hg => hk g (.inr (.inr (.inr hg)))
  apart := h.apart
theorem Dsk.below (h : Dsk w B sb cp lg ws S) (hb : Below w.heap.size w w') : Dsk w' B sb cp lg ws S := h.keep fun g hg => hb.block g (h.lt hg).2
/-- the disk's own block has turned, and no other one of it -/
theorem Dsk.turn (h : Dsk w B sb cp lg ws S) (hk : ∀ g, g < w.heap.size → g ≠ sb → w'.heap[g]? = w.heap[g]?) {room : Nat} {on : Bool} (hb : Box w' sb 58 #[.int .i64 (room : Int), .bool on, cp, lg, ws]) : Dsk w' B sb cp lg ws { S with room := room, on := on } where
  sB := h.sB
  box := hb
  crow := own_keep1 h.crow fun g hg => hk g (h.crow.lt g hg).2 (box_ne h.box (by decide) h.crow hg)
  lrow := h.lrow.keep fun g hg => hk g (h.lt (.inr (.inr (.inl hg)))).2 (h.logNe hg).1
  lown := fun e => own_keep1 (h.lown e) fun g hg => hk g (h.lt (.inr (.inr (.inl hg)))).2 (h.logNe hg).1
  wrow := own_keep1 h.wrow fun g hg => hk g (h.wrow.lt g hg).2 (box_ne h.box (by decide) h.wrow hg)
  apart := h.apart
/-- nothing waits any more -/
theorem Dsk.noWaits (h : Dsk w B sb cp lg ws S) (hk : ∀ g, g < w.heap.size → g ≠ sb → w'.heap[g]? = w.heap[g]?) {on : Bool} (hb : Box w' sb 58 #[.int .i64 (S.room : Int), .bool on, cp, lg, .slice none 0 0]) : Dsk w' B sb cp lg (.slice none 0 0) { S with on := on, W := [] } where
  sB := h.sB
  box := hb
  crow := own_keep1 h.crow fun g hg => hk g (h.crow.lt g hg).2 (box_ne h.box (by decide) h.crow hg)
  lrow := h.lrow.keep fun g hg => hk g (h.lt (.inr (.inr (.inl hg)))).2 (h.logNe hg).1
  lown := fun e => own_keep1 (h.lown e) fun g hg => hk g (h.lt (.inr (.inr (.inl hg)))).2 (h.logNe hg).1
  wrow := ⟨rfl, .inl ⟨rfl, rfl⟩⟩
  apart := h.apart
/-- the log is cut off -/
theorem Dsk.cutLog (h : Dsk w B sb cp lg ws S) {A : Option Addr} {c n : Nat} {z : Bool} (hl : lg = .slice A S.L.length c) (hz : z = true → lg = .slice none 0 0) (hn : n ≤ S.L.length) (hk : ∀ g, g < w.heap.size → g ≠ sb → w'.heap[g]? = w.heap[g]?) (hb : Box w' sb 58 #[.int .i64 (S.room : Int), .bool S.on, cp, .slice A n n, ws]) :
    Dsk w' B sb cp (.slice A n n) ws { S with L := S.L.take n, k := z } where
  sB := h.sB
  box := hb
  crow := own_keep1 h.crow fun g hg => hk g (h.crow.lt g hg).2 (box_ne h.box (by decide) h.crow hg)
  lrow := (h.lrow.keep fun g hg => hk g (h.lt (.inr (.inr (.inl hg)))).2 (h.logNe hg).1).cut hl hn
  lown := fun e => by
    have e1 := hz e
    rw [hl] at e1
    injection e1 with e1 e2 e3
    have e4 : n = 0 := by omega
    subst e1
    subst e4
    exact ⟨by simp [byteCells], .inl ⟨rfl, by simp⟩⟩
  wrow := own_keep1 h.wrow fun g hg => hk g (h.wrow.lt g hg).2 (box_ne h.box (by decide) h.wrow hg)
  apart := fun g hg => by
    have := h.apart g hg
    rw [hl] at this
    cases A <;> exact this
end

/-- only blocks of D may have turned -/
structure Keeps (D : Nat → Prop) (w w' : World) : Prop where
  os : w'.os = w.os
  tape : w'.tape = w.tape
  output : w'.output = w.output
  size : w.heap.size ≤ w'.heap.size
  block : ∀ i, i < w.heap.size → ¬ D i → w'.heap[i]? = w.heap[i]?
/-- the blocks of D, and those that have come -/
def Up (D : Nat → Prop) (w w' : World) (g : Nat) : Prop := D g ∨ (w.heap.size ≤ g ∧ g < w'.heap.size)
theorem Keeps.of {D : Nat → Prop} {w w' : World} (h : Below w.heap.size w w') : Keeps D w w' := ⟨h.os, h.tape, h.output, h.size, fun i hi _ => h.block i hi⟩
theorem Keeps.below {D : Nat → Prop} {w w' : World} {B : Nat} (h : Keeps D w w') (hD : ∀ g, D g → B ≤ g) (hB : B ≤ w.heap.size) : Below B w w' :=
  ⟨h.os, h.tape, h.output, h.size, fun i hi => h.block i (by omega) fun e => by have := hD i e; omega⟩
theorem Keeps.trans {D D' : Nat → Prop} {w w1 w2 : World} (h : Keeps D w w1) (h2 : Keeps D' w1 w2) (hD : ∀ g, D' g → Up D w w1 g) : Keeps D w w2 :=
  ⟨h2.os.trans h.os, h2.tape.trans h.tape, h2.output.trans h.output, Nat.le_trans h.size h2.size, fun i hi hn => (h2.block i (Nat.lt_of_lt_of_le hi h.size) fun e => by
    rcases hD i e with h' | h'
    · exact hn h'
    · omega).trans (h.block i hi hn)⟩

/-- a pointer to block sb is a disk that is S; its blocks are of D -/
def Disk (w : World) (B sb : Nat) (D : Nat → Prop) (S : DState) : Prop := ∃ cp lg ws, Dsk w B sb cp lg ws S ∧ ∀ g, DBlk sb cp lg ws g → D g
/-- the same, and (z) its log has no memory yet -/
def DiskZ (w : World) (B sb : Nat) (D : Nat → Prop) (z : Bool) (S : DState) : Prop := ∃ cp lg ws, Dsk w B sb cp lg ws S ∧ (∀ g, DBlk sb cp lg ws g → D g) ∧ (z = true → lg = .slice none 0 0)
theorem DiskZ.disk {w : World} {B sb : Nat} {D : Nat → Prop} {z : Bool} {S : DState} (h : DiskZ w B sb D z S) : Disk w B sb D S := by
  obtain ⟨cp, lg, ws, h1, h2, -⟩ := h
  exact ⟨cp, lg, ws, h1, h2⟩
theorem Disk.z {w : World} {B sb : Nat} {D : Nat → Prop} {S : DState} (h : Disk w B sb D S) : DiskZ w B sb D false S := by
  obtain ⟨cp, lg, ws, h1, h2⟩ := h
  exact ⟨cp, lg, ws, h1, h2, fun e => by cases e⟩
theorem DiskZ.more {w : World} {B sb : Nat} {D D' : Nat → Prop} {z : Bool} {S : DState} (h : DiskZ w B sb D z S) (hD : ∀ g, D g → D' g) : DiskZ w B sb D' z S := by
  obtain ⟨cp, lg, ws, h1, h2, h3⟩ := h
  exact ⟨cp, lg, ws, h1, fun g hg => hD g (h2 g hg), h3⟩
theorem DiskZ.below {w w' : World} {B sb : Nat} {D : Nat → Prop} {z : Bool} {S : DState} (h : DiskZ w B sb D z S) (hb : Below w.heap.size w w') : DiskZ w' B sb D z S := by
  obtain ⟨cp, lg, ws, h1, h2, h3⟩ := h
  exact ⟨cp, lg, ws, h1.below hb, h2, h3⟩
theorem Disk.more {w : World} {B sb : Nat} {D D' : Nat → Prop} {S : DState} (h : Disk w B sb D S) (hD : ∀ g, D g → D' g) : Disk w B sb D' S := by
  obtain ⟨cp, lg, ws, h1, h2⟩ := h
  exact ⟨cp, lg, ws, h1, fun g hg => hD g (h2 g hg)⟩
theorem Disk.below {w w' : World} {B sb : Nat} {D : Nat → Prop} {S : DState} (h : Disk w B sb D S) (hb : Below w.heap.size w w') : Disk w' B sb D S := by
  obtain ⟨cp, lg, ws, h1, h2⟩ := h
  exact ⟨cp, lg, ws, h1.below hb, h2⟩
theorem Disk.kept {w w' : World} {B sb : Nat} {D D' : Nat → Prop} {S : DState} (h : Disk w B sb D S) (hk : Keeps D' w w') (hD : ∀ g, g < w.heap.size → D g → ¬ D' g) : Disk w' B sb D S := by
  obtain ⟨cp, lg, ws, h1, h2⟩ := h
  exact ⟨cp, lg, ws, h1.keep fun g hg => hk.block g (h1.lt hg).2 (hD g (h1.lt hg).2 (h2 g hg)), h2⟩
theorem Disk.eq {w : World} {B sb : Nat} {D : Nat → Prop} {S S' : DState} (h : Disk w B sb D S) (e : S = S') : Disk w B sb D S' := e ▸ h
/-- one store into the disk's own block -/
theorem Keeps.set {D : Nat → Prop} {w : World} {sb i : Nat} {u : Value} (hD : D sb) : Keeps D w (w.setCell ⟨sb, i, none⟩ u) :=
  ⟨rfl, rfl, rfl, by simp [World.setCell], fun j _ hn => Below.heap_setCell _ _ _ _ (fun e => hn (e ▸ hD))⟩

end Go.Proofs.Ytghcmlipbmmfjaa
