/- The disk beside rows of the law's own: what turns of those leaves the disk as it is. No condition. -/
import Derived.Test.YtbiifmcfamgmfaaDskI
namespace Go.Proofs.Ytbiifmcfamgmfaa
open Go.RowKit
open Go.Lib (strCells)

theorem Disk.now {w : World} {B sb : Nat} {D : Nat → Prop} {S : DState} (h : Disk w B sb D S) : Disk w B sb (fun g => B ≤ g ∧ g < w.heap.size) S := by
  obtain ⟨cp, lg, ws, h1, _⟩ := h
  exact ⟨cp, lg, ws, h1, fun _ hg => h1.lt hg⟩
theorem Disk.grown {w w' : World} {B sb : Nat} {D : Nat → Prop} {S : DState} (h : Disk w B sb D S) {r : Option Nat} (hg : w.grownBy w' r) (hr : ∀ g, r = some g → ¬ D g) : Disk w' B sb D S := by
  obtain ⟨cp, lg, ws, h1, h2⟩ := h
  exact ⟨cp, lg, ws, h1.keep fun g hd => hg.block g (h1.lt hd).2 fun e => hr g e.symm (h2 g hd), h2⟩
/-- a row that is no part of the disk has turned -/
theorem after_row {b sb : Nat} {w wd wq : World} {D : Nat → Prop} {S : DState} {r : Option Nat} (hd : Disk wd b sb D S) (hb : Below b w wd) (ho : b ≤ w.heap.size) (hD : ∀ g, D g → b ≤ g) (hg : wd.grownBy wq r) (hr : ∀ g, r = some g → ¬ D g ∧ b ≤ g) : After b sb w S wq :=
  ⟨(hd.grown hg fun g e => (hr g e).1).more hD, hb.grown hg (Nat.le_trans ho hb.size) fun g e => (hr g e).2, ho⟩
theorem after_keeps {b sb : Nat} {w wd wq : World} {D E : Nat → Prop} {S : DState} (hd : Disk wd b sb D S) (hb : Below b w wd) (ho : b ≤ w.heap.size) (hD : ∀ g, D g → b ≤ g) (hg : Keeps E wd wq) (hr : ∀ g, E g → ¬ D g ∧ b ≤ g) : After b sb w S wq :=
  ⟨(hd.kept hg fun g _ h1 h2 => (hr g h2).1 h1).more hD, hb.trans (hg.below (fun g e => (hr g e).2) (Nat.le_trans ho hb.size)), ho⟩
theorem Keeps.grown {D : Nat → Prop} {w w1 w2 : World} {r : Option Nat} (h : Keeps D w w1) (hg : w1.grownBy w2 r) (hr : ∀ g, r = some g → D g) : Keeps D w w2 :=
  ⟨hg.os.trans h.os, hg.tape.trans h.tape, hg.output.trans h.output, Nat.le_trans h.size hg.size, fun i hi hn => (hg.block i (Nat.lt_of_lt_of_le hi h.size) fun e => hn (hr i e.symm)).trans (h.block i hi hn)⟩
theorem Keeps.refl (D : Nat → Prop) (w : World) : Keeps D w w := ⟨rfl, rfl, rfl, Nat.le_refl _, fun _ _ _ => rfl⟩
theorem u8_all (y : UInt8) : bits .xor .u8 (y.toNat : Int) 255 = ((y ^^^ 255).toNat : Int) := u8_turn y 255

/-- one byte of one row of rows is put -/
theorem OwnRs.put {w : World} {B : Nat} {v : Value} {rs : Brs} (h : OwnRs w B v rs) {i : Nat} {g c : Nat} {l : List UInt8} {A : Option Addr} {n : Nat} (hi : rs[i]? = some (.slice A n c, l)) (hA : A = some ⟨g, 0, none⟩) {j : Nat} (x : UInt8) :
    OwnRs (w.setCell ⟨g, j, none⟩ (.int .u8 (x.toNat : Int))) B v (rs.set i (.slice A n c, l.set j x)) ∧ w.grownBy (w.setCell ⟨g, j, none⟩ (.int .u8 (x.toNat : Int))) (some g) ∧ B ≤ g := by
  subst hA
  have hil := (List.getElem?_eq_some_iff.1 hi).1
  have hmem : (Value.slice (some ⟨g, 0, none⟩) n c, l) ∈ rs := List.mem_of_getElem? hi
  have hr := h.rows _ hmem
  have hrl : n = l.length := by
    obtain ⟨_, _, e, _⟩ := own_slice hr
    injection e
  subst hrl
  have hst := hr.stored j (.int .u8 (x.toNat : Int))
  have hgr : w.grownBy (w.setCell ⟨g, j, none⟩ (.int .u8 (x.toNat : Int))) (some g) := hst.2
  have hget : rs[i] = (Value.slice (some ⟨g, 0, none⟩) l.length c, l) := by
    have := List.getElem?_eq_getElem hil
    rw [hi] at this
    injection this with this
    exact this.symm
  have hfst : (rs.set i (Value.slice (some ⟨g, 0, none⟩) l.length c, l.set j x)).map (·.1) = rs.map (·.1) := by
    rw [List.map_set]
    refine List.ext_getElem? fun k => ?_
    rw [List.getElem?_set]
    by_cases hk : i = k
    · subst hk
      simp [hil, hget]
    · rw [if_neg hk]
  refine ⟨⟨?_, fun r hrm => ?_, ?_⟩, hgr, (hr.lt g rfl).1⟩
  · rw [List.length_set]
    unfold brCells
    rw [hfst]
    exact own_keep1 h.own fun k hk => hgr.block k (h.own.lt k hk).2 fun e => by
      injection e with e
      exact own_ne h.own hr (by decide) hk rfl e
  · obtain ⟨k, hk, rfl⟩ := List.getElem_of_mem hrm
    have hk' : k < rs.length := by rwa [List.length_set] at hk
    rw [List.getElem_set]
    by_cases hki : i = k
    · rw [if_pos hki]
      show World.ownsRow _ _ _ _ _ (l.set j x).length _
      rw [List.length_set, ← byteCells_set]
      exact hst.1
    · rw [if_neg hki]
      refine own_keep1 (h.rows _ (List.getElem_mem hk')) fun q hq => hgr.block q ((h.rows _ (List.getElem_mem hk')).lt q hq).2 fun e => ?_
      injection e with e
      subst e
      have hp := List.pairwise_iff_getElem.1 h.apart
      rcases Nat.lt_or_gt_of_ne hki with hlt | hlt
      · have := hp i k hil hk' hlt q q (by rw [hget]; rfl) hq
        omega
      · have := hp k i hk' hil hlt q q hq (by rw [hget]; rfl)
        omega
  · have e : ∀ a b : Value × List UInt8, (fun r s : Value × List UInt8 => ∀ g h, r.1.ownBlock = some g → s.1.ownBlock = some h → g < h) a b = (fun (r s : Value) => ∀ g h, r.ownBlock = some g → s.ownBlock = some h → g < h) a.1 b.1 := fun _ _ => rfl
    have h1 : (rs.map (·.1)).Pairwise fun r s => ∀ g h, r.ownBlock = some g → s.ownBlock = some h → g < h := List.pairwise_map.2 h.apart
    rw [← hfst] at h1
    exact List.pairwise_map.1 h1

end Go.Proofs.Ytbiifmcfamgmfaa
