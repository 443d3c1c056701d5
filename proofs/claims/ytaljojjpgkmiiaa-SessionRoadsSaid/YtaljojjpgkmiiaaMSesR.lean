/- A road's method post. Condition: the road is in memory, with room in its net. -/
import Derived.Test.YtaljojjpgkmiiaaMSesP
namespace Go.Proofs.Ytaljojjpgkmiiaa
open Go.RowKit

section
variable {w : World} {B rb sb mb d : Nat} {g : Nat → Nat} {u : Nat → Value} {E : Nat → SE} {X : Nat → List ByteArray} {N : List NEn}
/-- what post leaves -/
def PostRP (B rb sb mb : Nat) (g : Nat → Nat) (u : Nat → Value) (E : Nat → SE) (X : Nat → List ByteArray) (N : List NEn) (d : Nat) (t : Int) (P : List SIt) (w : World) (e : Ending) (w' : World) : Prop :=
  e = .returned (.tuple #[]) ∧ ∃ N' : List NEn, Road w' B rb sb mb g u E X (N ++ N') (d + N'.length) ∧ N'.map (·.L) = P.map (fun p => lR 1 t p.n p.b) ∧ Below B w w'
theorem post_items {E : SE} (g : E.Good) (n : Int) (hs : E.s ≤ 999999) (ht : ∀ x ∈ E.l, x.size ≤ 1000) : (E.post n).length ≤ 256 ∧ ∀ (i : Nat) (p : SIt), (E.post n)[i]? = some p → p.n ≤ 1000000 ∧ p.b.size ≤ 1000 := by
  unfold SE.post
  rw [itemsFrom_len, List.length_take]
  have h3 := g.le
  have h4 := g.ll
  refine ⟨by omega, fun i p hp => ?_⟩
  rw [itemsFrom_at] at hp
  obtain ⟨x, hx, rfl⟩ := Option.map_eq_some_iff.1 hp
  have h1 := (List.getElem?_eq_some_iff.1 hx).1
  rw [List.length_take] at h1
  exact ⟨by show E.s - E.l.length + 1 + i ≤ 1000000; omega, ht x (List.mem_of_mem_take (List.mem_of_getElem? hx))⟩
set_option maxRecDepth 100000 in
set_option maxHeartbeats 6400000 in
theorem post_any (h : Road w B rb sb mb g u E X N d) {who : Nat} (hw : who < 2) (n : Int) (hd : d ≤ 90000000) (hN : N.length + ((E who).post n).length ≤ 4096) (hs : (E who).s ≤ 999999) (ht : ∀ x ∈ (E who).l, x.size ≤ 1000) : Calls Try.prog 34 #[.pointer (some ⟨rb, 0, none⟩), .int .i64 (who : Int), .int .i64 n] w (PostRP B rb sb mb g u E X N d (1 - who : Nat) ((E who).post n) w) := by
  obtain ⟨hl, hit⟩ := post_items (h.ends who hw).good n hs ht
  have HPost := Lib.hid (sesPost_any (h.ends who hw) n)
  obtain ⟨P, hP⟩ : ∃ P, (E who).post n = P := ⟨_, rfl⟩
  rw [hP] at HPost hl hit hN ⊢
  have Hit := Lib.hid hit
  have Hlim : Hid (N.length + P.length ≤ 4096 ∧ P.length ≤ 256 ∧ d ≤ 90000000) := Lib.hid ⟨hN, hl, hd⟩
  have Hh := Lib.hid h
  have p0 := h.cells.1
  have p1 := h.cells.2.1
  have p6 := h.cells.2.2.2.2.2.2
  obtain ⟨T, hT⟩ : ∃ T : Int, ((1 - who : Nat) : Int) = T := ⟨_, rfl⟩
  have HT : Hid (T = ((1 - who : Nat) : Int)) := Lib.hid hT.symm
  rw [hT]
  clear h hP ht hs hd hN hl hit hT
  rcases (show who = 0 ∨ who = 1 by omega) with rfl | rfl
  · clear hw
    go_enter Try.func34, Try.ntmps34
    go_wp2_with fail
    refine HPost.out.mono ?_
    rintro e w3 ⟨v3, rfl, o3, b3⟩
    obtain ⟨A, c, rfl, -, -, -⟩ := o3.slice
    obtain ⟨M, hM⟩ : ∃ M, P.length = M := ⟨_, rfl⟩
    have HM := Lib.hid hM
    have Ho3 : Hid (w3.ownsRow w.heap.size 105 2 (.slice A M c) M (siCells P)) := Lib.hid (by have h9 := o3; unfold OwnSis at h9; rw [hM] at h9; exact h9)
    have H3 := Lib.hid (And.intro (Hh.out.below b3) (((Below.refl B w).trans (b3.mono Hh.out.lo))))
    rw [hM] at Hlim ⊢
    clear o3 b3 p0 p1 p6 hM HPost
    go_wp2
    go_loopw [7] (fun i wr => ∃ (k : Nat) (N' : List NEn), k ≤ M ∧ i = .int .i64 (k : Int) ∧ Hid (Road wr B rb sb mb g u E X (N ++ N') (d + k) ∧ N'.map (·.L) = (P.take k).map (fun p => lR 1 1 p.n p.b) ∧ N'.length = k ∧ wr.ownsRow w.heap.size 105 2 (.slice A M c) M (siCells P) ∧ Below B w wr)) (fun i _ => M - (intOf i).toNat)
    case atStart => exact ⟨0, [], Nat.zero_le _, rfl, Lib.hid ⟨by rw [List.append_nil]; exact H3.out.1, rfl, rfl, Ho3.out, H3.out.2⟩⟩
    case round =>
      obtain ⟨k, N', hk, rfl, HR⟩ := hrel
      by_cases hlt : k < M
      · obtain ⟨a, y, rfl, -, hy, c0, c1⟩ := (show HasSis wr wr.heap.size A M P from ⟨HM.out, Has.of_ownN HR.out.2.2.2.1⟩).at_ hlt
        have hyb := Hit.out k y hy
        have Htk : Hid ((P.take (k + 1)).map (fun p => lR 1 1 p.n p.b) = (P.take k).map (fun p => lR 1 1 p.n p.b) ++ [lR 1 1 y.n y.b]) := Lib.hid (by
          rw [List.take_succ_eq_append_getElem (List.getElem?_eq_some_iff.1 hy).1, (List.getElem?_eq_some_iff.1 hy).2, List.map_append]
          rfl)
        obtain ⟨q, x⟩ := y
        simp only at hyb c0 c1 Htk
        have hq : (0 : Int) ≤ (q : Int) ∧ (q : Int) ≤ 1000000 := by omega
        have hx := hyb.2
        have hlen : (N ++ N').length < 4096 := by rw [List.length_append, HR.out.2.2.1]; have := Hlim.out; omega
        have hdk : d + k ≤ 100000000 := by have := Hlim.out; omega
        have p6 := HR.out.1.cells.2.2.2.2.2.2
        have Hd := Lib.hid (HR.out.1.below (Below.refl _ wr).drew)
        have Hown : Hid (wr.ownsRow w.heap.size 105 2 (.slice (some a) M c) M (siCells P)) := Lib.hid HR.out.2.2.2.1
        have Hcell : Hid (∀ wx, Kept2 sb mb wr wx → wx.ownsRow w.heap.size 105 2 (.slice (some a) M c) M (siCells P) ∧ wx.cell? (a.add (k * 2)) = some (.int .i64 q) ∧ wx.cell? ⟨(a.add (k * 2)).block, (a.add (k * 2)).off + 1, none⟩ = some (.string x)) := Lib.hid fun wx hx => by
          have h9 := HR.out.1.net.rowKept hx Hown.out (by decide)
          obtain ⟨a', y', e, -, hy', d0, d1⟩ := (show HasSis wx wx.heap.size (some a) M P from ⟨HM.out, Has.of_ownN h9⟩).at_ hlt
          injection e with e
          subst e
          rw [hy] at hy'
          injection hy' with hy'
          subst hy'
          exact ⟨h9, d0, d1⟩
        have Hs := Lib.hid (road_send Hd.out hdk hlen (k := 1) (t := 1) ⟨by omega, by omega⟩ ⟨by omega, by omega⟩ hq hx)
        clear hy hyb hlen hdk hq hx H3 Ho3
        go_wp2
        go_region_held3 (fun wx => wx.cell? ⟨rb, 6, none⟩ = some (.pointer (some ⟨sb, 0, none⟩)) ∧ wx.cell? (a.add (k * 2)) = some (.int .i64 q) ∧ wx.cell? ⟨(a.add (k * 2)).block, (a.add (k * 2)).off + 1, none⟩ = some (.string x))
          (first | exact ⟨Hd.out.cells.2.2.2.2.2.2, (Hcell.out _ (Kept2.of (Below.refl _ wr).drew)).2⟩ | exact ⟨r4.cells.2.2.2.2.2.2, i4.2⟩)
          (first
            | (go_at_call 44; refine Hs.out.mono ?_; rintro e w4 ⟨en, hL, rfl, r4, b4, k4⟩; have i4 := Hcell.out w4 ((Kept2.of (Below.refl _ wr).drew).trans k4)))
        all_goals
          have HF := Lib.hid (And.intro hL (And.intro r4 (And.intro (HR.out.2.2.2.2.trans (((Below.refl B wr).drew).trans b4)) i4.1)))
          have hkb : k ≤ 256 := by have := Hlim.out; omega
          clear hL r4 b4 k4 i4 p6 c0 c1
          go_wp2
          go_roundw
          case rel => exact ⟨k + 1, N' ++ [en], by omega, by go_num, Lib.hid ⟨by rw [← List.append_assoc]; exact HF.out.2.1, by rw [List.map_append, HR.out.2.1, Htk.out, List.map_cons, List.map_nil, HF.out.1], by rw [List.length_append, HR.out.2.2.1]; rfl, HF.out.2.2.2, HF.out.2.2.1⟩⟩
          case measure => simp [intOf]; omega
      · obtain rfl : k = M := by omega
        have HF : Hid (∃ N' : List NEn, Road wr B rb sb mb g u E X (N ++ N') (d + N'.length) ∧ N'.map (·.L) = P.map (fun p => lR 1 T p.n p.b) ∧ Below B w wr) := Lib.hid ⟨N', by rw [HR.out.2.2.1]; exact HR.out.1, by rw [HR.out.2.1, List.take_of_length_le (by have := HM.out; omega), HT.out]; rfl, HR.out.2.2.2.2⟩
        go_wp2
        go_end0
        exact ⟨rfl, HF.out⟩
  · clear hw
    go_enter Try.func34, Try.ntmps34
    go_wp2_with fail
    refine HPost.out.mono ?_
    rintro e w3 ⟨v3, rfl, o3, b3⟩
    obtain ⟨A, c, rfl, -, -, -⟩ := o3.slice
    obtain ⟨M, hM⟩ : ∃ M, P.length = M := ⟨_, rfl⟩
    have HM := Lib.hid hM
    have Ho3 : Hid (w3.ownsRow w.heap.size 105 2 (.slice A M c) M (siCells P)) := Lib.hid (by have h9 := o3; unfold OwnSis at h9; rw [hM] at h9; exact h9)
    have H3 := Lib.hid (And.intro (Hh.out.below b3) (((Below.refl B w).trans (b3.mono Hh.out.lo))))
    rw [hM] at Hlim ⊢
    clear o3 b3 p0 p1 p6 hM HPost
    go_wp2
    go_loopw [7] (fun i wr => ∃ (k : Nat) (N' : List NEn), k ≤ M ∧ i = .int .i64 (k : Int) ∧ Hid (Road wr B rb sb mb g u E X (N ++ N') (d + k) ∧ N'.map (·.L) = (P.take k).map (fun p => lR 1 0 p.n p.b) ∧ N'.length = k ∧ wr.ownsRow w.heap.size 105 2 (.slice A M c) M (siCells P) ∧ Below B w wr)) (fun i _ => M - (intOf i).toNat)
    case atStart => exact ⟨0, [], Nat.zero_le _, rfl, Lib.hid ⟨by rw [List.append_nil]; exact H3.out.1, rfl, rfl, Ho3.out, H3.out.2⟩⟩
    case round =>
      obtain ⟨k, N', hk, rfl, HR⟩ := hrel
      by_cases hlt : k < M
      · obtain ⟨a, y, rfl, -, hy, c0, c1⟩ := (show HasSis wr wr.heap.size A M P from ⟨HM.out, Has.of_ownN HR.out.2.2.2.1⟩).at_ hlt
        have hyb := Hit.out k y hy
        have Htk : Hid ((P.take (k + 1)).map (fun p => lR 1 0 p.n p.b) = (P.take k).map (fun p => lR 1 0 p.n p.b) ++ [lR 1 0 y.n y.b]) := Lib.hid (by
          rw [List.take_succ_eq_append_getElem (List.getElem?_eq_some_iff.1 hy).1, (List.getElem?_eq_some_iff.1 hy).2, List.map_append]
          rfl)
        obtain ⟨q, x⟩ := y
        simp only at hyb c0 c1 Htk
        have hq : (0 : Int) ≤ (q : Int) ∧ (q : Int) ≤ 1000000 := by omega
        have hx := hyb.2
        have hlen : (N ++ N').length < 4096 := by rw [List.length_append, HR.out.2.2.1]; have := Hlim.out; omega
        have hdk : d + k ≤ 100000000 := by have := Hlim.out; omega
        have p6 := HR.out.1.cells.2.2.2.2.2.2
        have Hd := Lib.hid (HR.out.1.below (Below.refl _ wr).drew)
        have Hown : Hid (wr.ownsRow w.heap.size 105 2 (.slice (some a) M c) M (siCells P)) := Lib.hid HR.out.2.2.2.1
        have Hcell : Hid (∀ wx, Kept2 sb mb wr wx → wx.ownsRow w.heap.size 105 2 (.slice (some a) M c) M (siCells P) ∧ wx.cell? (a.add (k * 2)) = some (.int .i64 q) ∧ wx.cell? ⟨(a.add (k * 2)).block, (a.add (k * 2)).off + 1, none⟩ = some (.string x)) := Lib.hid fun wx hx => by
          have h9 := HR.out.1.net.rowKept hx Hown.out (by decide)
          obtain ⟨a', y', e, -, hy', d0, d1⟩ := (show HasSis wx wx.heap.size (some a) M P from ⟨HM.out, Has.of_ownN h9⟩).at_ hlt
          injection e with e
          subst e
          rw [hy] at hy'
          injection hy' with hy'
          subst hy'
          exact ⟨h9, d0, d1⟩
        have Hs := Lib.hid (road_send Hd.out hdk hlen (k := 1) (t := 0) ⟨by omega, by omega⟩ ⟨by omega, by omega⟩ hq hx)
        clear hy hyb hlen hdk hq hx H3 Ho3
        go_wp2
        go_region_held3 (fun wx => wx.cell? ⟨rb, 6, none⟩ = some (.pointer (some ⟨sb, 0, none⟩)) ∧ wx.cell? (a.add (k * 2)) = some (.int .i64 q) ∧ wx.cell? ⟨(a.add (k * 2)).block, (a.add (k * 2)).off + 1, none⟩ = some (.string x))
          (first | exact ⟨Hd.out.cells.2.2.2.2.2.2, (Hcell.out _ (Kept2.of (Below.refl _ wr).drew)).2⟩ | exact ⟨r4.cells.2.2.2.2.2.2, i4.2⟩)
          (first
            | (go_at_call 44; refine Hs.out.mono ?_; rintro e w4 ⟨en, hL, rfl, r4, b4, k4⟩; have i4 := Hcell.out w4 ((Kept2.of (Below.refl _ wr).drew).trans k4)))
        all_goals
          have HF := Lib.hid (And.intro hL (And.intro r4 (And.intro (HR.out.2.2.2.2.trans (((Below.refl B wr).drew).trans b4)) i4.1)))
          have hkb : k ≤ 256 := by have := Hlim.out; omega
          clear hL r4 b4 k4 i4 p6 c0 c1
          go_wp2
          go_roundw
          case rel => exact ⟨k + 1, N' ++ [en], by omega, by go_num, Lib.hid ⟨by rw [← List.append_assoc]; exact HF.out.2.1, by rw [List.map_append, HR.out.2.1, Htk.out, List.map_cons, List.map_nil, HF.out.1], by rw [List.length_append, HR.out.2.2.1]; rfl, HF.out.2.2.2, HF.out.2.2.1⟩⟩
          case measure => simp [intOf]; omega
      · obtain rfl : k = M := by omega
        have HF : Hid (∃ N' : List NEn, Road wr B rb sb mb g u E X (N ++ N') (d + N'.length) ∧ N'.map (·.L) = P.map (fun p => lR 1 T p.n p.b) ∧ Below B w wr) := Lib.hid ⟨N', by rw [HR.out.2.2.1]; exact HR.out.1, by rw [HR.out.2.1, List.take_of_length_le (by have := HM.out; omega), HT.out]; rfl, HR.out.2.2.2.2⟩
        go_wp2
        go_end0
        exact ⟨rfl, HF.out⟩
end
end Go.Proofs.Ytaljojjpgkmiiaa
