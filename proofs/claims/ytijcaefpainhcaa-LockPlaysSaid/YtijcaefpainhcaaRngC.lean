/- span's own (a range whose texts lie anew) and Meet. Condition: texts that fit. -/
import Derived.Test.YtijcaefpainhcaaRngB
import Derived.Test.YtijcaefpainhcaaClone
import Derived.Lib.MinMaxS
namespace Go.Proofs.Ytijcaefpainhcaa
open Go.RowKit
open Go.Lib (strCells compareBytes)

/-- what stands in a cell, whatever it is -/
def atR (w : World) (g i : Nat) : Value := (w.cell? ⟨g, i, none⟩).getD undef
theorem Box.atR {w : World} {g : Nat} {t : TypeId} {cs : Array Value} (h : Box w g t cs) {i : Nat} (hi : i < cs.size) : w.cell? ⟨g, i, none⟩ = some (atR w g i) := by
  unfold Go.Proofs.Ytijcaefpainhcaa.atR
  rw [h.cell i, Array.getElem?_eq_getElem hi]
  rfl
theorem setR_cells {W : World} {g i : Nat} {t : TypeId} {cs : Array Value} {u : Value} (h : Box (W.setCell ⟨g, i, none⟩ u) g t cs) : ∃ cs0, Box W g t cs0 ∧ cs = cs0.setIfInBounds i u := by
  unfold Box at h ⊢
  cases e : W.heap[g]? with
  | none => simp [World.setCell, Array.getElem?_modify, e] at h
  | some o =>
    cases o with
    | cells cs0 t0 m0 =>
      simp [World.setCell, Array.getElem?_modify, e] at h
      obtain ⟨h1, h2, h3⟩ := h
      subst h2
      subst h3
      exact ⟨cs0, rfl, h1.symm⟩
    | _ => simp [World.setCell, Array.getElem?_modify, e] at h
/-- two stores into a box of two cells: what stands there then -/
theorem set2_vals {W : World} {g : Nat} {t : TypeId} {cs : Array Value} {x y : Value} (h : Box ((W.setCell ⟨g, 0, none⟩ x).setCell ⟨g, 1, none⟩ y) g t cs) (hs : cs.size = 2) : cs = #[x, y] := by
  obtain ⟨c1, h1, e1⟩ := setR_cells h
  obtain ⟨c0, h0, e0⟩ := setR_cells h1
  subst e1
  subst e0
  simp at hs
  obtain ⟨l⟩ := c0
  match l, hs with
  | [a, b], _ => rfl
/-- what is known while a range is made anew -/
structure OwR (w : World) (k v : ByteArray) (wx : World) : Prop where
  box : Box wx w.heap.size 23 #[.string k, .string v]
  res : ∃ cs, cs.size = 2 ∧ Box wx (w.heap.size + 1) 23 cs
  below : Below w.heap.size w wx
section
variable {w wx w' : World} {k v : ByteArray}
theorem OwR.start (w : World) (k v : ByteArray) : OwR w k v ((w.alloc (.cells #[.string k, .string v] 23)).alloc (.cells #[.string ⟨#[]⟩, .string ⟨#[]⟩] 23)).drew :=
  ⟨(Box.made _ _ _).alloc _, ⟨_, rfl, by have := Box.made (w.alloc (.cells #[.string k, .string v] 23)) 23 #[.string ⟨#[]⟩, .string ⟨#[]⟩]; rwa [World.size_alloc] at this⟩, ((below_box _).alloc (by simp) _).drew⟩
theorem OwR.call (h : OwR w k v wx) (hb : Below wx.heap.size wx w') : OwR w k v w' := by
  obtain ⟨cs, h1, h2⟩ := h.res
  exact ⟨h.box.below hb h.box.lt, ⟨cs, h1, h2.below hb h2.lt⟩, h.below.trans (hb.mono h.below.size)⟩
theorem OwR.set (h : OwR w k v wx) (i : Nat) (u : Value) : OwR w k v (wx.setCell ⟨w.heap.size + 1, i, none⟩ u) := by
  obtain ⟨cs, h1, h2⟩ := h.res
  exact ⟨h.box.far (by show w.heap.size ≠ w.heap.size + 1; omega) _, ⟨_, by simpa using h1, h2.set_ i u⟩, h.below.setCell (Nat.le_succ _) _⟩
theorem OwR.both (h : OwR w k v wx) : ((wx.cell? ⟨w.heap.size, 0, none⟩ = some (.string k) ∧ wx.cell? ⟨w.heap.size, 1, none⟩ = some (.string v)) ∧
    (wx.frozen? ⟨w.heap.size + 1, 0, none⟩ = false ∧ wx.frozen? ⟨w.heap.size + 1, 1, none⟩ = false) ∧
    (wx.cell? ⟨w.heap.size + 1, 0, none⟩ = some (atR wx (w.heap.size + 1) 0) ∧ wx.cell? ⟨w.heap.size + 1, 1, none⟩ = some (atR wx (w.heap.size + 1) 1))) ∧ OwR w k v wx := by
  obtain ⟨cs, h1, h2⟩ := h.res
  exact ⟨⟨⟨h.box.cell 0, h.box.cell 1⟩, ⟨h2.frozen 0, h2.frozen 1⟩, ⟨h2.atR (by omega), h2.atR (by omega)⟩⟩, h⟩
end
set_option maxRecDepth 100000 in
set_option maxHeartbeats 3200000 in
theorem ownR_any (r : Rg) (w : World) (hk : r.lo.size ≤ 140737488355328) (hv : r.hi.size ≤ 140737488355328) :
    Calls Try.prog 44 #[ragg r] w fun e w' => e = .returned (ragg r) ∧ Below w.heap.size w w' := by
  obtain ⟨k, v⟩ := r
  unfold ragg
  simp only at hk hv
  have HS := Lib.hid (OwR.start w k v).both
  go_enter Try.func44, Try.ntmps44
  go_wp2
  go_region_held3 (fun wx => ((wx.cell? ⟨w.heap.size, 0, none⟩ = some (.string k) ∧ wx.cell? ⟨w.heap.size, 1, none⟩ = some (.string v)) ∧
    (wx.frozen? ⟨w.heap.size + 1, 0, none⟩ = false ∧ wx.frozen? ⟨w.heap.size + 1, 1, none⟩ = false) ∧
    (wx.cell? ⟨w.heap.size + 1, 0, none⟩ = some (atR wx (w.heap.size + 1) 0) ∧ wx.cell? ⟨w.heap.size + 1, 1, none⟩ = some (atR wx (w.heap.size + 1) 1))) ∧ OwR w k v wx)
    (first | exact HS.out | exact OwR.both (OwR.call (And.right (by assumption)) hb) | exact OwR.both (OwR.set (OwR.set (And.right (by assumption)) 0 _) 1 _))
    (first | (go_at_call 68; refine (clone_any _ _ (by first | exact hk | exact hv)).mono ?_; rintro e w' ⟨rfl, hb⟩))
  all_goals
    have hS := (‹_ ∧ OwR w k v (World.setCell _ _ _)›).2
    have Hb3 := Lib.hid hS.below
    obtain ⟨cs, h1, h2⟩ := hS.res
    obtain rfl := set2_vals h2 h1
    have p0 := h2.cell 0
    have p1 := h2.cell 1
    clear hb hS h1 h2
    clear ‹_ ∧ OwR w k v (World.setCell _ _ _)›
    obtain ⟨W3, hW3⟩ : ∃ W3, (w'.setCell ⟨w.heap.size + 1, 0, none⟩ (.string k)).setCell ⟨w.heap.size + 1, 1, none⟩ (.string v) = W3 := ⟨_, rfl⟩
    rw [hW3] at p0 p1 Hb3 ⊢
    clear hW3
    simp at p0 p1
    go_wp2
    refine bodyPost_ret (v := .agg #[.string k, .string v]) ?_ rfl ⟨rfl, Hb3.out⟩
    simp [results, Try.results44, go_sem, p0, p1]
/-- what Meet answers: a range and whether that is any text -/
def MeetPost (a b : Rg) (w : World) (e : Ending) (w' : World) : Prop :=
  e = .returned (.tuple #[if emptyR (meetR a b) then ragg ⟨⟨#[]⟩, ⟨#[]⟩⟩ else ragg (meetR a b), .bool (!decide (emptyR (meetR a b)))]) ∧ Below w.heap.size w w'
theorem meet_size {a b : Rg} {K : Nat} (ha : a.lo.size ≤ K ∧ a.hi.size ≤ K) (hb : b.lo.size ≤ K ∧ b.hi.size ≤ K) : (meetR a b).lo.size ≤ K ∧ (meetR a b).hi.size ≤ K := by
  unfold meetR
  constructor
  · show (if _ then _ else _ : ByteArray).size ≤ K
    split
    · exact hb.1
    · exact ha.1
  · show (if _ then _ else _ : ByteArray).size ≤ K
    split
    · exact hb.2
    · exact ha.2
theorem meet_boxes {w w1 : World} {o1 o2 : Obj} {x y x' y' : Value} {t : TypeId}
    (hb : Below ((((w.alloc o1).alloc o2).alloc (.cells #[x, y] t)).alloc (.cells #[x', y'] t)).heap.size ((((w.alloc o1).alloc o2).alloc (.cells #[x, y] t)).alloc (.cells #[x', y'] t)) w1) :
    Box w1 (w.heap.size + 1 + 1) t #[x, y] ∧ Box w1 (w.heap.size + 1 + 1 + 1) t #[x', y'] ∧ Below w.heap.size w w1 := by
  have h1 : Box ((((w.alloc o1).alloc o2).alloc (.cells #[x, y] t)).alloc (.cells #[x', y'] t)) (w.heap.size + 1 + 1) t #[x, y] := by
    have := (Box.made ((w.alloc o1).alloc o2) t #[x, y]).alloc (.cells #[x', y'] t)
    simpa using this
  have h2 : Box ((((w.alloc o1).alloc o2).alloc (.cells #[x, y] t)).alloc (.cells #[x', y'] t)) (w.heap.size + 1 + 1 + 1) t #[x', y'] := by
    have := Box.made (((w.alloc o1).alloc o2).alloc (.cells #[x, y] t)) t #[x', y']
    simpa using this
  exact ⟨h1.below hb h1.lt, h2.below hb h2.lt, ((((below_box o1).alloc (by simp) o2).alloc (by simp; omega) _).alloc (by simp; omega) _).trans (hb.mono (by simp; omega))⟩
theorem two_set {w : World} {g : Nat} {t : TypeId} {x y : Value} (h : Box w g t #[x, y]) (x' y' : Value) : Box ((w.setCell ⟨g, 0, none⟩ x').setCell ⟨g, 1, none⟩ y') g t #[x', y'] := by
  have := (h.set_ 0 x').set_ 1 y'
  simpa using this
set_option maxRecDepth 100000 in
set_option maxHeartbeats 3200000 in
theorem meet_box (al ah bl bh ml mh : ByteArray) (w : World) (y z : Bool) (hm : ∀ wx, (Builtin.max_ #[9, 9] 9 #[.string al, .string bl]).run Try.prog wx = .ok (.string ml) wx)
    (hy : ∀ wx, Calls Try.prog 43 #[.string bh, .string ah] wx fun e w' => e = .returned (.bool y) ∧ w' = wx) (hmh : (y = true ∧ mh = bh) ∨ (y = false ∧ mh = ah))
    (hz : ∀ wx, Calls Try.prog 14 #[.agg #[.string ml, .string mh]] wx fun e w' => e = .returned (.bool z) ∧ Below wx.heap.size wx w')
    (ho : ∀ wx, Calls Try.prog 44 #[.agg #[.string ml, .string mh]] wx fun e w' => e = .returned (.agg #[.string ml, .string mh]) ∧ Below wx.heap.size wx w') :
    Calls Try.prog 12 #[.agg #[.string al, .string ah], .agg #[.string bl, .string bh]] w fun e w' =>
      e = .returned (.tuple #[if z then .agg #[.string ⟨#[]⟩, .string ⟨#[]⟩] else .agg #[.string ml, .string mh], .bool (!z)]) ∧ Below w.heap.size w w' := by
  have Hy := Lib.hid hy
  have Hz := Lib.hid hz
  have Ho := Lib.hid ho
  clear hy hz ho
  rcases hmh with ⟨rfl, rfl⟩ | ⟨rfl, rfl⟩
  all_goals
    cases z with
    | true =>
      go_enter Try.func12, Try.ntmps12
      go_wp2_with fail
      refine (Hy.out _).mono ?_
      rintro e w' ⟨rfl, rfl⟩
      go_wp2_with fail
      refine (Hz.out _).mono ?_
      rintro e w1 ⟨rfl, hb1⟩
      obtain ⟨h1, -, hb⟩ := meet_boxes hb1
      have p0 := h1.cell 0
      have p1 := h1.cell 1
      have f0 := h1.frozen 0
      have f1 := h1.frozen 1
      simp at p0 p1
      have h3 := two_set h1 (.string ⟨#[]⟩) (.string ⟨#[]⟩)
      have Hb3 : Hid (Below w.heap.size w ((w1.setCell ⟨w.heap.size + 1 + 1, 0, none⟩ (.string ⟨#[]⟩)).setCell ⟨w.heap.size + 1 + 1, 1, none⟩ (.string ⟨#[]⟩))) := Lib.hid ((hb.setCell (by show w.heap.size ≤ w.heap.size + 1 + 1; omega) _).setCell (by show w.heap.size ≤ w.heap.size + 1 + 1; omega) _)
      have H3 := Lib.hid h3
      clear hb1 h1 hb h3
      go_wp2
      obtain ⟨W3, hW3⟩ : ∃ W3, (w1.setCell ⟨w.heap.size + 1 + 1, 0, none⟩ (.string ⟨#[]⟩)).setCell ⟨w.heap.size + 1 + 1, 1, none⟩ (.string ⟨#[]⟩) = W3 := ⟨_, rfl⟩
      rw [hW3] at H3 Hb3 ⊢
      have r0 := H3.out.cell 0
      have r1 := H3.out.cell 1
      simp at r0 r1
      refine bodyPost_ret (v := .tuple #[.agg #[.string ⟨#[]⟩, .string ⟨#[]⟩], .bool false]) ?_ rfl ⟨rfl, Hb3.out⟩
      simp [results, Try.results12, go_sem, r0, r1]
    | false =>
      go_enter Try.func12, Try.ntmps12
      go_wp2_with fail
      refine (Hy.out _).mono ?_
      rintro e w' ⟨rfl, rfl⟩
      go_wp2_with fail
      refine (Hz.out _).mono ?_
      rintro e w1 ⟨rfl, hb1⟩
      obtain ⟨h1, h2, hb⟩ := meet_boxes hb1
      have p0 := h2.cell 0
      have p1 := h2.cell 1
      simp at p0 p1
      have H1 := Lib.hid h1
      have Hb := Lib.hid hb
      clear hb1 h1 h2 hb
      go_wp2_with fail
      refine (Ho.out _).mono ?_
      rintro e w2 ⟨rfl, hb2⟩
      have h1 := H1.out.below hb2 H1.out.lt
      have hb := Hb.out.trans (hb2.mono Hb.out.size)
      have q0 := h1.cell 0
      have q1 := h1.cell 1
      have f0 := h1.frozen 0
      have f1 := h1.frozen 1
      simp at q0 q1
      have h3 := two_set h1 (.string ml) (.string mh)
      have Hb3 : Hid (Below w.heap.size w ((w2.setCell ⟨w.heap.size + 1 + 1, 0, none⟩ (.string ml)).setCell ⟨w.heap.size + 1 + 1, 1, none⟩ (.string mh))) := Lib.hid ((hb.setCell (by show w.heap.size ≤ w.heap.size + 1 + 1; omega) _).setCell (by show w.heap.size ≤ w.heap.size + 1 + 1; omega) _)
      have H3 := Lib.hid h3
      clear hb2 h1 hb h3 p0 p1
      go_wp2
      obtain ⟨W3, hW3⟩ : ∃ W3, (w2.setCell ⟨w.heap.size + 1 + 1, 0, none⟩ (.string ml)).setCell ⟨w.heap.size + 1 + 1, 1, none⟩ (.string mh) = W3 := ⟨_, rfl⟩
      rw [hW3] at H3 Hb3 ⊢
      have r0 := H3.out.cell 0
      have r1 := H3.out.cell 1
      simp at r0 r1
      refine bodyPost_ret (v := .tuple #[.agg #[.string ml, .string mh], .bool true]) ?_ rfl ⟨rfl, Hb3.out⟩
      simp [results, Try.results12, go_sem, r0, r1]
set_option maxRecDepth 100000 in
theorem meet_any (a b : Rg) (w : World) (ha : a.lo.size ≤ 140737488355328 ∧ a.hi.size ≤ 140737488355328) (hb : b.lo.size ≤ 140737488355328 ∧ b.hi.size ≤ 140737488355328) :
    Calls Try.prog 12 #[ragg a, ragg b] w (MeetPost a b w) := by
  have HS := meet_size ha hb
  refine (meet_box a.lo a.hi b.lo b.hi (meetR a b).lo (meetR a b).hi w (decide (soonT b.hb a.hb)) (decide (emptyR (meetR a b))) (fun wx => Lib.run_max_strs wx _ _ _ _) (fun wx => sooner_any _ _ wx) ?_ (fun wx => empty_any (meetR a b) wx) (fun wx => ownR_any (meetR a b) wx HS.1 HS.2)).mono ?_
  · by_cases h : soonT b.hb a.hb
    · exact .inl ⟨decide_eq_true h, if_pos h⟩
    · exact .inr ⟨decide_eq_false h, if_neg h⟩
  · rintro e w' ⟨rfl, hb⟩
    refine ⟨?_, hb⟩
    by_cases h : emptyR (meetR a b)
    · rw [if_pos h, if_pos (decide_eq_true h)]; rfl
    · rw [if_neg h, if_neg (by rw [decide_eq_false h]; simp)]; rfl

end Go.Proofs.Ytijcaefpainhcaa
