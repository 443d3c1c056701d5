/- letter.Pack: a letter's bytes. Condition: texts shorter than 2^47 bytes. -/
import Derived.Test.YtabcoidjbigdbaaLetF
import Derived.Test.YtabcoidjbigdbaaConv
namespace Go.Proofs.Ytabcoidjbigdbaa
open Go.RowKit
open Go.Lib (strCells)

def Let.packed (L : Let) : List UInt8 := if L.err = 0 then formsOf L.toks else []
theorem err_zero {L : Let} : L.err = 0 ↔ L.inside ∧ L.ps.length ≤ 256 ∧ L.is.length ≤ 256 ∧ (formsOf L.toks).length ≤ 65536 := by
  unfold Let.err
  by_cases h1 : L.inside
  · rw [if_neg (fun h => h h1)]
    by_cases h2 : 256 < L.ps.length ∨ 256 < L.is.length ∨ 65536 < (formsOf L.toks).length
    · rw [if_pos h2]
      constructor
      · intro h; omega
      · rintro ⟨-, h3, h4, h5⟩; omega
    · rw [if_neg h2]
      exact ⟨fun _ => ⟨h1, by omega, by omega, by omega⟩, fun _ => rfl⟩
  · rw [if_pos h1]
    exact ⟨fun h => by omega, fun h => absurd h.1 h1⟩
theorem flat_flatten : ∀ L : List (List UInt8), flat L = L.flatten
  | [] => rfl
  | p :: l => by simp [flat, flat_flatten l]
theorem tok_le {x : LTok} : ∀ {T : List LTok}, x ∈ T → (tokForm x).length ≤ (formsOf T).length
  | y :: T, h => by
    have e : (formsOf (y :: T)).length = (tokForm y).length + (formsOf T).length := by simp [formsOf]
    rcases List.mem_cons.1 h with rfl | h
    · omega
    · have := tok_le h; omega
theorem text_le {s : ByteArray} {T : List LTok} (h : .t s ∈ T) : s.size ≤ (formsOf T).length := by
  have h1 := tok_le h
  have h2 : (tokForm (.t s)).length = (numForm s.size).length + s.size := by show (textForm s.data.toList).length = _; rw [textForm_len, size_bytes]
  omega
theorem pr_mem {p : LPr} : ∀ {l : List LPr}, p ∈ l → (LTok.t p.k ∈ prToks l ∧ LTok.t p.v ∈ prToks l)
  | q :: l, h => by
    rcases List.mem_cons.1 h with rfl | h
    · simp [prToks]
    · have := pr_mem h
      exact ⟨by simp [prToks, this.1], by simp [prToks, this.2]⟩
theorem it_mem {p : LIt} : ∀ {l : List LIt}, p ∈ l → LTok.t p.e ∈ itToks l
  | q :: l, h => by
    rcases List.mem_cons.1 h with rfl | h
    · simp [itToks]
    · simp [itToks, it_mem h]
theorem let_small {L : Let} (h : (formsOf L.toks).length ≤ 65536) : (∀ s ∈ L.txts, s.size ≤ 1000000) ∧ (∀ p ∈ L.ps, p.k.size ≤ 1000000 ∧ p.v.size ≤ 1000000) ∧ (∀ p ∈ L.is, p.e.size ≤ 1000000) := by
  refine ⟨fun s hs => ?_, fun p hp => ⟨?_, ?_⟩, fun p hp => ?_⟩
  · exact Nat.le_trans (text_le (T := L.toks) (by unfold Let.toks; simp only [List.mem_append, List.mem_cons, List.mem_map]; exact .inl (.inl (.inr (.inr ⟨s, hs, rfl⟩))))) (by omega)
  · exact Nat.le_trans (text_le (T := L.toks) (by unfold Let.toks; simp only [List.mem_append, List.mem_cons]; exact .inl (.inr (.inr (pr_mem hp).1)))) (by omega)
  · exact Nat.le_trans (text_le (T := L.toks) (by unfold Let.toks; simp only [List.mem_append, List.mem_cons]; exact .inl (.inr (.inr (pr_mem hp).2)))) (by omega)
  · exact Nat.le_trans (text_le (T := L.toks) (by unfold Let.toks; simp only [List.mem_append, List.mem_cons]; exact .inr (.inr (it_mem hp)))) (by omega)
/-- what letter.Pack answers -/
def LetPackPost (L : Let) (w : World) (e : Ending) (w' : World) : Prop := e = .returned (.tuple #[.string ⟨L.packed.toArray⟩, .int .i64 L.err]) ∧ Below w.heap.size w w'
theorem StP.next {w0 : World} {g : Nat} {F : List (List UInt8)} {wx w' : World} (h : StP w0 g F wx) (hb : Below wx.heap.size wx w') : StP w0 g F w' := by
  obtain ⟨v, rs, h1, h2, h3, h4, h5, h6⟩ := h
  exact ⟨v, rs, h1.below hb h1.lt, h2.below hb, h3, h4.trans (hb.mono (by omega)), Nat.le_trans h5 hb.size, h6⟩
set_option maxRecDepth 100000 in
set_option maxHeartbeats 6400000 in
theorem letPack_any (L : Let) (Ap : Option Addr) (np cp : Nat) (Ai : Option Addr) (ni ci : Nat) (C : Nat) (w : World) (hP : HasLps w C Ap np L.ps) (hI : HasLis w C Ai ni L.is) (hC : C ≤ w.heap.size) (hn : np ≤ maxLen ∧ ni ≤ maxLen) (ht : ∀ s ∈ L.txts, s.size ≤ 140737488355328) (htp : ∀ p ∈ L.ps, p.k.size ≤ 140737488355328 ∧ p.v.size ≤ 140737488355328) (hti : ∀ p ∈ L.is, p.e.size ≤ 140737488355328) :
    Calls Try.prog 12 #[.agg #[.int .i64 L.kind, .int .i64 L.frm, .int .i64 L.to, .int .i64 L.a, .int .i64 L.b, .int .i64 L.c, .int .i64 L.d, .string L.s, .string L.t, .slice Ap np cp, .slice Ai ni ci, .int .i64 L.code, .bool L.yes, .string L.body]] w (LetPackPost L w) := by
  have HB0 : Hid (Below w.heap.size w (w.alloc (.cells #[.int .i64 L.kind, .int .i64 L.frm, .int .i64 L.to, .int .i64 L.a, .int .i64 L.b, .int .i64 L.c, .int .i64 L.d, .string L.s, .string L.t, .slice Ap np cp, .slice Ai ni ci, .int .i64 L.code, .bool L.yes, .string L.body] 26))) := Lib.hid (below_box _)
  have HLB : Hid (∀ wx, Below (w.alloc (.cells #[.int .i64 L.kind, .int .i64 L.frm, .int .i64 L.to, .int .i64 L.a, .int .i64 L.b, .int .i64 L.c, .int .i64 L.d, .string L.s, .string L.t, .slice Ap np cp, .slice Ai ni ci, .int .i64 L.code, .bool L.yes, .string L.body] 26)).heap.size (w.alloc (.cells #[.int .i64 L.kind, .int .i64 L.frm, .int .i64 L.to, .int .i64 L.a, .int .i64 L.b, .int .i64 L.c, .int .i64 L.d, .string L.s, .string L.t, .slice Ap np cp, .slice Ai ni ci, .int .i64 L.code, .bool L.yes, .string L.body] 26)) wx → Box wx w.heap.size 26 #[.int .i64 L.kind, .int .i64 L.frm, .int .i64 L.to, .int .i64 L.a, .int .i64 L.b, .int .i64 L.c, .int .i64 L.d, .string L.s, .string L.t, .slice Ap np cp, .slice Ai ni ci, .int .i64 L.code, .bool L.yes, .string L.body]) := Lib.hid fun wx hx => (let_box hx).1
  have HCk := Lib.hid (letCheck_any L Ap np cp Ai ni ci C (w.alloc (.cells #[.int .i64 L.kind, .int .i64 L.frm, .int .i64 L.to, .int .i64 L.a, .int .i64 L.b, .int .i64 L.c, .int .i64 L.d, .string L.s, .string L.t, .slice Ap np cp, .slice Ai ni ci, .int .i64 L.code, .bool L.yes, .string L.body] 26)) (hP.belowOf (below_box _) hC) (hI.belowOf (below_box _) hC) (by simp; omega) hn ht htp hti)
  have HPI : Hid (∀ wx, Below w.heap.size w wx → HasLps wx C Ap np L.ps ∧ HasLis wx C Ai ni L.is ∧ C ≤ wx.heap.size) := Lib.hid fun wx hx => ⟨hP.belowOf hx hC, hI.belowOf hx hC, Nat.le_trans hC hx.size⟩
  have Hlp := Lib.hid hP.1
  have Hli := Lib.hid hI.1
  unfold LetErrPost at HCk
  unfold LetPackPost
  obtain ⟨z, hz⟩ : ∃ z, L.err = z := ⟨_, rfl⟩
  obtain ⟨Z, hZ⟩ : ∃ Z, L.packed = Z := ⟨_, rfl⟩
  rw [hz] at HCk ⊢
  rw [hZ]
  have HZ := Lib.hid hZ
  have Hz := Lib.hid hz
  clear hP hI ht htp hti hz hZ hn
  go_enter Try.func12, Try.ntmps12
  go_wp2_with fail
  refine HCk.out.mono ?_
  rintro e w1 ⟨rfl, b1⟩
  have Hb1 := Lib.hid b1
  have HE1 := Lib.hid (HB0.out.trans (b1.mono HB0.out.size))
  clear b1 HCk
  by_cases h0 : z = 0
  · subst h0
    have HK := Lib.hid (err_zero.1 Hz.out)
    have HSm := Lib.hid (let_small HK.out.2.2.2)
    obtain rfl : formsOf L.toks = Z := by rw [← HZ.out]; exact (if_pos Hz.out).symm
    have hbw : Below w1.heap.size w1 (w1.alloc (.cells #[.slice none 0 0] 67)) := below_box _
    have hlc := let_cells (HLB.out _ (Hb1.out.trans (hbw.mono Hb1.out.size)))
    obtain ⟨⟨d0, d1, d2, d3, d4, d5, d6⟩, ⟨d7, d8⟩, ⟨d9, d10⟩, ⟨d11, d12, d13⟩⟩ := hlc
    have HS0 : Hid (StP w1 w1.heap.size [] (w1.alloc (.cells #[.slice none 0 0] 67))) := Lib.hid
      ⟨.slice none 0 0, [], Box.made _ _ _, ⟨World.ownsRow_nil _ _ _ _, fun r hr => by simp at hr⟩, rfl, hbw, by simp, by simp⟩
    have HT := Lib.hid (tellP_any (fun T wx => StP w1 w1.heap.size (T.map tokForm) wx) badP (by unfold badP; decide) (by unfold badP; decide) (by unfold badP; decide) w1.heap.size L Ap np cp Ai ni ci C 1000000 (w1.alloc (.cells #[.slice none 0 0] 67))
      (fun T wx h => by
        obtain ⟨v, rs, h1, h2, h3, h4, h5, h6⟩ := h
        exact HPI.out wx (HE1.out.trans (h4.mono HE1.out.size)))
      (fun T wx w' h hb => StP.next h hb)
      (fun T n wx h hn hT => by
        have h9 := packNum_any w1 w1.heap.size (T.map tokForm) n wx h hn (by rw [List.length_map]; omega)
        have e1 : T.map tokForm ++ [numForm n.toNat] = (T ++ [LTok.n n]).map tokForm := by
          rw [List.map_append]
          show _ = T.map tokForm ++ [if n < 0 then [] else numForm n.toNat]
          rw [if_neg (by have := hn.1; omega)]
        rw [e1] at h9
        exact h9)
      (fun T s wx h hs hT => by
        have h9 := packText_any w1 w1.heap.size (T.map tokForm) s wx h hs (by rw [List.length_map]; omega)
        have e1 : T.map tokForm ++ [textForm s.data.toList] = (T ++ [LTok.t s]).map tokForm := by
          rw [List.map_append]
          rfl
        rw [e1] at h9
        exact h9)
      HS0.out HK.out.1 (by have := HK.out.2.1; have := Hlp.out; omega) (by have := HK.out.2.2.1; have := Hli.out; omega) HSm.out.1 HSm.out.2.1 HSm.out.2.2)
    clear hbw HS0
    go_wp2_with fail
    refine HT.out.mono ?_
    rintro e w3 ⟨rfl, ⟨v, rs, h1, h2, h3, h4, h5, h6⟩, -⟩
    obtain ⟨Aq, cq, rfl, -, -, hph⟩ := own_slice h2.own
    have HW3 := Lib.hid (HE1.out.trans (h4.mono HE1.out.size))
    have c3 : w3.cell? ⟨w1.heap.size, 0, none⟩ = some (.slice Aq rs.length cq) := h1.cell 0
    have Hparts : Hid (Parts w3 w3.heap.size Aq rs.length (pvCells rs) (rs.map (·.2))) := Lib.hid ⟨hph, by simp [pvCells], fun j hj => by
      rw [List.length_map] at hj
      obtain ⟨A', c', e', -, -, hh⟩ := own_slice (h2.rows rs[j] (List.getElem_mem hj))
      exact ⟨A', rs[j].2.length, c', by simp [pvCells, hj, e'], by simpa [hj] using hh⟩⟩
    have Hflat : Hid (flat (rs.map (·.2)) = formsOf L.toks) := Lib.hid (by rw [h3]; unfold formsOf; exact flat_flatten _)
    have Hj := Lib.hid (join_any Aq rs.length cq w3.heap.size (pvCells rs) (rs.map (·.2)) w3 Hparts.out (Nat.le_refl _) (by rw [Hflat.out]; have := HK.out.2.2.2; omega) (by rw [← h3, List.length_map] at h6; omega))
    rw [Hflat.out] at Hj
    obtain ⟨NZ, hNZ⟩ : ∃ NZ, (formsOf L.toks).length = NZ := ⟨_, rfl⟩
    rw [hNZ] at Hj
    clear h1 h2 h3 h4 h5 h6 hph hNZ d0 d1 d2 d3 d4 d5 d6 d7 d8 d9 d10 d11 d12 d13
    go_wp2_with fail
    refine Hj.out.mono ?_
    rintro e w6 ⟨v6, rfl, o6, b6⟩
    obtain ⟨A6, c6, rfl, -, -, hh6⟩ := own_slice o6
    have hcv : (convert 69 9 (.slice A6 NZ c6)).run Try.prog w6 = .ok (.string ⟨(formsOf L.toks).toArray⟩) w6 := string_run (w := w6) (l := formsOf L.toks) hh6 c6
    have HE : Hid (Below w.heap.size w w6) := Lib.hid (HW3.out.trans (b6.mono HW3.out.size))
    clear o6 b6 hh6
    go_wp2
    go_ret2
    exact ⟨rfl, HE.out⟩
  · have h0' : (z == 0) = false := by simpa using h0
    have h0'' : (z != 0) = true := by simpa using h0
    obtain rfl : [] = Z := by rw [← HZ.out]; exact (if_neg (by rw [Hz.out]; exact h0)).symm
    clear h0
    go_wp2
    go_ret2
    exact ⟨rfl, HE1.out⟩
end Go.Proofs.Ytabcoidjbigdbaa
