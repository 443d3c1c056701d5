/- The document's Pack of a map (layer 12). Condition: the map is in memory. -/
import Derived.Test.YtefagaiaflddaaaAtP
import Derived.Test.YtefagaiaflddaaaAtD
import Derived.Test.YtefagaiaflddaaaBsA
import Derived.Test.YtefagaiaflddaaaPakJ
namespace Go.Proofs.Ytefagaiaflddaaa
open Go.RowKit
open Go.Lib (strCells compareBytes)

theorem bodyP_succ {l : List Pt} {k : Nat} {p : Pt} (h : l[k]? = some p) : bodyP (l.take (k + 1)) = bodyP (l.take k) ++ (textForm p.lb ++ numForm p.n.toNat) := by
  rw [take_snocP h]
  induction l.take k with
  | nil => simp [bodyP]
  | cons q L ih => simp only [List.cons_append, bodyP, ih, List.append_assoc]
set_option maxRecDepth 100000 in
set_option maxHeartbeats 6400000 in
theorem refPackM_any (ep : Int) (A : Option Addr) (n c C : Nat) (l : List Pt) (w : World) (h : HasPts w C A n l) (hC : C ≤ w.heap.size) (hn : n ≤ maxLen) (hs : ∀ p ∈ l, p.lo.size ≤ maxLen) :
    Calls Try.prog 26 #[.agg #[.int .i64 ep, .slice A n c]] w (PackPostM ep l w) := by
  have Hc := Lib.hid (refCheck_any ep A n c C l (w.alloc (.cells #[.int .i64 ep, .slice A n c] 24)) (h.alloc hC _) (by simp; omega) hn hs)
  have HM := Lib.hid (fun wx (hx : Below (w.alloc (.cells #[.int .i64 ep, .slice A n c] 24)).heap.size (w.alloc (.cells #[.int .i64 ep, .slice A n c] 24)) wx) => map_box hx)
  have HA : Hid (∀ wx, Below (w.alloc (.cells #[.int .i64 ep, .slice A n c] 24)).heap.size (w.alloc (.cells #[.int .i64 ep, .slice A n c] 24)) wx → HasPts wx C A n l ∧ C ≤ w.heap.size) := Lib.hid fun wx hx => ⟨h.belowOf (map_box hx).2.2 hC, hC⟩
  have Hl := Lib.hid h.1
  obtain ⟨z, hz⟩ : ∃ z, checkT ep l = z := ⟨_, rfl⟩
  have Hz := Lib.hid hz
  obtain ⟨r, hr⟩ : ∃ r, packT ep l = r := ⟨_, rfl⟩
  have Hr := Lib.hid hr
  unfold PackPostM
  rw [hr]
  unfold CheckPost at Hc
  rw [hz] at Hc
  obtain ⟨Z, zz⟩ := r
  clear h hs hz hr hC
  go_enter Try.func26, Try.ntmps26
  go_wp2_with fail
  refine Hc.out.mono ?_
  rintro e w1 ⟨rfl, hb1⟩
  have Hb1 := Lib.hid hb1
  obtain ⟨q0, q1, hbw⟩ := HM.out w1 hb1
  have HW1 := Lib.hid hbw
  clear hb1 hbw
  by_cases h0 : z = 0
  · subst h0
    have HR : Hid (1 ≤ ep ∧ ep ≤ 1099511627776 ∧ RightP l) := Lib.hid (check_zero.1 Hz.out)
    have hrz : (Z, zz) = (packM ep.toNat l, (0 : Int)) := by rw [← Hr.out]; unfold packT; rw [if_pos Hz.out]
    injection hrz with hz1 hz2
    subst hz2
    have HZ := Lib.hid hz1.symm
    clear hz1
    have hn8 : n ≤ 8 := by have := HR.out.2.2.most; have := Hl.out; omega
    have hep : 1 ≤ ep ∧ ep ≤ 1099511627776 := ⟨HR.out.1, HR.out.2.1⟩
    have HK : Hid (∀ wx, Below w1.heap.size w1 wx → (wx.cell? ⟨w.heap.size, 0, none⟩ = some (.int .i64 ep) ∧ wx.cell? ⟨w.heap.size, 1, none⟩ = some (.slice A n c)) ∧ Below w1.heap.size w1 wx) := Lib.hid fun wx hx => by
      obtain ⟨g0, g1, -⟩ := HM.out wx (Hb1.out.trans (hx.mono Hb1.out.size))
      exact ⟨⟨g0, g1⟩, hx⟩
    have hl9 := numForm_len9 (k := ep.toNat) (by omega)
    have hl9n := numForm_len9 (k := n) (by omega)
    clear Hc
    go_wp2
    go_region_held3 (fun wx => (wx.cell? ⟨w.heap.size, 0, none⟩ = some (.int .i64 ep) ∧ wx.cell? ⟨w.heap.size, 1, none⟩ = some (.slice A n c)) ∧ Below w1.heap.size w1 wx)
      (first | exact HK.out _ (Below.refl _ _).drew | exact HK.out _ (below_thn (And.right (by assumption)) b1 (And.right (by assumption) : Below w1.heap.size w1 _).size) | exact HK.out _ (below_thn (And.right (by assumption)) b2 (And.right (by assumption) : Below w1.heap.size w1 _).size) | exact HK.out _ hbA)
      (first
        | (go_at_call_of 45 (Value.int IntKind.i64 ep); refine (refPutNum_any ep _ (by omega)).mono ?_; rintro e w3 ⟨v3, rfl, o3, b1⟩; rw [if_neg (by omega)] at o3; obtain ⟨A3, m3, rfl, -, -, -⟩ := own_slice o3)
        | (go_at_call_of 45 (Value.int IntKind.i64 (n : Int)); refine (refPutNum_any (n : Int) _ (by omega)).mono ?_; rintro e w4 ⟨v4, rfl, o4, b2⟩; rw [if_neg (by omega), Int.toNat_natCast] at o4; obtain ⟨A4, m4, rfl, -, -, x4⟩ := own_slice o4; have b12 : Below w1.heap.size w1 w4 := (((Below.refl w1.heap.size w1).drew).trans b1).trans (b2.mono b1.size); have o34 := own_belowN o3 b2)
        | (refine step_append_hasN (by rfl) _ _ _ (by rfl) 5 u8_elemN (by omega) Try.underlying62 (by rfl) o34 (by rfl) (by rw [Nat.mul_one]; exact x4) (byteCells_one _) (by simp only [maxLen]; omega) (by omega) (Nat.le_trans b1.size b2.size) ?_; intro vA wA oA gA zA; have hbA : Below w1.heap.size w1 wA := b12.grown gA b12.size (fun g e => (o3.lt g e).1)))
    have HO : Hid (OwnBs wA w1.heap.size vA (numForm ep.toNat ++ numForm n ++ bodyP (l.take 0))) := Lib.hid (by
      have h9 := OwnBs.app (B := w1.heap.size) oA rfl
      simpa [bodyP] using h9)
    have HBA := Lib.hid hbA
    have Hbl : Hid (∀ k, (bodyP (l.take k)).length ≤ 1600) := Lib.hid fun k => by
      have h1 := bodyP_le (l := l.take k) fun x hx => HR.out.2.2.each x (List.mem_of_mem_take hx)
      rw [List.length_take, Hl.out] at h1
      omega
    clear ‹_ ∧ Below w1.heap.size w1 wA› o3 o4 b1 b2 b12 x4 o34 oA gA zA hbA q0 q1
    obtain ⟨⟨q0, q1⟩, -⟩ := HK.out _ HBA.out
    go_wp2
    go_loopw [5, 6] (fun o i wr => ∃ k : Nat, k ≤ n ∧ i = .int .i64 (k : Int) ∧ OwnBs wr w1.heap.size o (numForm ep.toNat ++ numForm n ++ bodyP (l.take k)) ∧ Below w1.heap.size w1 wr) (fun _ i _ => n - (intOf i).toNat)
    case atStart => exact ⟨0, by omega, rfl, HO.out, HBA.out⟩
    case round =>
      clear HO HBA q0 q1
      obtain ⟨k, hk, rfl, ho, hb⟩ := hrel
      have Ho := Lib.hid ho
      have Hb := Lib.hid hb
      have hsz := hb.size
      obtain ⟨⟨q0, q1⟩, -⟩ := HK.out _ hb
      by_cases hlt : k < n
      · obtain ⟨a, y, rfl, hab, hy, c0, c1⟩ := (HA.out wr (Hb1.out.trans (hb.mono Hb1.out.size))).1.at_ hlt
        have hCw : a.block < w.heap.size := by have := (HA.out w1 Hb1.out).2; omega
        have hye := HR.out.2.2.each y (List.mem_of_getElem? hy)
        have Hbs := Lib.hid (bodyP_succ hy)
        have hlo : y.lo.size ≤ 100 := by have := hye.1; rw [lo_size] at this; exact this
        have hnd := hye.2
        have Hlen : Hid ((numForm ep.toNat ++ numForm n ++ bodyP (l.take k)).length ≤ 1700) := Lib.hid (by rw [List.length_append, List.length_append]; have := Hbl.out k; omega)
        obtain ⟨plo, pn⟩ := y
        simp only [Pt.lb] at c0 c1 hlo hnd Hbs
        have hl9p := numForm_len9 (k := pn.toNat) (by omega)
        have hlk : (textForm plo.data.toList).length ≤ 109 := by
          have h8 := numForm_len9 (k := plo.size) (by omega)
          rw [textForm_len, size_bytes]
          omega
        have hw0 : w.heap.size ≤ w1.heap.size := by have := Hb1.out.size; simp only [World.size_alloc] at this; omega
        have hk0 : (0 : Int) ≤ (k : Int) := by omega
        have hk1 : (k : Int) < (n : Int) := by omega
        clear hy hye ho hb
        go_wp2_with fail
        refine (refPutText_any plo wr (by omega)).mono ?_
        rintro e w3 ⟨v3, rfl, o3, b3⟩
        obtain ⟨A3, m3, rfl, -, -, x3⟩ := own_slice o3
        have Ho3 := Lib.hid (own_belowN Ho.out b3)
        have Hb3 := Lib.hid (Hb.out.trans (b3.mono hsz))
        have hsz3 : w1.heap.size ≤ w3.heap.size := Nat.le_trans hsz b3.size
        have X3 := Lib.hid x3
        have c13 := (b3.cell (p := ⟨(a.add (k * 2)).block, (a.add (k * 2)).off + 1, none⟩) (by show (a.add (k * 2)).block < _; rw [addr_block]; omega)).trans c1
        have q13 := (HK.out _ Hb3.out).1.2
        clear o3 b3 x3 c0 c1 q0 q1
        go_wp2_with (at_builtin; refine wpList_append_has rfl (.tmp 27) (.tmp 34) _ rfl 5 u8_elem Try.underlying62 rfl Ho3.out rfl X3.out (byteCells_one _) (by have := Hlen.out; simp only [maxLen]; omega) (by have := Hlen.out; omega) hsz3 ?_; intro v4 w4 o4 g4 _; have c14 : w4.cell? ⟨(a.add (k * 2)).block, (a.add (k * 2)).off + 1, none⟩ = some (.int .i64 pn) := (((Below.refl w1.heap.size w3).grown g4 hsz3 fun g e => (Ho3.out.lt g e).1).cell (p := ⟨(a.add (k * 2)).block, (a.add (k * 2)).off + 1, none⟩) (by show (a.add (k * 2)).block < _; rw [addr_block]; omega)).trans c13; have Hb4 : Hid (Below w1.heap.size w1 w4) := Lib.hid (Hb3.out.grown g4 hsz3 fun g e => (Ho3.out.lt g e).1); have Ho4 : Hid (OwnBs w4 w1.heap.size v4 ((numForm ep.toNat ++ numForm n ++ bodyP (l.take k)) ++ textForm plo.data.toList)) := Lib.hid (OwnBs.app o4 rfl); have q14 := (HK.out _ Hb4.out).1.2; have hsz4 : w1.heap.size ≤ w4.heap.size := Hb4.out.size; clear o4 g4 c13 q13)
        refine (refPutNum_any pn w4 (by omega)).mono ?_
        rintro e w5 ⟨v5, rfl, o5, b5⟩
        rw [if_neg (by omega)] at o5
        obtain ⟨A5, m5, rfl, -, -, x5⟩ := own_slice o5
        have Ho5 := Lib.hid (own_belowN Ho4.out b5)
        have Hb5 := Lib.hid (Hb4.out.trans (b5.mono hsz4))
        have hsz5 : w1.heap.size ≤ w5.heap.size := Nat.le_trans hsz4 b5.size
        have X5 := Lib.hid x5
        have Hlen4 : Hid (((numForm ep.toNat ++ numForm n ++ bodyP (l.take k)) ++ textForm plo.data.toList).length ≤ 2000) := Lib.hid (by rw [List.length_append]; have := Hlen.out; omega)
        clear o5 b5 x5
        go_wp2_with (at_builtin; refine wpList_append_has rfl (.tmp 36) (.tmp 43) _ rfl 5 u8_elem Try.underlying62 rfl Ho5.out rfl X5.out (byteCells_one _) (by have := Hlen4.out; simp only [maxLen]; omega) (by have := Hlen4.out; omega) hsz5 ?_; intro v7 w7 o7 g7 _)
        have Ho7 : Hid (OwnBs w7 w1.heap.size v7 (numForm ep.toNat ++ numForm n ++ bodyP (l.take (k + 1)))) := Lib.hid (by
          have h1 := OwnBs.app (a := (numForm ep.toNat ++ numForm n ++ bodyP (l.take k)) ++ textForm plo.data.toList) (b := numForm pn.toNat) o7 rfl
          rw [Hbs.out]
          simpa [List.append_assoc] using h1)
        have Hb7 := Lib.hid (Hb5.out.grown g7 hsz5 fun g e => (Ho5.out.lt g e).1)
        clear o7 g7
        go_wp2
        go_roundw
        case rel => exact ⟨k + 1, by omega, by go_num, Ho7.out, Hb7.out⟩
        case measure => simp [intOf]; omega
      · obtain rfl : n = k := by omega
        have E : Hid (l.take n = l) := Lib.hid (List.take_of_length_le (by have := Hl.out; omega))
        have hZ : numForm ep.toNat ++ numForm n ++ bodyP (l.take n) = Z := by rw [← HZ.out, E.out]; unfold packM; rw [Hl.out]; simp [List.append_assoc]
        rw [hZ] at ho
        obtain ⟨NZ, hNZ⟩ : ∃ NZ, Z.length = NZ := ⟨_, rfl⟩
        unfold OwnBs at ho
        rw [hNZ] at ho
        obtain ⟨A6, c6, rfl, -, -, hh6⟩ := own_slice ho
        have hcv : (convert 62 9 (.slice A6 NZ c6)).run Try.prog wr = .ok (.string ⟨Z.toArray⟩) wr := string_run (w := wr) (l := Z) hh6 c6
        have HE : Hid (Below w.heap.size w wr) := Lib.hid (HW1.out.trans (hb.mono HW1.out.size))
        clear ho hb hh6 hNZ hZ
        go_wp2
        go_ret2
        exact ⟨rfl, HE.out⟩
  · have h0' : (z == 0) = false := by simpa using h0
    have h0'' : (z != 0) = true := by simpa using h0
    have hrz : (Z, zz) = (([] : List UInt8), z) := by rw [← Hr.out]; unfold packT; rw [Hz.out, if_neg h0]
    injection hrz with hz1 hz2
    subst hz1
    subst hz2
    clear h0
    go_wp2
    go_ret2
    exact ⟨rfl, HW1.out⟩
end Go.Proofs.Ytefagaiaflddaaa
