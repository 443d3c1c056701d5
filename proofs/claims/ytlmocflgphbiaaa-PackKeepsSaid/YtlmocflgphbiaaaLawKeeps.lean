/- The law PackKeeps: for every input it returns true and leaves what it was given. No condition. -/
import Derived.Test.YtlmocflgphbiaaaLawPuts
namespace Go.Proofs.Ytlmocflgphbiaaa
open Go.RowKit
open Go.Lib (strCells)

theorem parts1 (w : World) (g : Nat) (hg : w.heap.size = g) (A1 : Option Addr) (n1 c1 : Nat) (a : List UInt8) (t : TypeId) (h1 : HasBytes w w.heap.size A1 n1 a) :
    Parts (w.alloc (.cells #[.slice A1 n1 c1] t)) (g + 1) (some ⟨g, 0, none⟩) 1 [.slice A1 n1 c1] [a] := by
  subst hg
  refine ⟨Has.lit w #[.slice A1 n1 c1] t, rfl, fun k hk => ?_⟩
  match k, hk with
  | 0, _ => exact ⟨A1, n1, c1, rfl, (h1.alloc (Nat.le_refl _) _).more (by omega)⟩
theorem parts2 (w : World) (g : Nat) (hg : w.heap.size = g) (A1 A2 : Option Addr) (n1 n2 c1 c2 : Nat) (a b : List UInt8) (t : TypeId) (h1 : HasBytes w w.heap.size A1 n1 a) (h2 : HasBytes w w.heap.size A2 n2 b) :
    Parts (w.alloc (.cells #[.slice A1 n1 c1, .slice A2 n2 c2] t)) (g + 1) (some ⟨g, 0, none⟩) 2 [.slice A1 n1 c1, .slice A2 n2 c2] [a, b] := by
  subst hg
  refine ⟨Has.lit w #[.slice A1 n1 c1, .slice A2 n2 c2] t, rfl, fun k hk => ?_⟩
  match k, hk with
  | 0, _ => exact ⟨A1, n1, c1, rfl, (h1.alloc (Nat.le_refl _) _).more (by omega)⟩
  | 1, _ => exact ⟨A2, n2, c2, rfl, (h2.alloc (Nat.le_refl _) _).more (by omega)⟩
theorem own_base {w : World} {B B' m : Nat} {e : TypeId} {v : Value} {xs : List Value} (h : w.ownsRow B e 1 v m xs) (hB : B' ≤ B) : w.ownsRow B' e 1 v m xs := by
  refine ⟨h.1, ?_⟩
  rcases h.2 with hn | ⟨g, cap, cur, hv, hb, rest⟩
  · exact .inl hn
  · exact .inr ⟨g, cap, cur, hv, Nat.le_trans hB hb, rest⟩
theorem own_at {w : World} {B m c : Nat} {e : TypeId} {A : Option Addr} {xs : List Value} (h : w.ownsRow B e 1 (.slice A m c) m xs) (hm : 0 < m) : ∃ g, A = some ⟨g, 0, none⟩ ∧ B ≤ g := by
  rcases h.2 with ⟨_, h0⟩ | ⟨g, cap, cur, hv, hb, _⟩
  · omega
  · injection hv with hA _ _
    exact ⟨g, hA, hb⟩
theorem lit_bytes (w : World) (l : List UInt8) (t : TypeId) (cs : Array Value) (hcs : cs.toList = byteCells l) : HasBytes (w.alloc (.cells cs t)) (w.alloc (.cells cs t)).heap.size (some ⟨w.heap.size, 0, none⟩) l.length l := by
  have h := Has.lit w cs t
  have hsz : cs.size = l.length := by
    have := congrArg List.length hcs
    rw [byteCells_length] at this
    simpa using this
  rw [hcs, hsz] at h
  refine Has.more h (by simp)

set_option maxRecDepth 100000 in
set_option maxHeartbeats 1600000 in
theorem packKeeps_walk (A D : Option Addr) (n c C n' c' C' : Nat) (l : List UInt8) (ss : List ByteArray) (w : World) (h : HasBytes w C A n l) (hC : C ≤ w.heap.size) (hn : n ≤ maxLen)
    (h' : HasTexts w C' D n' ss) (hC' : C' ≤ w.heap.size) (hn' : n' ≤ maxLen) (hss : ∀ s ∈ ss, s.size ≤ maxLen) :
    Calls Try.prog 9 #[.slice A n c, .slice D n' c'] w fun e w' => e = .returned (.bool true) ∧ Below w.heap.size w w' := by
  have hn2 := hn
  unfold maxLen at hn2
  have H := Lib.hid h
  have HS := Lib.hid h'
  clear h h'
  by_cases hbig : 1000 < n
  · go_enter Try.func9, Try.ntmps9
    go_wp2_with fail
    refine (awake_any _).mono ?_
    rintro e w1 ⟨rfl, hb1⟩
    go_wp2_with fail
    go_ret
    exact ⟨rfl, hb1⟩
  · have Hbulk : Hid (∀ W, HasTexts W C' D n' ss → Calls Try.prog 11 #[.slice D n' c', .int .i64 1000] W (BulkPost ss 1000 W)) :=
      Lib.hid fun W hW => bulk_any D n' c' C' 1000 ss W hW hn' (by omega) hss
    go_enter Try.func9, Try.ntmps9
    go_wp2_with fail
    refine (awake_any _).mono ?_
    rintro e w1 ⟨rfl, hb1⟩
    have H1 := Lib.hid (H.out.belowOf hb1 hC)
    have HS1 := Lib.hid (HS.out.belowOf hb1 hC')
    have hC1 := Nat.le_trans hC hb1.size
    have hC1' := Nat.le_trans hC' hb1.size
    have Hb1 := Lib.hid hb1
    clear hb1
    go_wp2_with fail
    refine (Hbulk.out _ HS1.out).mono ?_
    rintro e _ ⟨r, rfl, hr, rfl⟩
    by_cases hr3 : 1000 < r
    · go_wp2_with fail
      go_ret
      exact ⟨rfl, Hb1.out⟩
    · have ht := hr (by omega)
      obtain ⟨hln, hsm, hbody⟩ := tot_body (most := 1000) ss (by omega) ht
      have hnn : n' ≤ 1000 := by rw [← HS.out.len]; exact hln
      have hxf : (textsForm (raw ss)).length ≤ 10009 := by rw [textsForm, List.length_append]; have := numForm_len9 (k := (raw ss).length) (by simp [raw]; omega); omega
      have Hbody : Hid ((textsBody (raw ss)).length ≤ 1000000) := Lib.hid (by omega)
      clear hr ht hln hsm hbody
      have Hlit := Lib.hid (World.ownsRow_lit (base := w1.heap.size) (e := 5) (size := 1) w1 #[] 0 (Nat.le_refl _) (by simp [maxLen]) rfl)
      have Hbl := Lib.hid ((Below.refl w1.heap.size w1).alloc (Nat.le_refl _) (.cells #[] 5))
      have hn0 : (0 : Int) ≤ (n : Int) := by omega
      go_wp2_with
        (first
          | (at_builtin
             refine wpList_append_has rfl (.tmp 23) (.tmp 24) _ rfl 5 u8_elem Try.underlying25 rfl Hlit.out rfl (H1.out.alloc hC1 _) (byteCells_one _) (by simp only [maxLen]; omega) (by omega) (le_alloc (Nat.le_refl _) _) ?_
             intro v2 w2 hown2 hg2 _
             have Hb2 := Lib.hid (below_own Hbl.out Hlit.out hg2 (le_alloc (Nat.le_refl _) _))
             have Ho2 := Lib.hid hown2
             clear hown2 hg2)
          | (at_builtin
             refine wpList_append_has rfl (.tmp 25) (.tmp 26) _ rfl 5 u8_elem Try.underlying25 rfl (Ho2.out.alloc _) rfl (lit_bytes w2 [1, 2, 3] 5 _ rfl) (byteCells_one _) (by simp only [maxLen]; simp; omega) (by simp; omega) (le_alloc Hb2.out.size _) ?_
             intro v3 w3 hown3 hg3 _
             have Hb3 := Lib.hid (below_own (Hb2.out.alloc Hb2.out.size _) (Ho2.out.alloc _) hg3 (le_alloc Hb2.out.size _))
             obtain ⟨A3, c3, rfl, hc3, _, hh3⟩ := own_slice hown3
             have hnc3 : (n : Int) ≤ (c3 : Int) := by simp at hc3; omega
             have Hh3 := Lib.hid hh3
             clear hown3 hg3 hh3))
      have Hw3 := Lib.hid (Hb1.out.trans (Hb3.out.mono Hb1.out.size))
      have Hown3 : Hid (HasBytes w3 w3.heap.size A3 (n + 3) (l ++ [1, 2, 3])) := Lib.hid (by
        have e : (#[] : Array Value).toList ++ byteCells l ++ byteCells [1, 2, 3] = byteCells (l ++ [1, 2, 3]) := by simp [byteCells]
        have := Hh3.out
        rw [e] at this
        simpa using this)
      have Hpart3 : Hid (HasBytes w3 w3.heap.size A3 n l) := Lib.hid (by
        have := HasBytes.head Hown3.out (k := n) (by omega)
        rwa [List.take_append_of_le_length (by rw [H.out.len]; omega), List.take_of_length_le (by rw [H.out.len]; omega)] at this)
      have H3 := Lib.hid (H1.out.belowOf Hb3.out hC1)
      have HS3 := Lib.hid (HS1.out.belowOf Hb3.out hC1')
      have hC3 := Nat.le_trans hC1 Hb3.out.size
      have hC3' := Nat.le_trans hC1' Hb3.out.size
      clear Hh3 Hb3 Ho2 Hb2 Hlit Hbl H1 HS1
      have hp2 := parts2 (w3.alloc (.cells #[.int .u8 9] 5)) (w3.heap.size + 1) (by simp) A3 (some ⟨w3.heap.size, 0, none⟩) n 1 c3 1 l [9] 25
        ((Hpart3.out.alloc (Nat.le_refl _) _).more (by simp)) (lit_bytes w3 [9] 5 _ rfl)
      have hb3p := ((Below.refl _ w3).alloc (Nat.le_refl _) (.cells #[.int .u8 9] 5)).alloc (by simp) (.cells #[.slice A3 n c3, .slice (some ⟨w3.heap.size, 0, none⟩) 1 1] 25)
      refine (join_any _ 2 2 _ _ _ _ hp2 (by simp) (by simp [flat, H.out.len]; omega) (by omega)).mono ?_
      rintro e w4 ⟨v4, rfl, hown4, hb4⟩
      obtain ⟨A4, c4, rfl, _, _, hh4⟩ := own_slice hown4
      have hb34 := hb3p.trans (hb4.mono hb3p.size)
      have Hx4 := Lib.hid hh4
      have Hown4 := Lib.hid ((Hown3.out.below hb34).more hb34.size)
      have Hpart4 := Lib.hid ((Hpart3.out.below hb34).more hb34.size)
      have H4 := Lib.hid (H3.out.belowOf hb34 hC3)
      have HS4 := Lib.hid (HS3.out.belowOf hb34 hC3')
      have hC4 := Nat.le_trans hC3 hb34.size
      have hC4' := Nat.le_trans hC3' hb34.size
      have Hw4 := Lib.hid (Hw3.out.trans (hb34.mono Hw3.out.size))
      clear hp2 hb3p hown4 hb4 hh4 hb34 Hown3 Hpart3 H3 HS3 Hw3
      go_wp2_with fail
      have hp1 := parts1 w4 w4.heap.size rfl A3 n c3 l 25 Hpart4.out
      have hb4p := (Below.refl _ w4).alloc (Nat.le_refl _) (.cells #[.slice A3 n c3] 25)
      refine (join_any _ 1 1 _ _ _ _ hp1 (by simp) (by simp [flat, H.out.len]; omega) (by omega)).mono ?_
      rintro e w5 ⟨v5, rfl, hown5, hb5⟩
      have e5 : flat [l] = l := by simp [flat]
      rw [e5, H.out.len] at hown5
      obtain ⟨A5, c5, rfl, hc5, _, _⟩ := own_slice hown5
      have hb45 := hb4p.trans (hb5.mono hb4p.size)
      have Hy5 : Hid (w5.ownsRow w4.heap.size 5 1 (.slice A5 n c5) n (byteCells l)) := Lib.hid (own_base hown5 (by simp))
      have Hw5 := Lib.hid hb45
      clear hp1 hb4p hown5 hb5 hb45 e5
      go_wp2_with fail
      go_loopw [9] (fun i wr => ∃ (j : Nat) (zs : List Int), j ≤ n ∧ i = .int .i64 (j : Int) ∧ wr.ownsRow w4.heap.size 5 1 (.slice A5 n c5) n (zs.map (Value.int .u8)) ∧ Below w4.heap.size w4 wr) (fun i _ => n - (intOf i).toNat)
      case atStart => exact ⟨0, l.map (fun b => (b.toNat : Int)), by omega, rfl, by rw [List.map_map]; exact Hy5.out, Hw5.out⟩
      case round =>
        obtain ⟨j, zs, hj, rfl, hown, hbr⟩ := hrel
        by_cases hjl : j < n
        · obtain ⟨g, hA5, hBg⟩ := own_at hown (by omega)
          subst hA5
          have hzl : j < zs.length := by have := hown.1; simp at this; omega
          have hc : wr.cell? ⟨g, j, none⟩ = some (.int .u8 (zs[j]?.getD 0)) := by
            rw [hown.cellAt j (by omega)]
            simp [hzl]
          have hf := hown.frozenAt j
          have hst := fun u => (hown.stored j u)
          have Hst := Lib.hid hst
          have Hbr := Lib.hid hbr
          clear hst hbr hown
          go_wp2
          go_roundw
          case rel =>
            refine ⟨j + 1, zs.set j (bits .xor .u8 zs[j] 255), by omega, by go_num, ?_, Hbr.out.setCell hBg _⟩
            rw [List.map_set]
            exact (Hst.out _).1
          case measure => simp [intOf]; omega
        · have Hw6 := Lib.hid (Hw4.out.trans (hbr.mono Hw4.out.size))
          have Hx6 := Lib.hid ((Hx4.out.below hbr).more hbr.size)
          have Hown6 := Lib.hid ((Hown4.out.below hbr).more hbr.size)
          have H6 := Lib.hid (H4.out.belowOf hbr hC4)
          have HS6 := Lib.hid (HS4.out.belowOf hbr hC4')
          have hC6 := Nat.le_trans hC4 hbr.size
          have hC6' := Nat.le_trans hC4' hbr.size
          clear hbr hown Hx4 Hown4 Hpart4 H4 HS4 Hw4 Hw5 Hy5
          go_wp2_with fail
          refine (texts_any D n' c' C' ss _ HS6.out hC6' Hbody.out (by omega)).mono ?_
          rintro e w7 ⟨v7, rfl, hown7, hb7⟩
          obtain ⟨A7, c7, rfl, _, _, hh7⟩ := own_slice hown7
          have Hz7 := Lib.hid hh7
          have Hx7 := Lib.hid ((Hx6.out.below hb7).more hb7.size)
          have Hown7 := Lib.hid ((Hown6.out.below hb7).more hb7.size)
          have H7 := Lib.hid (H6.out.belowOf hb7 hC6)
          have HS7 := Lib.hid (HS6.out.belowOf hb7 hC6')
          have hC7 := Nat.le_trans hC6 hb7.size
          have hC7' := Nat.le_trans hC6' hb7.size
          have Hw7 := Lib.hid (Hw6.out.trans (hb7.mono Hw6.out.size))
          clear hown7 hb7 hh7 Hx6 Hown6 H6 HS6 Hw6
          go_wp2_with fail
          refine (texts_any D n' c' C' ss _ HS7.out hC7' Hbody.out (by omega)).mono ?_
          rintro e w8 ⟨v8, rfl, hown8, hb8⟩
          have Ho8 := Lib.hid hown8
          have Hb8 := Lib.hid hb8
          have hsz8 := hb8.size
          clear hown8 hb8
          go_wp2_with
            (at_builtin
             refine wpList_append_has rfl (.tmp 56) (.tmp 57) _ rfl 5 u8_elem Try.underlying25 rfl (Ho8.out.alloc _) rfl (lit_bytes w8 [7] 5 _ rfl) (byteCells_one _) (by simp only [maxLen]; simp; omega) (by simp; omega) (le_alloc hsz8 _) ?_
             intro v9 w9 hown9 hg9 _
             have Hb9 := Lib.hid (below_own (Hb8.out.alloc hsz8 _) (Ho8.out.alloc _) hg9 (le_alloc hsz8 _))
             obtain ⟨A9, c9, rfl, hc9, _, _⟩ := own_slice hown9
             have Ho9 := Lib.hid hown9
             clear hown9 hg9)
          go_loopw [12] (fun i wr => ∃ (j : Nat) (zs : List Int), j ≤ (textsForm (raw ss)).length + 1 ∧ i = .int .i64 (j : Int) ∧ wr.ownsRow w7.heap.size 5 1 (.slice A9 ((textsForm (raw ss)).length + 1) c9) ((textsForm (raw ss)).length + 1) (zs.map (Value.int .u8)) ∧ Below w7.heap.size w7 wr) (fun i _ => (textsForm (raw ss)).length + 1 - (intOf i).toNat)
          case atStart =>
            refine ⟨0, (textsForm (raw ss) ++ [7]).map (fun b : UInt8 => (b.toNat : Int)), by omega, rfl, ?_, Hb9.out⟩
            rw [List.map_map]
            have := Ho9.out
            rw [← byteCells_app] at this
            exact this
          case round =>
            obtain ⟨j, zs, hj, rfl, hown, hbr⟩ := hrel
            by_cases hjl : j < (textsForm (raw ss)).length + 1
            · obtain ⟨g, hA9, hBg⟩ := own_at hown (by omega)
              subst hA9
              have hzl : j < zs.length := by have := hown.1; simp at this; omega
              have hc : wr.cell? ⟨g, j, none⟩ = some (.int .u8 (zs[j]?.getD 0)) := by
                rw [hown.cellAt j (by omega)]
                simp [hzl]
              have hf := hown.frozenAt j
              have hst := fun u => (hown.stored j u)
              have Hst := Lib.hid hst
              have Hbr := Lib.hid hbr
              clear hst hbr hown
              go_wp2
              go_roundw
              case rel =>
                refine ⟨j + 1, zs.set j 0, by omega, by go_num, ?_, Hbr.out.setCell hBg _⟩
                rw [List.map_set]
                exact (Hst.out _).1
              case measure => simp [intOf]; omega
            · have Hwa := Lib.hid (Hw7.out.trans (hbr.mono Hw7.out.size))
              have Hxa := Lib.hid ((Hx7.out.below hbr).more hbr.size)
              have Hza := Lib.hid ((Hz7.out.below hbr).more hbr.size)
              have Howna := Lib.hid ((Hown7.out.below hbr).more hbr.size)
              have Ha := Lib.hid (H7.out.belowOf hbr hC7)
              have HSa := Lib.hid (HS7.out.belowOf hbr hC7')
              have hCa := Nat.le_trans hC7 hbr.size
              have hCa' := Nat.le_trans hC7' hbr.size
              clear hbr hown Hx7 Hz7 Hown7 H7 HS7 Hw7 Ho9 Hb9 Ho8 Hb8
              have Hlit := Lib.hid (World.ownsRow_lit (base := wr.heap.size) (e := 5) (size := 1) wr #[] 0 (Nat.le_refl _) (by simp [maxLen]) rfl)
              have Hbl := Lib.hid ((Below.refl wr.heap.size wr).alloc (Nat.le_refl _) (.cells #[] 5))
              go_wp2_with
                (first
                  | (at_builtin
                     refine wpList_append_has rfl (.tmp 69) (.tmp 70) _ rfl 5 u8_elem Try.underlying25 rfl Hlit.out rfl (Ha.out.alloc hCa _) (byteCells_one _) (by simp only [maxLen]; omega) (by omega) (le_alloc (Nat.le_refl _) _) ?_
                     intro vb wb hownb hgb _
                     have Hbb := Lib.hid (below_own Hbl.out Hlit.out hgb (le_alloc (Nat.le_refl _) _))
                     have Hob := Lib.hid hownb
                     clear hownb hgb)
                  | (at_builtin
                     refine wpList_append_has rfl (.tmp 71) (.tmp 72) _ rfl 5 u8_elem Try.underlying25 rfl (Hob.out.alloc _) rfl (lit_bytes wb [1, 2, 3] 5 _ rfl) (byteCells_one _) (by simp only [maxLen]; simp; omega) (by simp; omega) (le_alloc Hbb.out.size _) ?_
                     intro vd wd hownd hgd _
                     have Hbd := Lib.hid (below_own (Hbb.out.alloc Hbb.out.size _) (Hob.out.alloc _) hgd (le_alloc Hbb.out.size _))
                     obtain ⟨Ad, cd, rfl, _, _, hhd⟩ := own_slice hownd
                     have Hhd := Lib.hid hhd
                     clear hownd hgd hhd))
              have Hcd : Hid (HasBytes wd wd.heap.size Ad (n + 3) (l ++ [1, 2, 3])) := Lib.hid (by
                have e : (#[] : Array Value).toList ++ byteCells l ++ byteCells [1, 2, 3] = byteCells (l ++ [1, 2, 3]) := by simp [byteCells]
                have := Hhd.out
                rw [e] at this
                simpa using this)
              refine (same_true A3 Ad _ _ c3 cd _ _ _ wd (Howna.out.below Hbd.out) Hcd.out).mono ?_
              rintro e _ ⟨rfl, rfl⟩
              have Hwd := Lib.hid (Hwa.out.trans (Hbd.out.mono Hwa.out.size))
              have Hxd := Lib.hid ((Hxa.out.below Hbd.out).more Hbd.out.size)
              have Hzd := Lib.hid ((Hza.out.below Hbd.out).more Hbd.out.size)
              have Hd := Lib.hid (Ha.out.belowOf Hbd.out hCa)
              have HSd := Lib.hid (HSa.out.belowOf Hbd.out hCa')
              have hCd := Nat.le_trans hCa Hbd.out.size
              have hCd' := Nat.le_trans hCa' Hbd.out.size
              clear Hxa Hza Howna Ha HSa Hwa Hob Hbb Hlit Hbl Hbd Hhd Hcd
              have Hlit2 := Lib.hid (World.ownsRow_lit (base := wd.heap.size) (e := 5) (size := 1) wd #[] 0 (Nat.le_refl _) (by simp [maxLen]) rfl)
              have Hbl2 := Lib.hid ((Below.refl wd.heap.size wd).alloc (Nat.le_refl _) (.cells #[] 5))
              go_wp2_with
                (first
                  | (at_builtin
                     refine wpList_append_guarded rfl (.tmp 77) (.tmp 78) _ rfl 5 u8_elem Try.underlying25 rfl Hlit2.out rfl (Hd.out.alloc hCd _) (byteCells_one _) (by simp only [maxLen]; omega) (by omega) (le_alloc (Nat.le_refl _) _) ?_
                     intro vf wf hownf hgf _
                     have Hbf := Lib.hid (below_own Hbl2.out Hlit2.out hgf (le_alloc (Nat.le_refl _) _))
                     have Hof := Lib.hid hownf
                     clear hownf hgf)
                  | (at_builtin
                     refine wpList_append_guarded rfl (.tmp 79) (.tmp 80) _ rfl 5 u8_elem Try.underlying25 rfl (Hof.out.alloc _) rfl (lit_bytes wf [9] 5 _ rfl) (byteCells_one _) (by simp only [maxLen]; simp; omega) (by simp; omega) (le_alloc Hbf.out.size _) ?_
                     intro vg wg howng hgg _
                     have Hbg := Lib.hid (below_own (Hbf.out.alloc Hbf.out.size _) (Hof.out.alloc _) hgg (le_alloc Hbf.out.size _))
                     obtain ⟨Ag, cg, rfl, _, _, hhg⟩ := own_slice howng
                     have Hhg := Lib.hid hhg
                     clear howng hgg hhg))
              have Hcg : Hid (HasBytes wg wg.heap.size Ag (n + 1) (flat [l, [9]])) := Lib.hid (by
                have e : (#[] : Array Value).toList ++ byteCells l ++ byteCells [9] = byteCells (flat [l, [9]]) := by simp [byteCells, flat]
                have := Hhg.out
                rw [e] at this
                simpa using this)
              refine (same_true A4 Ag _ _ c4 cg _ _ _ wg (Hxd.out.below Hbg.out) Hcg.out).mono ?_
              rintro e _ ⟨rfl, rfl⟩
              have Hwg := Lib.hid (Hwd.out.trans (Hbg.out.mono Hwd.out.size))
              have Hzg := Lib.hid ((Hzd.out.below Hbg.out).more Hbg.out.size)
              have HSg := Lib.hid (HSd.out.belowOf Hbg.out hCd')
              have hCg' := Nat.le_trans hCd' Hbg.out.size
              clear Hxd Hzd Hd HSd Hwd Hof Hbf Hlit2 Hbl2 Hbg Hhg Hcg
              go_wp2_with fail
              refine (refPutTexts_any D n' c' C' ss _ HSg.out hCg' Hbody.out (by omega)).mono ?_
              rintro e wh ⟨vh, rfl, hownh, hbh⟩
              obtain ⟨Ah, ch, rfl, _, _, hhh⟩ := own_slice hownh
              have Hhh := Lib.hid hhh
              have Hzh := Lib.hid (Hzg.out.below hbh)
              have Hwh := Lib.hid (Hwg.out.trans (hbh.mono Hwg.out.size))
              clear hownh hbh hhh
              go_wp2_with fail
              refine (same_true A7 Ah _ _ c7 ch _ _ _ wh Hzh.out Hhh.out).mono ?_
              rintro e _ ⟨rfl, rfl⟩
              go_wp2
              go_ret
              exact ⟨rfl, Hwh.out⟩

namespace lawKeeps
open Go.ChangeShapes Go.WideShapes Go.ChangeAt

theorem own : ownKnob Try.prog.godebug = none := by kernel_rfl
theorem kids : Kids Try.prog (· < Try.prog.types.size) := kids_rows (by kernel_rfl) (by kernel_rfl)
theorem full : ∀ t e, t < Try.prog.types.size → Try.prog.underlying t = some (.slice e) → 0 < Try.prog.cellsOf e := slices_full_of Try.prog (by kernel_rfl)

set_option maxRecDepth 100000 in
theorem lifted (os : Os) (started : os.Started) (H : Type) (enc : TypeId × Value → H) :
    ReturnsInHanded {} Try.checked os 9 .any (Rows.packKeepsSpec.pre6 enc Try.prog Try.f9 Rows.packKeepsRow.domain false) (Rows.packKeepsSpec.post enc Try.prog Try.f9 false true false false) := by
  refine returnsInHanded_of_change (C := Try.checked) own started (by kernel_rfl) Try.func9
    (ChangeSpec.witness6 (enc := enc) (C := Try.checked) false ⟨#[], #[.slice none 0 0, .slice none 0 0], []⟩ 8 (by kernel_rfl) (by kernel_rfl) (by kernel_rfl) (by kernel_rfl)) ?_
  intro W base args ds gs before hval0 hW _ _
  have hval : ∀ (j : Nat) t v, Try.f9.params[j]? = some t → args[j]? = some v → Value.okWide Try.prog W .any base t v := hval0
  have hW' := hW
  obtain ⟨p, q, hA0, hV, rfl, _, _⟩ := hW
  obtain ⟨rfl, rfl⟩ := trodVars_none hV
  have hA : DataW.TrodAll enc Try.prog W 0 (fun _ => true) true Try.f9.params.toList args.toList ds p := hA0
  rw [Try.params9] at hA hval
  obtain ⟨v0, vs0, d0, ds0, p0, q0, hargs, rfl, rfl, h0, r0⟩ := trodAll_cons hA
  obtain ⟨v1, vs1, d1, ds1, p1, q1, rfl, rfl, rfl, h1, r1⟩ := trodAll_cons r0
  obtain ⟨rfl, rfl, rfl⟩ := trodAll_nil r1
  obtain rfl : args = #[v0, v1] := by cases args; simp_all
  have hlt := hW'.lt
  obtain ⟨A0, n0, c0, l0, rfl, hn0, hnc0, hb0⟩ := open_bytes Try.underlying25 Try.underlying5 (by kernel_rfl) (hval 0 25 v0 rfl rfl) h0 (fun x hx => hlt x (by simp [hx]))
  obtain ⟨A1, n1, c1, ss1, rfl, hn1, hnc1, hb1, hw1⟩ := open_texts Try.underlying22 Try.underlying9 (by kernel_rfl) (hval 1 22 v1 rfl rfl) h1 (fun x hx => hlt x (by simp [hx]))
  refine (packKeeps_walk A0 A1 n0 c0 W.heap.size n1 c1 W.heap.size l0 ss1 W hb0 (Nat.le_refl _) hn0 hb1 (Nat.le_refl _) hn1 hw1).mono fun e W' ⟨he, hbel⟩ => ?_
  subst he
  exact ⟨_, rfl, law_post kids full (of_decide_eq_true (by kernel_rfl)) Try.underlying4 rfl rfl rfl hW' hbel⟩

theorem proved : Rows.PackKeepsSaid :=
  OpenClaim.holds_of_wide 9 Try.f9 rfl rfl rfl rfl rfl rfl rfl ⟨rfl, rfl, rfl, rfl, rfl⟩ rfl rfl rfl rfl rfl (by kernel_rfl) Try.func9 (by kernel_rfl)
    (of_decide_eq_true (by kernel_rfl)) (by unfold Func.isWrapper; first | (rw [if_pos (by decide +kernel)]; kernel_rfl) | (rw [if_neg (by decide +kernel)]; exact ⟨rfl, rfl⟩))
    (fun os started H enc _ => lifted os started H enc)
end lawKeeps

end Go.Proofs.Ytlmocflgphbiaaa
