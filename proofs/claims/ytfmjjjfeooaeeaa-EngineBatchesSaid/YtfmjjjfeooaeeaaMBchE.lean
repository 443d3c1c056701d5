/- EngineBatches: however changes are cut into batches, the engine comes to the same. No condition. -/
import Derived.Test.YtfmjjjfeooaeeaaMBchD
import Derived.Test.YtfmjjjfeooaeeaaOpenChs
import Derived.Deep.RegionHeld3
namespace Go.Proofs.Ytfmjjjfeooaeeaa
open Go.RowKit
open Go.Lib (strCells compareBytes)

/-- an engine of which, since W0, only its own blocks have turned -/
def EngBt (W0 : World) (e H : Nat) (lim : Int) (M : List Chg) (W : World) : Prop :=
  ∃ pairs tv rv T rs, EngAt W e lim pairs tv rv T rs ∧ EngP H lim pairs T (crLists rs) ∧ absL (T :: crLists rs) = M ∧ (∀ g, tv.ownBlock = some g → W0.heap.size ≤ g) ∧ Frm (fun i => i = e) W0 W
theorem EngBt.put {W0 W : World} {e H : Nat} {lim : Int} {M : List Chg} (h : EngBt W0 e H lim M W) (A : Option Addr) (n c : Nat) (l : List Chg) (hx : HasChs W W.heap.size A n l) (hA : n ≠ 0 → ∀ a, A = some a → a.block ≠ e ∧ a.block < W0.heap.size) (hH : H + n ≤ 8000) (hs : ∀ x ∈ l, x.k.size ≤ 4000 ∧ x.v.size ≤ 4000) :
    Calls Try.prog 24 #[.pointer (some ⟨e, 0, none⟩), .slice A n c] W fun e' w' => e' = .returned (.tuple #[]) ∧ EngBt W0 e (H + n) lim (mapAll l M) w' := by
  obtain ⟨pairs, tv, rv, T, rs, hE, hP, hM, ht, hf⟩ := h
  refine (batch_any hE hP A n c l hx (fun hn a ea => ⟨(hA hn a ea).1, fun h1 => ?_⟩) hH hs).mono ?_
  · have h2 := ht _ h1
    have h3 := (hA hn a ea).2
    omega
  rintro e' w2 ⟨h1, p2, tv2, rv2, T2, rs2, hE2, hP2, ha2, hF2, ht2, -, -⟩
  have hl : l.length = n := hx.1
  refine ⟨h1, p2, tv2, rv2, T2, rs2, hE2, by rw [← hl]; exact hP2, by rw [ha2, hM], fun g hg => ?_, hf.trans hF2 fun i hi => ?_⟩
  · rcases ht2 with h3 | h3
    · exact ht g (h3 ▸ hg)
    · exact Nat.le_trans hf.size (h3 g hg)
  · rcases hi with hi | hi
    · exact .inl hi
    · exact .inr (ht i hi)
/-- two engines made one behind the other; a batch is put to the first -/
theorem two_apart {w w1 w2 w3 : World} {ea eb : Nat} {lim : Int} {rva rvb : Value} {l : List Chg} {e' : Ending} (hwa : w.heap.size ≤ ea) (hwb : w1.heap.size ≤ eb) (h12 : Below w1.heap.size w1 w2) (hb1 : Below w.heap.size w w1)
    (hEa : EngAt w1 ea lim (([] : List Chg).length : Int) (.slice none 0 0) rva [] (aloneR (.slice none 0 0) []))
    (hEb : EngAt w2 eb lim (([] : List Chg).length : Int) (.slice none 0 0) rvb [] (aloneR (.slice none 0 0) [])) (hrb : ∀ g, rvb.ownBlock = some g → w1.heap.size ≤ g) (hl : 1 ≤ lim)
    (hp : BatchPost ea 0 lim (.slice none 0 0) rva [] (aloneR (.slice none 0 0) []) l w2 e' w3) :
    e' = .returned (.tuple #[]) ∧ Below w.heap.size w w3 ∧ EngBt w3 eb 0 lim [] w3 ∧ (∃ pa tva rvA Ta rsa, EngP l.length lim pa Ta (crLists rsa) ∧ absL (Ta :: crLists rsa) = mapAll l [] ∧ ∀ w4, Frm (fun i => i = eb) w3 w4 → EngAt w4 ea lim pa tva rvA Ta rsa) := by
  obtain ⟨h1, p2, tv2, rv2, T2, rs2, hE2, hP2, ha2, hF2, ht2, -, hN⟩ := hp
  have ha1 := hEa.box.lt
  have hb2 := hEb.box.lt
  have hf : Frm (fun i => i = ea) w2 w3 := hF2.mono fun i hi => by
    rcases hi with hi | hi
    · exact hi
    · cases hi
  have hno : ∀ g, w2.heap.size ≤ g → g ≠ eb := fun g hg => by omega
  refine ⟨h1, ?_, ⟨_, _, _, _, _, hEb.frm hf (by omega) (fun g hg => by cases hg) (fun g hg h' => ?_) (fun r hr => by simp [aloneR] at hr), (PairsP.eng (l := []) (H := 0) ⟨Run.nil, by simp, by simp, by simp⟩ hl : EngP 0 lim (([] : List Chg).length : Int) [] (aloneL [])), rfl, fun g hg => (by cases hg), Frm.refl _ _⟩, p2, tv2, rv2, T2, rs2, by simpa using hP2, ha2, fun w4 hf4 => hE2.frm hf4 (by omega) (fun g hg => ?_) (fun g hg => ?_) fun r hr g hg => ?_⟩
  · exact (hb1.trans (h12.mono hb1.size)).trans (hf.below (fun i hi => by omega) (by have := hb1.size; have := h12.size; omega))
  · have := hrb g hg
    omega
  · rcases ht2 with h3 | h3
    · rw [h3] at hg; cases hg
    · exact hno g (h3 g hg)
  · rcases hN.1 g hg with h3 | h3
    · have := hEa.oldR g h3
      omega
    · exact hno g h3
  · rcases hN.2 r hr g hg with ⟨r1, h3, -⟩ | h3
    · simp [aloneR] at h3
    · exact hno g h3
end Go.Proofs.Ytfmjjjfeooaeeaa

namespace Go.Proofs.Ytfmjjjfeooaeeaa
open Go

section
variable {P : Program} {ops : Array Oper} {Q : Exit → Act → World → Prop} {md : Region.Mode} {S S' : World → Prop}

/-- a condition that says more serves too -/
theorem held_more (h : ∀ w, S' w → S w) : ∀ (fuel : Nat) (listed : Array Bool) (a : Act) (w : World), wpAnyH P md ops Q S' fuel listed a w → wpAnyH P md ops Q S fuel listed a w
  | 0, _, _, _, hw => hw
  | fuel + 1, _, _, _, hw => ⟨hw.1, fun i hi => wpOp_mono (fun a' w' h' => ⟨h w' h'.1, held_more h fuel _ a' w' h'.2⟩) (hw.2 i hi)⟩
end

end Go.Proofs.Ytfmjjjfeooaeeaa

namespace Go.Proofs.Ytfmjjjfeooaeeaa
open Go.RowKit
open Go.Lib (strCells compareBytes)

theorem light_each {most : Nat} {l : List Chg} (h : LightC most l) : ∀ x ∈ l, x.k.size ≤ 4000 ∧ x.v.size ≤ 4000 := fun x hx => by
  have := h.mem hx
  omega
theorem map_cut {l M : List Chg} {p q : Nat} (h : p ≤ q) : mapAll ((l.drop p).take (q - p)) (mapAll (l.take p) M) = mapAll (l.take q) M := by
  rw [← mapAll_app, ← List.drop_take, show List.take p l = List.take p (List.take q l) from by rw [List.take_take, Nat.min_eq_left h], List.take_append_drop]
theorem map_rest {l M : List Chg} (p : Nat) : mapAll (l.drop p) (mapAll (l.take p) M) = mapAll l M := by
  rw [← mapAll_app, List.take_append_drop]
theorem chs_block {w : World} {B n : Nat} {A : Option Addr} {l : List Chg} (h : HasChs w B A n l) (hn : n ≠ 0) {a : Addr} (ha : A = some a) : a.block < B := by
  obtain ⟨b, y, e, hb, -⟩ := h.at_ (i := 0) (by omega)
  rw [ha] at e
  injection e with e
  subst e
  exact hb
theorem cut_chs {w : World} {B n : Nat} {A : Option Addr} {l : List Chg} (h : HasChs w B A n l) {k c : Nat} (hk : k ≤ n) (hc : n ≤ c) : HasChs w B (if c = k then A else A.map (·.add (k * 3))) (n - k) (l.drop k) :=
  ⟨by rw [List.length_drop, h.1], h.cut hk hc⟩

set_option maxRecDepth 100000 in
set_option maxHeartbeats 6400000 in
theorem batches_walk (A D : Option Addr) (n ca n' c' : Nat) (limit : Int) (l : List Chg) (zs : List Int) (w : World) (h : HasChs w w.heap.size A n l) (hnc : n ≤ ca) (hm : ca ≤ maxLen) (hs : ∀ u ∈ l, u.k.size ≤ maxLen ∧ u.v.size ≤ maxLen)
    (h' : Has w w.heap.size D n' (zs.map (Value.int .i64))) (hn' : n' ≤ maxLen) :
    Calls Try.prog 7 #[.slice A n ca, .slice D n' c', .int .i64 limit] w fun e w' => e = .returned (.bool true) ∧ Below w.heap.size w w' := by
  have H := Lib.hid h
  have H' := Lib.hid h'
  have Hlt := Lib.hid (fun wx (hx : Below w.heap.size w wx) => light_any A n ca w.heap.size 100 l wx (h.belowOf hx (Nat.le_refl _)) (by omega) (by omega) hs)
  have Hl := Lib.hid h.1
  have Hz : Hid (zs.length = n') := Lib.hid (by have := h'.1; simpa using this)
  have hn2' := hn'
  unfold maxLen at hn2' hm
  obtain ⟨lim, hlim⟩ : ∃ lim, (if limit < 1 then 1 else limit) = lim := ⟨_, rfl⟩
  have Hlim := Lib.hid hlim
  have Hlim1 : Hid (1 ≤ lim) := Lib.hid (by rw [← hlim]; split <;> omega)
  clear h h' hs hlim
  go_enter Try.func7, Try.ntmps7
  go_wp2_with fail
  refine (engAwake_any w).mono ?_
  rintro e w1 ⟨rfl, hb1⟩
  have Hb1 := Lib.hid hb1
  have Hlt1 := Lib.hid (Hlt.out w1 hb1)
  clear hb1 Hlt
  go_wp2_with fail
  refine Hlt1.out.mono ?_
  rintro e w2 ⟨b, rfl, hbl, q, rfl⟩
  have Hbl := Lib.hid hbl
  have Hb2 := Lib.hid (below_dr Hb1.out q)
  clear hbl Hlt1
  generalize w1.drewN q = w2 at *
  have hsz2 := Hb2.out.size
  cases b with
  | false =>
    go_wp2
    go_ret
    exact ⟨rfl, Hb2.out⟩
  | true =>
    have HL := Lib.hid (Hbl.out rfl)
    have hn100 : n ≤ 100 := by have := HL.out.1; have := Hl.out; omega
    by_cases hbig : 100 < n'
    · go_wp2
      go_ret
      exact ⟨rfl, Hb2.out⟩
    · have Hna := Lib.hid (new_any limit lim w2 Hlim.out)
      go_wp2_with fail
      refine Hna.out.mono ?_
      rintro e w3 ⟨ea, rva, rfl, hea, hEa, -, hb3⟩
      have Hea := Lib.hid hEa
      have Hea2 := Lib.hid hea
      have Hb3 := Lib.hid hb3
      have Hnb := Lib.hid (new_any limit lim w3 Hlim.out)
      clear hea hEa hb3 Hna
      go_wp2_with fail
      refine Hnb.out.mono ?_
      rintro e w4 ⟨eb, rvb, rfl, heb, hEb, hrb, hb4⟩
      have Heb := Lib.hid (And.intro hEb hrb)
      have Heb2 := Lib.hid heb
      have Hb4 := Lib.hid hb4
      have hab : ea ≠ eb := by
        have := Hea.out.box.lt
        omega
      have Hb24 := Lib.hid (Hb2.out.trans ((Hb3.out.trans (hb4.mono Hb3.out.size)).mono hsz2))
      have Hpa := Lib.hid (batch_any (Hea.out.below hb4) (PairsP.eng (l := []) (H := 0) ⟨Run.nil, by simp, by simp, by simp⟩ Hlim1.out : EngP 0 lim (([] : List Chg).length : Int) [] (aloneL [])) A n ca l ((H.out.belowOf Hb24.out (Nat.le_refl _)).more Hb24.out.size)
        (fun hn a ea' => ⟨fun e1 => by have h1 := chs_block H.out hn ea'; have h2 := Hea2.out; omega, fun e1 => by cases e1⟩) (by omega) (light_each HL.out))
      clear hEb hrb heb hb4 Hnb
      go_wp2_with fail
      refine Hpa.out.mono ?_
      intro e w5 hp5
      obtain ⟨rfl, hb5, hB5, pa, tva, rvA, Ta, rsa, hPa, hMa, hEa5⟩ := two_apart Hea2.out Heb2.out Hb4.out Hb3.out Hea.out Heb.out.1 Heb.out.2 Hlim1.out hp5
      have Hb5 := Lib.hid (Hb2.out.trans (hb5.mono hsz2))
      have HB5 := Lib.hid hB5
      have HPa := Lib.hid (And.intro hPa hMa)
      have HEa := Lib.hid hEa5
      have hweb : w.heap.size ≤ eb := by have := Heb2.out; have := Hb3.out.size; omega
      have Hweb := Lib.hid hweb
      clear hp5 hb5 hB5 hPa hMa hEa5 Hpa Hea Heb Hea2 Heb2 Hb3 Hb4 Hb24 hweb
      have hsz5 := Hb5.out.size
      go_wp2
      go_loopw [9, 10] (fun av iv wr => ∃ k p : Nat, k ≤ n' ∧ p ≤ n ∧ iv = .int .i64 (k : Int) ∧ av = .int .i64 (p : Int) ∧ EngBt w5 eb p lim (mapAll (l.take p) []) wr) (fun _ iv _ => n' - (intOf iv).toNat)
      case atStart => exact ⟨0, 0, by omega, by omega, rfl, rfl, HB5.out⟩
      case round =>
        obtain ⟨k, p, hk, hp, rfl, rfl, hB⟩ := hrel
        have HB := Lib.hid hB
        have Hbr : Hid (Below w.heap.size w wr) := Lib.hid (Hb5.out.trans (by obtain ⟨-, -, -, -, -, -, -, -, -, hf⟩ := hB; exact hf.below (fun i hi => hi ▸ Hweb.out) hsz5))
        have hszr := Hbr.out.size
        have hC := H.out.belowOf Hbr.out (Nat.le_refl _)
        have HC := Lib.hid hC
        clear hB hC HB5
        by_cases hlt : k < n'
        · obtain ⟨a, rfl, hablk, hc0⟩ := (H'.out.below Hbr.out).cell hlt
          obtain ⟨z, hz⟩ : ∃ z, zs[k]?.getD 0 = z := ⟨_, rfl⟩
          have hc : wr.cell? (a.add k) = some (.int .i64 z) := by
            rw [hc0, ← hz]
            have := Hz.out
            simp [show k < zs.length from by omega]
          clear hc0 hz
          have hk0 : (0 : Int) ≤ (k : Int) := by omega
          have hk1 : (k : Int) < (n' : Int) := by omega
          by_cases hz1 : (p : Int) ≤ z
          · by_cases hz2 : z ≤ (n : Int)
            · obtain ⟨q, rfl⟩ : ∃ q : Nat, z = q := ⟨z.toNat, by omega⟩
              have hpart : HasChs wr w.heap.size (if ca = p then A else A.map (·.add (p * 3))) (q - p) ((l.drop p).take (q - p)) := (cut_chs HC.out hp hnc).head (by omega)
              obtain ⟨A', hA⟩ : ∃ A', (if ca = p then A else A.map (·.add (p * 3))) = A' := ⟨_, rfl⟩
              rw [hA] at hpart
              have Hput := Lib.hid (HB.out.put A' (q - p) (ca - p) _ (hpart.more hszr) (fun hn a ea' => by
                have h1 := chs_block hpart hn ea'
                have h2 := Hweb.out
                exact ⟨by omega, by omega⟩) (by omega) (fun x hx => light_each HL.out x (List.mem_of_mem_drop (List.mem_of_mem_take hx))))
              rw [map_cut (by omega), show p + (q - p) = q by omega] at Hput
              clear hpart
              go_wp2_with fail
              refine Hput.out.mono ?_
              rintro e w6 ⟨rfl, hB6⟩
              have HB6 := Lib.hid hB6
              have hc6 : w6.cell? (a.add k) = some (.int .i64 (q : Int)) := by
                obtain ⟨-, -, -, -, -, -, -, -, -, hf⟩ := hB6
                obtain ⟨-, -, -, -, -, -, -, -, -, hfr⟩ := HB.out
                have hb6 : Below w.heap.size w w6 := Hb5.out.trans (hf.below (fun i hi => hi ▸ Hweb.out) hsz5)
                have hx : (a.add k).block < w.heap.size := by
                  rw [show (a.add k).block = a.block from by unfold Addr.add; split <;> rfl]
                  exact hablk
                rw [hb6.cell hx, ← Hbr.out.cell hx]
                exact hc
              clear hB6 hc Hput
              go_wp2
              go_roundw
              case rel => exact ⟨k + 1, q, by omega, by omega, by go_num, rfl, HB6.out⟩
              case measure => simp [intOf]; omega
            · go_wp2
              go_roundw
              case rel => exact ⟨k + 1, p, by omega, by omega, by go_num, rfl, HB.out⟩
              case measure => simp [intOf]; omega
          · go_wp2
            go_roundw
            case rel => exact ⟨k + 1, p, by omega, by omega, by go_num, rfl, HB.out⟩
            case measure => simp [intOf]; omega
        · have hpart : HasChs wr w.heap.size (if ca = p then A else A.map (·.add (p * 3))) (n - p) (l.drop p) := cut_chs HC.out hp hnc
          obtain ⟨A', hA⟩ : ∃ A', (if ca = p then A else A.map (·.add (p * 3))) = A' := ⟨_, rfl⟩
          rw [hA] at hpart
          have Hput := Lib.hid (HB.out.put A' (n - p) (ca - p) _ (hpart.more hszr) (fun hn a ea' => by
            have h1 := chs_block hpart hn ea'
            have h2 := Hweb.out
            exact ⟨by omega, by omega⟩) (by omega) (fun x hx => light_each HL.out x (List.mem_of_mem_drop hx)))
          rw [map_rest, show p + (n - p) = n by omega] at Hput
          clear hpart
          go_wp2_with fail
          refine Hput.out.mono ?_
          rintro e w6 ⟨rfl, pb, tvb, rvB, Tb, rsb, hE6, hP6, hM6, -, hf6⟩
          have hb6 : Below w.heap.size w w6 := Hb5.out.trans (hf6.below (fun i hi => hi ▸ Hweb.out) hsz5)
          have hEa6 := HEa.out w6 hf6
          have hnum : pa = pb := by rw [HPa.out.1.num, hP6.num, HPa.out.2, hM6]
          subst hnum
          have XA := Lib.hid (fun wx (hx : Below w6.heap.size w6 wx) => export_any (hEa6.below hx) HPa.out.1 (by have := Hl.out; omega))
          have XB := Lib.hid (fun wx (hx : Below w6.heap.size w6 wx) => export_any (hE6.below hx) hP6 (by omega))
          have LA := Lib.hid (fun wx (hx : Below w6.heap.size w6 wx) => len_eng (hEa6.below hx))
          have LB := Lib.hid (fun wx (hx : Below w6.heap.size w6 wx) => len_eng (hE6.below hx))
          rw [HPa.out.2] at XA
          rw [hM6] at XB
          obtain ⟨Z, hZ⟩ : ∃ Z, packL (mapAll l []) = Z := ⟨_, rfl⟩
          rw [hZ] at XA XB
          obtain ⟨N, hN⟩ : ∃ N, Z.length = N := ⟨_, rfl⟩
          rw [hN] at XA XB
          have Hb6 := Lib.hid hb6
          clear hZ hN hb6 hEa6 hE6 hP6 hM6 hf6 Hput HB HEa HPa Hbr HC hA hszr hsz5
          clear Hlim Hlim1
          go_wp2
          refine wp_region_held_drew (S := fun _ => True) (by kernel_rfl) trivial (fun hHeld => ?_)
          refine wpAnyH_take (i := 0) (oi := ⟨some 73, _, _, _, _, _⟩) (v := .pointer (some ⟨ea, 0, none⟩)) rfl (by kernel_rfl) (by kernel_rfl) (by kernel_rfl) (fun _ _ _ h => h) (Or.inl ⟨by rfl, ?_⟩) (by assumption) ?_
          · intro w hSw; (try dsimp only at hSw); go_simp
          simp only [Act.put, List.setIfInBounds_toArray, List.set_cons_zero, List.set_cons_succ]
          refine wpAnyH_take (i := 3) (oi := ⟨some 76, _, _, _, _, _⟩) (v := .pointer (some ⟨eb, 0, none⟩)) rfl (by kernel_rfl) (by kernel_rfl) (by kernel_rfl) (fun _ _ _ h => h) (Or.inl ⟨by rfl, ?_⟩) (by assumption) ?_
          · intro w hSw; (try dsimp only at hSw); go_simp
          simp only [Act.put, List.setIfInBounds_toArray, List.set_cons_zero, List.set_cons_succ]
          refine wpAnyH_ready (rs := [1]) (by kernel_rfl) (by simp) (AllReadyH.cons (o := ⟨some 74, _, _, _, _, _⟩) rfl (fun K hK => ?_) AllReadyH.nil)
          go_simp
          refine (XA.out _ ((Below.refl _ _).drew)).mono ?_
          rintro e w7 ⟨vA, rfl, hoA, hbA⟩
          obtain ⟨AA, cA, rfl, -, -, hhA⟩ := own_slice hoA
          have HhA := Lib.hid hhA
          have HPA : Hid (Below w6.heap.size w6 w7) := Lib.hid (((Below.refl _ w6).drew).trans hbA)
          clear hoA hhA hbA
          refine hK.out _ _ trivial (fun _ => ?_)
          clear hK K
          refine held_more (S' := fun wx => (convert 55 9 (.slice AA N cA)).run Try.prog wx = .ok (.string ⟨Z.toArray⟩) wx) (fun _ _ => trivial) _ _ _ _ ?_
          have hS7 : (fun wx => (convert 55 9 (.slice AA N cA)).run Try.prog wx = .ok (.string ⟨Z.toArray⟩) wx) w7 := run_string_of (P := Try.prog) HhA.out cA 55 9 5 Try.underlying55 Try.underlying5 Try.underlying9
          refine wpAnyH_take (i := 2) (oi := ⟨some 75, _, _, _, _, _⟩) (v := .string ⟨Z.toArray⟩) rfl (by kernel_rfl) (by kernel_rfl) (by kernel_rfl) (fun _ _ _ h => h) (Or.inl ⟨by rfl, ?_⟩) (by assumption) ?_
          · intro w hSw; (try dsimp only at hSw); go_simp
          simp only [Act.put, List.setIfInBounds_toArray, List.set_cons_zero, List.set_cons_succ]
          refine wpAnyH_ready (rs := [4]) (by kernel_rfl) (by simp) (AllReadyH.cons (o := ⟨some 77, _, _, _, _, _⟩) rfl (fun K hK => ?_) AllReadyH.nil)
          go_simp
          refine (XB.out _ HPA.out).mono ?_
          rintro e w8 ⟨vB, rfl, hoB, hbB⟩
          obtain ⟨AB, cB, rfl, -, -, hhB⟩ := own_slice hoB
          have HhB := Lib.hid hhB
          have HPB : Hid (Below w6.heap.size w6 w8) := Lib.hid (HPA.out.trans (hbB.mono HPA.out.size))
          have HhA8 := Lib.hid (HhA.out.belowOf hbB (Nat.le_refl _))
          have HhA8le : w7.heap.size ≤ w8.heap.size := hbB.size
          have hS78 : (fun wx => (convert 55 9 (.slice AA N cA)).run Try.prog wx = .ok (.string ⟨Z.toArray⟩) wx) w8 := run_string_of (P := Try.prog) HhA8.out cA 55 9 5 Try.underlying55 Try.underlying5 Try.underlying9
          clear hoB hhB hbB
          refine hK.out _ _ hS78 (fun _ => ?_)
          clear hK K
          refine held_more (S' := fun wx => (convert 55 9 (.slice AA N cA)).run Try.prog wx = .ok (.string ⟨Z.toArray⟩) wx ∧ (convert 55 9 (.slice AB N cB)).run Try.prog wx = .ok (.string ⟨Z.toArray⟩) wx) (fun _ h => h.1) _ _ _ _ ?_
          have hS8 : (fun wx => (convert 55 9 (.slice AA N cA)).run Try.prog wx = .ok (.string ⟨Z.toArray⟩) wx ∧ (convert 55 9 (.slice AB N cB)).run Try.prog wx = .ok (.string ⟨Z.toArray⟩) wx) w8 := ⟨hS78, run_string_of (P := Try.prog) HhB.out cB 55 9 5 Try.underlying55 Try.underlying5 Try.underlying9⟩
          refine wpAnyH_take (i := 5) (oi := ⟨some 78, _, _, _, _, _⟩) (v := .string ⟨Z.toArray⟩) rfl (by kernel_rfl) (by kernel_rfl) (by kernel_rfl) (fun _ _ _ h => h) (Or.inl ⟨by rfl, ?_⟩) (by assumption) ?_
          · intro w hSw; (try dsimp only at hSw); go_simp
          simp only [Act.put, List.setIfInBounds_toArray, List.set_cons_zero, List.set_cons_succ]
          refine wpAnyH_take (i := 6) (oi := ⟨some 79, _, _, _, _, _⟩) (v := .bool true) rfl (by kernel_rfl) (by kernel_rfl) (by kernel_rfl) (fun _ _ _ h => h) (Or.inl ⟨by rfl, ?_⟩) (by assumption) ?_
          · intro w hSw; (try dsimp only at hSw); go_simp
          simp only [Act.put, List.setIfInBounds_toArray, List.set_cons_zero, List.set_cons_succ]
          refine wpAnyH_take (i := 7) (oi := ⟨some 80, _, _, _, _, _⟩) (v := .bool true) rfl (by kernel_rfl) (by kernel_rfl) (by kernel_rfl) (fun _ _ _ h => h) (Or.inl ⟨by rfl, ?_⟩) (by assumption) ?_
          · intro w hSw; (try dsimp only at hSw); go_simp
          simp only [Act.put, List.setIfInBounds_toArray, List.set_cons_zero, List.set_cons_succ]
          refine wpAnyH_take (i := 8) (oi := ⟨some 81, _, _, _, _, _⟩) (v := .pointer (some ⟨ea, 0, none⟩)) rfl (by kernel_rfl) (by kernel_rfl) (by kernel_rfl) (fun _ _ _ h => h) (Or.inl ⟨by rfl, ?_⟩) (by assumption) ?_
          · intro w hSw; (try dsimp only at hSw); go_simp
          simp only [Act.put, List.setIfInBounds_toArray, List.set_cons_zero, List.set_cons_succ]
          refine wpAnyH_take (i := 10) (oi := ⟨some 83, _, _, _, _, _⟩) (v := .pointer (some ⟨eb, 0, none⟩)) rfl (by kernel_rfl) (by kernel_rfl) (by kernel_rfl) (fun _ _ _ h => h) (Or.inl ⟨by rfl, ?_⟩) (by assumption) ?_
          · intro w hSw; (try dsimp only at hSw); go_simp
          simp only [Act.put, List.setIfInBounds_toArray, List.set_cons_zero, List.set_cons_succ]
          refine wpAnyH_ready (rs := [9]) (by kernel_rfl) (by simp) (AllReadyH.cons (o := ⟨some 82, _, _, _, _, _⟩) rfl (fun K hK => ?_) AllReadyH.nil)
          go_simp
          refine (LA.out _ HPB.out).mono ?_
          rintro e w9 ⟨rfl, hbC⟩
          have HPC : Hid (Below w6.heap.size w6 w9) := Lib.hid (HPB.out.trans (hbC.mono HPB.out.size))
          have HhA9 := Lib.hid (HhA8.out.belowOf hbC HhA8le)
          have HhB9le : w8.heap.size ≤ w9.heap.size := hbC.size
          have HhA9le : w7.heap.size ≤ w9.heap.size := Nat.le_trans HhA8le hbC.size
          have HhB9 := Lib.hid (HhB.out.belowOf hbC (Nat.le_refl _))
          have hS9 : (fun wx => (convert 55 9 (.slice AA N cA)).run Try.prog wx = .ok (.string ⟨Z.toArray⟩) wx ∧ (convert 55 9 (.slice AB N cB)).run Try.prog wx = .ok (.string ⟨Z.toArray⟩) wx) w9 := ⟨run_string_of (P := Try.prog) HhA9.out cA 55 9 5 Try.underlying55 Try.underlying5 Try.underlying9, run_string_of (P := Try.prog) HhB9.out cB 55 9 5 Try.underlying55 Try.underlying5 Try.underlying9⟩
          clear hbC
          refine hK.out _ _ hS9 (fun _ => ?_)
          clear hK K
          refine wpAnyH_ready (rs := [11]) (by kernel_rfl) (by simp) (AllReadyH.cons (o := ⟨some 84, _, _, _, _, _⟩) rfl (fun K hK => ?_) AllReadyH.nil)
          go_simp
          refine (LB.out _ HPC.out).mono ?_
          rintro e w10 ⟨rfl, hbD⟩
          have HPD : Hid (Below w6.heap.size w6 w10) := Lib.hid (HPC.out.trans (hbD.mono HPC.out.size))
          have hS10 : (fun wx => (convert 55 9 (.slice AA N cA)).run Try.prog wx = .ok (.string ⟨Z.toArray⟩) wx ∧ (convert 55 9 (.slice AB N cB)).run Try.prog wx = .ok (.string ⟨Z.toArray⟩) wx) w10 := ⟨run_string_of (P := Try.prog) (HhA9.out.belowOf hbD HhA9le) cA 55 9 5 Try.underlying55 Try.underlying5 Try.underlying9, run_string_of (P := Try.prog) (HhB9.out.belowOf hbD HhB9le) cB 55 9 5 Try.underlying55 Try.underlying5 Try.underlying9⟩
          clear hbD
          refine hK.out _ _ hS10 (fun _ => ?_)
          clear hK K
          refine wpAnyH_take (i := 12) (oi := ⟨some 85, _, _, _, _, _⟩) (v := .bool true) rfl (by kernel_rfl) (by kernel_rfl) (by kernel_rfl) (fun _ _ _ h => h) (Or.inl ⟨by rfl, ?_⟩) (by assumption) ?_
          · intro w hSw; (try dsimp only at hSw); go_simp
          simp only [Act.put, List.setIfInBounds_toArray, List.set_cons_zero, List.set_cons_succ]
          refine wpAnyH_take (i := 13) (oi := ⟨some 86, _, _, _, _, _⟩) (v := .bool true) rfl (by kernel_rfl) (by kernel_rfl) (by kernel_rfl) (fun _ _ _ h => h) (Or.inl ⟨by rfl, ?_⟩) (by assumption) ?_
          · intro w hSw; (try dsimp only at hSw); go_simp
          simp only [Act.put, List.setIfInBounds_toArray, List.set_cons_zero, List.set_cons_succ]
          refine wpAnyH_take (i := 14) (oi := ⟨some 6, _, _, _, _, _⟩) (v := .bool true) rfl (by kernel_rfl) (by kernel_rfl) (by kernel_rfl) (fun _ _ _ h => h) (Or.inl ⟨by rfl, ?_⟩) (by assumption) ?_
          · intro w hSw; (try dsimp only at hSw); go_simp
          simp only [Act.put, List.setIfInBounds_toArray, List.set_cons_zero, List.set_cons_succ]
          refine wpAnyH_done (by kernel_rfl) ?_ _
          go_wp2
          go_ret
          exact ⟨rfl, Hb6.out.trans (HPD.out.mono Hb6.out.size)⟩
end Go.Proofs.Ytfmjjjfeooaeeaa
