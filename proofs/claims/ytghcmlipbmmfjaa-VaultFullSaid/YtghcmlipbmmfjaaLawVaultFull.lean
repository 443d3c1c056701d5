/- VaultFull: where the disk has no room nothing is done; a state that has no room leaves all as it is, sure. No condition. -/
import Derived.Test.YtghcmlipbmmfjaaVltH
import Derived.Test.YtghcmlipbmmfjaaOpen
import Derived.Deep.RegionHeld3
namespace Go.Proofs.Ytghcmlipbmmfjaa
open Go.RowKit
open Go.Lib (strCells)

theorem str_elemF : Elem Try.prog 9 16 (.string ⟨#[]⟩) := ⟨by kernel_rfl, rfl⟩
def BulkPost (most : Nat) (l : List (List UInt8)) (e : Ending) : Prop := ∃ m : Nat, e = .returned (.int .i64 (m : Int)) ∧ m ≤ 2 * most + 1 ∧ (m ≤ most → bulk l ≤ most)
theorem bulkT_any (most : Nat) (A : Option Addr) (n c C : Nat) (l : List (List UInt8)) (w : World) (h : Has w C A n (textCells l)) (hm : most ≤ 1000000) (hn : n ≤ maxLen) (hz : ∀ x ∈ l, x.length ≤ maxLen) :
    Calls Try.prog 19 #[.slice A n c, .int .i64 (most : Int)] w fun e w' => BulkPost most l e ∧ w = w' := by
  unfold maxLen at hn
  have H := Lib.hid h
  have hl : l.length = n := by have := h.1; simpa [textCells] using this
  have Hl := Lib.hid hl
  have Hz := Lib.hid hz
  clear h hl hz
  go_enter Try.func19, Try.ntmps19
  go_wp2
  go_loop [5, 6] (fun x i => ∃ (k m : Nat), k ≤ n ∧ x = .int .i64 (m : Int) ∧ i = .int .i64 (k : Int) ∧ m ≤ 2 * most + 1 ∧ Hid (m ≤ most → m = bulk (l.take k))) (fun _ i => n - (intOf i).toNat)
  case atStart => exact ⟨0, 0, by omega, rfl, rfl, by omega, Lib.hid fun _ => rfl⟩
  case round =>
    obtain ⟨k, m, hk, rfl, rfl, hm2, Hj⟩ := hrel
    by_cases hlt : k < n
    · by_cases hmm : m ≤ most
      · obtain ⟨a, rfl, _, hc⟩ := Has.cell H.out hlt
        have hkl : k < l.length := by have := Hl.out; omega
        obtain ⟨x, hx⟩ : ∃ x, l[k]? = some x := ⟨_, List.getElem?_eq_getElem hkl⟩
        have hcx : (textCells l).getD k undef = Value.string ⟨x.toArray⟩ := by simp [textCells, hx]
        rw [hcx] at hc
        have hxs : (ByteArray.mk x.toArray).size = x.length := by simp [ByteArray.size]
        have hxl := Hz.out x (List.mem_of_getElem? hx)
        unfold maxLen at hxl
        obtain ⟨X, hX⟩ : ∃ X : ByteArray, ⟨x.toArray⟩ = X := ⟨_, rfl⟩
        rw [hX] at hc hxs
        obtain ⟨z, hzx⟩ : ∃ z, x.length = z := ⟨_, rfl⟩
        rw [hzx] at hxs hxl
        have Hzx := Lib.hid hzx
        have k0 : (0 : Int) ≤ (k : Int) := by omega
        have k1 : (k : Int) < (n : Int) := by omega
        have Ht : Hid (l.take (k + 1) = l.take k ++ [x]) := Lib.hid (by
          rw [List.take_add_one, hx]
          rfl)
        clear hx hcx hX hzx hkl
        by_cases hzm : z ≤ most
        · have hmin : min (z : Int) (most : Int) = (z : Int) := by omega
          go_wp2
          go_round
          case rel =>
            refine ⟨k + 1, m + 1 + z, by omega, by go_num, by go_num, by omega, Lib.hid fun _ => ?_⟩
            rw [Ht.out, bulk_app, ← Hj.out hmm, bulk, bulk, Hzx.out]
            omega
          case measure => simp [intOf]; omega
        · have hmin : min (z : Int) (most : Int) = (most : Int) := by omega
          go_wp2
          go_round
          case rel => exact ⟨k + 1, m + 1 + most, by omega, by go_num, by go_num, by omega, Lib.hid fun h => by omega⟩
          case measure => simp [intOf]; omega
      · go_wp2
        go_ret
        exact ⟨⟨m, rfl, hm2, fun h => absurd h hmm⟩, rfl⟩
    · obtain rfl : k = n := by omega
      go_wp2
      go_ret
      refine ⟨⟨m, rfl, hm2, fun h => ?_⟩, rfl⟩
      have e := Hj.out h
      rw [List.take_of_length_le (by rw [Hl.out]; exact Nat.le_refl _)] at e
      omega

theorem vb_settle_full {w : World} {b vb sb tb R k c : Nat} {E : Nat → Prop} {pre F : List (List UInt8)} (h : VB w b vb sb tb E R pre F k c) (hb : b ≤ w.heap.size) (hn : bulk (pre ++ F) ≤ 6000) (hR : R < 9 + bulk (pre ++ F)) :
    Calls Try.prog 14 #[.pointer (some ⟨vb, 0, none⟩)] w fun e w' => e = .returned (.int .i64 6) ∧ VB w' b vb sb tb (Up E w w') R pre F F.length c ∧ Keeps E w w' := by
  obtain ⟨S, hv, hs⟩ := h.ex
  have e0 : emptyB.size = 0 := rfl
  refine (vsettle_full hv hs.on (by rw [allF_size]; omega) (by rw [allF_size, hs.room]; omega)).mono ?_
  rintro e w' ⟨rfl, hv', hk⟩
  exact ⟨rfl, ⟨⟨_, hv', hs.sync⟩, up_lt h.lt hk.size hb⟩, hk⟩
/-- what the loop keeps -/
structure FullRel (w wr : World) (sb vb tb : Nat) (E : Nat → Prop) (R : Nat) (F : List (List UInt8)) (i m : Nat) (v : Value) (l : List (List UInt8)) : Prop where
  hv : VB wr w.heap.size vb sb tb E R [] F 0 m
  own : wr.ownsRow w.heap.size 9 1 v m (textCells F)
  far : ∀ g, v.ownBlock = some g → ¬ E g
  below : Below w.heap.size w wr
  blk : bulk F ≤ bulk (l.take i)
  hm : F.length = m
  mi : m ≤ i
section
variable {w wr : World} {sb vb tb R : Nat} {E : Nat → Prop} {F : List (List UInt8)} {i m : Nat} {v : Value} {l : List (List UInt8)}
theorem FullRel.old (h : FullRel w wr sb vb tb E R F i m v l) : w.heap.size ≤ wr.heap.size := h.below.size
theorem FullRel.under {w5 : World} (h : FullRel w wr sb vb tb E R F i m v l) (hb : Below wr.heap.size wr w5) : FullRel w w5 sb vb tb E R F i m v l :=
  ⟨h.hv.kept (D := fun g => wr.heap.size ≤ g) ⟨hb.os, hb.tape, hb.output, hb.size, fun g hg _ => hb.block g hg⟩ fun g hg e => by have := (h.hv.lt g hg).2; omega, own_keep1 h.own fun g hg => hb.block g (h.own.lt g hg).2, h.far, h.below.trans (hb.mono h.old), h.blk, h.hm, h.mi⟩
theorem FullRel.drew (h : FullRel w wr sb vb tb E R F i m v l) (j : Nat) : FullRel w (wr.drewN j) sb vb tb E R F i m v l := h.under (below_drews (Below.refl _ _) j)
theorem FullRel.light (h : FullRel w wr sb vb tb E R F i m v l) (hl : bulk l ≤ 3000) : bulk F ≤ 3000 := by
  have h1 := h.blk
  have h2 := bulk_take l i
  omega
theorem FullRel.next (h : FullRel w wr sb vb tb E R F i m v l) : FullRel w wr sb vb tb E R F (i + 1) m v l :=
  ⟨h.hv, h.own, h.far, h.below, by
    have h1 := h.blk
    have h2 : bulk (l.take i) ≤ bulk (l.take (i + 1)) := by
      rw [List.take_add_one, bulk_app]
      exact Nat.le_add_right _ _
    omega, h.hm, by have := h.mi; omega⟩
theorem FullRel.app {w4 w5 : World} {x : List UInt8} {v5 : Value} {t : TypeId} (h : FullRel w wr sb vb tb E R F i m v l) (ho : l[i]? = some x) (hv : VB w4 w.heap.size vb sb tb (Up E wr w4) R [] (F ++ [x]) 0 (m + 1)) (hk : Keeps E wr w4)
    (o5 : w5.ownsRow w.heap.size 9 1 v5 (m + 1) (textCells F ++ [.string ⟨x.toArray⟩])) (g5 : (w4.alloc (.cells #[.string ⟨x.toArray⟩] t)).grownBy w5 v.ownBlock) (z5 : v5.ownBlock = v.ownBlock ∨ v5.ownBlock = some (w4.alloc (.cells #[.string ⟨x.toArray⟩] t)).heap.size) :
    FullRel w w5 sb vb tb (Up E wr w4) R (F ++ [x]) (i + 1) (m + 1) v5 l := by
  have hsz := hk.size
  have vlt : ∀ g, v.ownBlock = some g → g < wr.heap.size := fun g hg => (h.own.lt g hg).2
  have hK : Keeps (fun g => v.ownBlock = some g ∨ w4.heap.size ≤ g) w4 w5 := ⟨g5.os, g5.tape, g5.output, by have := g5.size; simp at this; omega, fun g hg hn => (g5.block g (by simp; omega) fun e => hn (.inl e.symm)).trans (Below.heap_alloc w4 _ g hg)⟩
  refine ⟨hv.kept hK fun g hg e => ?_, ?_, fun g hg e => ?_, ?_, ?_, by simp [h.hm], by have := h.mi; omega⟩
  · have := (hv.lt g hg).2
    rcases e with e | e
    · rcases hg with hg | hg
      · exact h.far g e hg
      · have := vlt g e
        omega
    · omega
  · rw [textCells_app]
    exact o5
  · have := (hv.lt g e).2
    rcases z5 with z | z
    · rw [z] at hg
      rcases e with e | e
      · exact h.far g hg e
      · have := vlt g hg
        omega
    · rw [z] at hg
      simp at hg
      omega
  · have hb4 : Below w.heap.size w w4 := h.below.trans (hk.below (fun g hg => (h.hv.lt g hg).1) h.old)
    exact hb4.trans (hK.below (fun g e => e.elim (fun e => (h.own.lt g e).1) fun e => Nat.le_trans hb4.size e) hb4.size)
  · have h1 := h.blk
    have e : l.take (i + 1) = l.take i ++ [x] := by rw [List.take_add_one, ho]; rfl
    rw [e, bulk_app, bulk_app]
    omega
theorem FullRel.tail (h : FullRel w wr sb vb tb E R F i m v l) (hl : bulk l ≤ 3000) {A : Option Addr} {cd : Nat} (hv : v = .slice A m cd) :
    (∀ j, Calls Try.prog 17 #[.slice A m cd] (wr.drewN j) fun e w' => e = .returned (.string (allF emptyB ([] ++ F))) ∧ wr.drewN j = w') ∧
    (∀ j, Calls Try.prog 16 #[.pointer (some ⟨vb, 0, none⟩)] (wr.drewN j) fun e w' => e = .returned (.int .i64 (m : Int)) ∧ wr.drewN j = w') ∧
    wr.cell? ⟨tb, 0, none⟩ = some (.string (allF emptyB ([] ++ F))) := by
  have hb := h.light hl
  refine ⟨fun j => ?_, fun j => vb_count (h.drew j).hv, ?_⟩
  · have ho := (h.drew j).own
    rw [hv] at ho
    exact all_any A m cd _ F _ (Has.of_own ho) (by omega)
  · obtain ⟨S, hlx, -⟩ := h.hv.ex
    obtain ⟨x, hx⟩ := hlx.tape
    exact hx.cell 0
end

set_option maxRecDepth 100000 in
set_option maxHeartbeats 1600000 in
theorem full_walk (r : Int) (A : Option Addr) (n ca : Nat) (l : List (List UInt8)) (w : World) (h : Has w w.heap.size A n (textCells l)) (hn : n ≤ maxLen) (hz : ∀ x ∈ l, x.length ≤ maxLen) :
    Calls Try.prog 4 #[.int .i64 r, .slice A n ca] w fun e w' => e = .returned (.bool true) ∧ Below w.heap.size w w' := by
  have H := Lib.hid h
  have Hz := Lib.hid hz
  have Hn := Lib.hid hn
  have hl : l.length = n := by have := h.1; simpa [textCells] using this
  have Hl := Lib.hid hl
  clear h hz hn hl
  go_enter Try.func4, Try.ntmps4
  go_wp2_with fail
  refine (awake_any w).mono ?_
  rintro e w1 ⟨rfl, hb1⟩
  have Hb1 := Lib.hid hb1
  have H1 := Lib.hid (H.out.belowOf hb1 (Nat.le_refl _))
  clear hb1
  by_cases hn30 : 30 < n
  · go_wp2
    go_ret
    exact ⟨rfl, Hb1.out⟩
  · go_wp2_with fail
    refine (bulkT_any 3000 A n ca w.heap.size l w1 H1.out (by omega) Hn.out Hz.out).mono ?_
    rintro e w' ⟨⟨mb, rfl, hmb, hbl⟩, rfl⟩
    by_cases hm3 : 3000 < mb
    · clear hbl
      go_wp2
      go_ret
      exact ⟨rfl, Hb1.out⟩
    · by_cases hr0 : r < 0
      · clear hbl
        go_wp2
        go_ret
        exact ⟨rfl, Hb1.out⟩
      · by_cases hr5 : 5000 < r
        · clear hbl
          go_wp2
          go_ret
          exact ⟨rfl, Hb1.out⟩
        · have Hbk := Lib.hid (hbl (by omega))
          clear hbl
          obtain ⟨R, rfl⟩ : ∃ R : Nat, r = (R : Int) := ⟨r.toNat, by omega⟩
          go_wp2_with fail
          refine (db_new R w.heap.size w1 (by omega) Hb1.out.size).mono ?_
          rintro e w2 ⟨sb, rfl, hd2, hb2⟩
          have s2 : w.heap.size ≤ w2.heap.size := Nat.le_trans Hb1.out.size hb2.size
          have Hd2 := Lib.hid hd2
          have Hb2 := Lib.hid (Hb1.out.trans (hb2.mono Hb1.out.size))
          clear hd2 hb2
          go_wp2_with fail
          refine (db_open Hd2.out s2 (by simp [bulk])).mono ?_
          rintro e w3 ⟨vb, tb, rfl, hv3, hk3⟩
          have Hv3 := Lib.hid hv3
          have Hb3 : Hid (Below w.heap.size w w3) := Lib.hid (Hb2.out.trans (hk3.below (fun g hg => (Hd2.out.lt g hg).1) s2))
          clear hv3 hk3 s2
          go_wp2
          go_loopw [9, 10] (fun d i wr => ∃ (E : Nat → Prop) (F : List (List UInt8)) (j m : Nat), j ≤ n ∧ m ≤ j ∧ i = .int .i64 (j : Int) ∧ Hid (FullRel w wr sb vb tb E R F j m d l)) (fun _ i _ => n - (intOf i).toNat)
          case atStart => exact ⟨_, [], 0, 0, by omega, by omega, rfl, Lib.hid ⟨Hv3.out, World.ownsRow_nil _ _ _ _, (fun g hg => by cases hg), Hb3.out, by simp [bulk], rfl, Nat.le_refl _⟩⟩
          case round =>
            obtain ⟨E, F, j, m, hj, hmj, rfl, Hr⟩ := hrel
            obtain ⟨Ad, cd, rfl, hcd, hcm, -⟩ := own_slice Hr.out.own
            by_cases hlt : j < n
            · have H2 := Lib.hid (H.out.belowOf Hr.out.below (Nat.le_refl _))
              obtain ⟨a, rfl, hab, hc⟩ := Has.cell H2.out hlt
              have hkl : j < l.length := by have := Hl.out; omega
              obtain ⟨x, hx⟩ : ∃ x, l[j]? = some x := ⟨_, List.getElem?_eq_getElem hkl⟩
              have hcx : (textCells l).getD j undef = Value.string ⟨x.toArray⟩ := by simp [textCells, hx]
              rw [hcx] at hc
              have hxs : (ByteArray.mk x.toArray).size = x.length := by simp [ByteArray.size]
              have hxb : x.length + 1 + bulk F ≤ 3000 := by
                have h1 := Hr.out.blk
                have e : l.take (j + 1) = l.take j ++ [x] := by rw [List.take_add_one, hx]; rfl
                have h2 := bulk_take l (j + 1)
                rw [e, bulk_app, bulk, bulk] at h2
                have := Hbk.out
                omega
              have j0 : (0 : Int) ≤ (j : Int) := by omega
              have j1 : (j : Int) < (n : Int) := by omega
              have Hx := Lib.hid hx
              have Hab := Lib.hid hab
              obtain ⟨S, hvS, hsS⟩ := Hr.out.hv.ex
              have hused : S.used ≤ 200000 := by
                have h1 := start_size hsS.st hsS.cs
                have h2 := frames_bulk F
                have h3 := takenN_le S.C
                unfold DState.used
                rw [hsS.log]
                simp only [bulk] at h1
                omega
              have hroom := hsS.room
              clear hx hab hcx hkl
              by_cases hfit : S.used + (8 + x.length) ≤ R
              · have hdo := vaultDo_ok hvS hsS.on ⟨x.toArray⟩ (by have e0 : emptyB.size = 0 := rfl; rw [allF_size, bulk_app]; simp only [bulk]; omega) (by rw [hxs]; omega) (by omega) (hsS.small (by rw [bulk_app]; simp only [bulk]; omega)).1 (hsS.small (by rw [bulk_app]; simp only [bulk]; omega)).2.1 (hsS.small (by rw [bulk_app]; simp only [bulk]; omega)).2.2.1 (by rw [hxs, hroom]; exact hfit)
                have hvb : ∀ w', Vlt w' w.heap.size vb sb tb (Up E wr w') { S with L := S.L ++ frameOf x, W := S.W ++ [S.L.length], k := false } (allF emptyB ([] ++ F) ++ ⟨x.toArray⟩ ++ ⟨#[124]⟩) (m + 1) → Keeps E wr w' → VB w' w.heap.size vb sb tb (Up E wr w') R [] (F ++ [x]) 0 (m + 1) := fun w' hv' hk => by
                  refine ⟨⟨_, ?_, hsS.do_ x⟩, up_lt Hr.out.hv.lt hk.size Hr.out.old⟩
                  have e1 : allF emptyB ([] ++ (F ++ [x])) = allF emptyB ([] ++ F) ++ ⟨x.toArray⟩ ++ ⟨#[124]⟩ := by rw [← List.append_assoc, allF_snoc]
                  rw [e1]
                  exact hv'
                have Hdo := Lib.hid hdo
                have Hvb := Lib.hid hvb
                obtain ⟨X, hX⟩ : ∃ X : ByteArray, ⟨x.toArray⟩ = X := ⟨_, rfl⟩
                have HX := Lib.hid hX
                rw [hX] at hc Hdo
                clear hX hdo hvb hvS hsS hused hroom hxs hxb
                go_wp2_with fail
                refine Hdo.out.mono ?_
                rintro e w4 ⟨rfl, hv4', hk4⟩
                rw [← HX.out] at hv4'
                have hv4 := Hvb.out w4 hv4' hk4
                have hb4 : Below w.heap.size wr w4 := hk4.below (fun g hg => (Hr.out.hv.lt g hg).1) Hr.out.old
                have hc' : w4.cell? (a.add j) = some (.string X) := (hb4.cell (by rw [addr_block]; exact Hab.out)).trans hc
                have Hown : Hid ((w4.alloc (.cells #[.string X] 9)).ownsRow w.heap.size 9 1 (.slice Ad m cd) m (textCells F)) := Lib.hid ((own_keep1 Hr.out.own fun g hg => hk4.block g (Hr.out.own.lt g hg).2 (Hr.out.far g hg)).alloc _)
                have Hlit := Lib.hid (Has.one w4 (.string X) 9 _ rfl)
                have HB4 : Hid (w.heap.size ≤ (w4.alloc (.cells #[.string X] 9)).heap.size) := Lib.hid (le_alloc (Nat.le_trans Hr.out.old hk4.size) _)
                have Hv4 := Lib.hid hv4
                have Hk4 := Lib.hid hk4
                clear hv4 hk4 hb4 hc hv4'
                go_wp2_with (at_builtin; refine wpList_append_has rfl (.tmp 61) (.tmp 66) _ rfl 9 str_elemF Try.underlying33 rfl Hown.out rfl Hlit.out (one_string _) (by simp only [maxLen]; omega) (by omega) HB4.out ?_; intro v5 w5 o5 g5 z5; rw [← HX.out] at o5 g5 z5; have Hr5 := Lib.hid (Hr.out.app Hx.out Hv4.out Hk4.out o5 g5 z5); clear o5 g5 z5; obtain ⟨Ae, ce, rfl, hce, hcf, -⟩ := own_slice Hr5.out.own; have htl := Hr5.out.tail Hbk.out rfl; have Hall := Lib.hid htl.1; have Hcnt := Lib.hid htl.2.1; have qt := htl.2.2; clear htl)
                go_quiet (first | (go_at_call 17; refine quietS (Hall.out _)) | (go_at_call 16; refine quietS (Hcnt.out _)))
                go_wp2
                go_round
                case rel => exact ⟨_, F ++ [x], j + 1, m + 1, by omega, by omega, by go_num, Lib.hid (Hr5.out.drew _)⟩
                case measure => simp [intOf]; omega
              · have hdo := vaultDo_full hvS hsS.on ⟨x.toArray⟩ (by rw [hxs]; omega) (hsS.small (by rw [bulk_app]; simp only [bulk]; omega)).1 (hsS.small (by rw [bulk_app]; simp only [bulk]; omega)).2.1 (by rw [hxs, hroom]; omega)
                have hsm := hsS.small (by rw [bulk_app]; simp only [bulk]; omega)
                have husd : ∀ w', Below wr.heap.size wr w' → ∀ jj, Calls Try.prog 20 #[.pointer (some ⟨sb, 0, none⟩)] (w'.drewN jj) fun e w'' => e = .returned (.int .i64 (S.used : Int)) ∧ ∃ q, w'' = (w'.drewN jj).drewN q := fun w' hb' jj => used_any ((hvS.below (below_drews hb' jj)).disk) (by omega) (by omega)
                have Hdo := Lib.hid hdo
                obtain ⟨U, hU⟩ : ∃ U, S.used = U := ⟨_, rfl⟩
                rw [hU] at husd hused hfit
                have Husd := Lib.hid husd
                obtain ⟨X, hX⟩ : ∃ X : ByteArray, ⟨x.toArray⟩ = X := ⟨_, rfl⟩
                rw [hX] at hc Hdo hxs
                have hge : decide ((U : Int) ≤ (R : Int) - 8 - (X.size : Int)) = false := by simp; omega
                have hge2 : ¬ ((U : Int) ≤ (R : Int) - 8 - (X.size : Int)) := by omega
                have hXs : X.size ≤ 3000 := by omega
                clear hX hdo husd hvS hsS hroom hsm hU hxs
                go_wp2_with fail
                refine Hdo.out.mono ?_
                rintro e w4 ⟨rfl, hb4⟩
                have hr4 := (Hr.out.under hb4).next
                have Hr4 := Lib.hid hr4
                have Hu4 := Lib.hid (Husd.out w4 hb4)
                have hc' : w4.cell? (a.add j) = some (.string X) := (hb4.cell (by rw [addr_block]; exact Nat.lt_of_lt_of_le Hab.out Hr.out.old)).trans hc
                clear hr4 hc hb4
                go_wp2
                go_quiet (first | (go_at_call 20; refine Calls.quiet_of (Hu4.out _)))
                have Hr4' := Lib.hid (Hr4.out.drew nq)
                have htl := Hr4'.out.tail Hbk.out rfl
                have Hall := Lib.hid htl.1
                have Hcnt := Lib.hid htl.2.1
                have qt := htl.2.2
                clear htl hc'
                generalize w4.drewN nq = w5 at *
                go_wp2
                go_quiet (first | (go_at_call 17; refine quietS (Hall.out _)) | (go_at_call 16; refine quietS (Hcnt.out _)))
                go_wp2
                go_round
                case rel => exact ⟨E, F, j + 1, m, by omega, by omega, by go_num, Lib.hid (Hr4'.out.drew _)⟩
                case measure => simp [intOf]; omega
            · obtain rfl : j = n := by omega
              have hlig := Hr.out.light Hbk.out
              by_cases hst : 9 + bulk F ≤ R
              · have Hse := Lib.hid (vb_settle Hr.out.hv Hr.out.old (by rw [List.nil_append]; omega) (by rw [List.nil_append]; omega))
                clear hlig
                go_wp2_with fail
                refine Hse.out.mono ?_
                rintro e w4 ⟨rfl, hv4, hk4⟩
                have Hv4 := Lib.hid hv4
                have s4 : w.heap.size ≤ w4.heap.size := Nat.le_trans Hr.out.old hk4.size
                have Hb4 : Hid (Below w.heap.size w w4) := Lib.hid (Hr.out.below.trans (hk4.below (fun g hg => (Hr.out.hv.lt g hg).1) Hr.out.old))
                have Ho4 : Hid (w4.ownsRow w.heap.size 9 1 (.slice Ad m cd) m (textCells F)) := Lib.hid (own_keep1 Hr.out.own fun g hg => hk4.block g (Hr.out.own.lt g hg).2 (Hr.out.far g hg))
                have Hf4 : Hid (∀ g, (Value.slice Ad m cd).ownBlock = some g → ¬ Up E wr w4 g) := Lib.hid fun g hg e => e.elim (Hr.out.far g hg) fun e => by have := (Hr.out.own.lt g hg).2; omega
                have Hsu := Lib.hid (vb_sure hv4)
                obtain ⟨S4, hl4, -⟩ := hv4.ex
                obtain ⟨x4, hx4⟩ := hl4.tape
                have qt4 := hx4.cell 0
                have hTs : (allF emptyB (([] ++ F) ++ ([] : List (List UInt8)))).size = bulk F := by
                  have e0 : emptyB.size = 0 := rfl
                  rw [allF_size]
                  simp [e0]
                clear hv4 hk4 hl4 hx4 qt4
                go_wp2_with fail
                refine Hsu.out.mono ?_
                rintro e w4' ⟨rfl, rfl⟩
                have hs0 : ((((([] : List (List UInt8))).length - 0 : Nat) : Int) == 0) = true := by simp
                rw [hs0]
                clear hs0
                have Hcr := Lib.hid (vb_crash Hv4.out (by have := Hr.out.light Hbk.out; simp only [List.nil_append, List.append_nil]; omega) 0 0 (by omega) (by omega))
                go_wp2_with fail
                refine Hcr.out.mono ?_
                rintro e w5 ⟨rfl, hd5, hk5⟩
                have hF5 : ((([] : List (List UInt8))).take (0 + min (Int.toNat 0) ((([] : List (List UInt8))).length - 0))) = ([] : List (List UInt8)) := by simp
                rw [hF5] at hd5
                have Hd5 := Lib.hid hd5
                have s5 : w.heap.size ≤ w5.heap.size := Nat.le_trans s4 hk5.size
                have Hb5 : Hid (Below w.heap.size w w5) := Lib.hid (Hb4.out.trans (hk5.below (fun g hg => (Hv4.out.lt g hg).1) s4))
                have Ho5 : Hid (w5.ownsRow w.heap.size 9 1 (.slice Ad m cd) m (textCells F)) := Lib.hid (own_keep1 Ho4.out fun g hg => hk5.block g (Ho4.out.lt g hg).2 (Hf4.out g hg))
                clear hd5 hk5 hF5
                have Hop := Lib.hid (db_open Hd5.out s5 (by have := Hr.out.light Hbk.out; simp only [List.nil_append, List.append_nil]; omega))
                go_wp2_with fail
                refine Hop.out.mono ?_
                rintro e w6 ⟨vb', tb', rfl, hv6, hk6⟩
                have Hb6 : Hid (Below w.heap.size w w6) := Lib.hid (Hb5.out.trans (hk6.below (fun g hg => (Hd5.out.lt g hg).1) s5))
                have ho6 : w6.ownsRow w.heap.size 9 1 (.slice Ad m cd) m (textCells F) := own_keep1 Ho5.out fun g hg => hk6.block g (Ho5.out.lt g hg).2 (Hf4.out g hg)
                obtain ⟨S6, hl6, -⟩ := hv6.ex
                obtain ⟨x6, hx6⟩ := hl6.tape
                have q6 := hx6.cell 0
                have e6 : allF emptyB (([] ++ F) ++ ([] : List (List UInt8))) = allF emptyB F := by simp
                rw [e6] at q6
                have hall := fun jj => all_any Ad m cd w6.heap.size F (w6.drewN jj) (Has.belowOf (Has.of_own ho6) (below_drews (Below.refl w6.heap.size w6) jj) (Nat.le_refl _)) (by have := Hr.out.light Hbk.out; omega)
                have Hall := Lib.hid hall
                clear hv6 hk6 hl6 hx6 ho6 e6 hall
                go_wp2
                go_quiet (first | (go_at_call 17; refine quietS (Hall.out _)))
                go_wp2
                go_ret
                exact ⟨by simp, below_drews Hb6.out _⟩
              · have Hse := Lib.hid (vb_settle_full Hr.out.hv Hr.out.old (by rw [List.nil_append]; omega) (by rw [List.nil_append]; omega))
                clear hlig
                go_wp2_with fail
                refine Hse.out.mono ?_
                rintro e w4 ⟨rfl, hv4, hk4⟩
                have Hv4 := Lib.hid hv4
                have s4 : w.heap.size ≤ w4.heap.size := Nat.le_trans Hr.out.old hk4.size
                have Hb4 : Hid (Below w.heap.size w w4) := Lib.hid (Hr.out.below.trans (hk4.below (fun g hg => (Hr.out.hv.lt g hg).1) Hr.out.old))
                have Ho4 : Hid (w4.ownsRow w.heap.size 9 1 (.slice Ad m cd) m (textCells F)) := Lib.hid (own_keep1 Hr.out.own fun g hg => hk4.block g (Hr.out.own.lt g hg).2 (Hr.out.far g hg))
                have Hf4 : Hid (∀ g, (Value.slice Ad m cd).ownBlock = some g → ¬ Up E wr w4 g) := Lib.hid fun g hg e => e.elim (Hr.out.far g hg) fun e => by have := (Hr.out.own.lt g hg).2; omega
                have Hsu := Lib.hid (vb_sure hv4)
                obtain ⟨S4, hl4, -⟩ := hv4.ex
                obtain ⟨x4, hx4⟩ := hl4.tape
                have qt4 := hx4.cell 0
                have hTs : (allF emptyB (([] : List (List UInt8)) ++ F)).size = bulk F := by
                  have e0 : emptyB.size = 0 := rfl
                  rw [allF_size]
                  simp [e0]
                obtain ⟨T, hT⟩ : ∃ T, allF emptyB ([] ++ F) = T := ⟨_, rfl⟩
                have qt4' : w4.cell? ⟨tb, 0, none⟩ = some (.string T) := by rw [← hT]; exact qt4
                rw [hT] at hTs
                have hlt9 : ¬ ((T.size : Int) ≤ (R : Int) - 9) := by omega
                have hlt9d : decide ((T.size : Int) ≤ (R : Int) - 9) = false := by simp; omega
                clear hT hTs
                clear hv4 hk4 hl4 hx4 qt4
                go_wp2_with fail
                refine Hsu.out.mono ?_
                rintro e w4' ⟨rfl, rfl⟩
                have hs0 : ((((F).length - F.length : Nat) : Int) == 0) = true := by simp
                rw [hs0]
                clear hs0
                have Hcr := Lib.hid (vb_crash Hv4.out (by have := Hr.out.light Hbk.out; simp only [List.nil_append]; omega) 0 0 (by omega) (by omega))
                go_wp2_with fail
                refine Hcr.out.mono ?_
                rintro e w5 ⟨rfl, hd5, hk5⟩
                have hF5 : ((F).take (F.length + min (Int.toNat 0) ((F).length - F.length))) = F := by simp
                rw [hF5] at hd5
                have Hd5 := Lib.hid hd5
                have s5 : w.heap.size ≤ w5.heap.size := Nat.le_trans s4 hk5.size
                have Hb5 : Hid (Below w.heap.size w w5) := Lib.hid (Hb4.out.trans (hk5.below (fun g hg => (Hv4.out.lt g hg).1) s4))
                have Ho5 : Hid (w5.ownsRow w.heap.size 9 1 (.slice Ad m cd) m (textCells F)) := Lib.hid (own_keep1 Ho4.out fun g hg => hk5.block g (Ho4.out.lt g hg).2 (Hf4.out g hg))
                clear hd5 hk5 hF5
                have Hop := Lib.hid (db_open Hd5.out s5 (by have := Hr.out.light Hbk.out; simp only [List.nil_append]; omega))
                go_wp2_with fail
                refine Hop.out.mono ?_
                rintro e w6 ⟨vb', tb', rfl, hv6, hk6⟩
                have Hb6 : Hid (Below w.heap.size w w6) := Lib.hid (Hb5.out.trans (hk6.below (fun g hg => (Hd5.out.lt g hg).1) s5))
                have ho6 : w6.ownsRow w.heap.size 9 1 (.slice Ad m cd) m (textCells F) := own_keep1 Ho5.out fun g hg => hk6.block g (Ho5.out.lt g hg).2 (Hf4.out g hg)
                obtain ⟨S6, hl6, -⟩ := hv6.ex
                obtain ⟨x6, hx6⟩ := hl6.tape
                have q6 := hx6.cell 0
                have e6 : allF emptyB (([] : List (List UInt8)) ++ F) = allF emptyB F := by simp
                rw [e6] at q6
                have hall := fun jj => all_any Ad m cd w6.heap.size F (w6.drewN jj) (Has.belowOf (Has.of_own ho6) (below_drews (Below.refl w6.heap.size w6) jj) (Nat.le_refl _)) (by have := Hr.out.light Hbk.out; omega)
                have Hall := Lib.hid hall
                clear hv6 hk6 hl6 hx6 ho6 e6 hall
                go_wp2
                go_quiet (first | (go_at_call 17; refine quietS (Hall.out _)))
                go_wp2
                go_ret
                exact ⟨by simp, below_drews Hb6.out _⟩

theorem text_cells (ss : List ByteArray) : textCells (ss.map fun s => s.data.toList) = ss.map Value.string := by
  unfold textCells
  rw [List.map_map]
  refine List.map_congr_left fun s _ => ?_
  show Value.string ⟨s.data.toList.toArray⟩ = _
  congr 1
theorem full_walk' (r : Int) (A : Option Addr) (n ca : Nat) (ss : List ByteArray) (w : World) (h : Has w w.heap.size A n (ss.map Value.string)) (hn : n ≤ maxLen) (hz : ∀ x ∈ ss, x.size ≤ maxLen) :
    Calls Try.prog 4 #[.int .i64 r, .slice A n ca] w fun e w' => e = .returned (.bool true) ∧ Below w.heap.size w w' :=
  full_walk r A n ca (ss.map fun s => s.data.toList) w (by rw [text_cells]; exact h) hn fun x hx => by
    obtain ⟨s, hs, rfl⟩ := List.mem_map.1 hx
    rw [← Lib.size_eq]
    exact hz s hs

namespace lawVaultFull
open Go.ChangeShapes Go.WideShapes Go.ChangeAt

theorem own : ownKnob Try.prog.godebug = none := by kernel_rfl
theorem kids : Kids Try.prog (· < Try.prog.types.size) := kids_rows (by kernel_rfl) (by kernel_rfl)
theorem full : ∀ t e, t < Try.prog.types.size → Try.prog.underlying t = some (.slice e) → 0 < Try.prog.cellsOf e := slices_full_of Try.prog (by kernel_rfl)

set_option maxRecDepth 100000 in
theorem lifted (os : Os) (started : os.Started) (H : Type) (enc : TypeId × Value → H) :
    ReturnsInHanded {} Try.checked os 4 .any (Rows.vaultFullSpec.pre6 enc Try.prog Try.f4 Rows.vaultFullRow.domain false) (Rows.vaultFullSpec.post enc Try.prog Try.f4 false true false false) := by
  refine returnsInHanded_of_change (C := Try.checked) own started (by kernel_rfl) Try.func4
    (ChangeSpec.witness6 (enc := enc) (C := Try.checked) false ⟨#[], #[.int .i64 0, .slice none 0 0], []⟩ 8 (by kernel_rfl) (by kernel_rfl) (by kernel_rfl) (by kernel_rfl)) ?_
  intro W base args ds gs before hval0 hW _ _
  have hval : ∀ (j : Nat) t v, Try.f4.params[j]? = some t → args[j]? = some v → Value.okWide Try.prog W .any base t v := hval0
  have hW' := hW
  obtain ⟨p, q, hA0, hV, rfl, _, _⟩ := hW
  obtain ⟨rfl, rfl⟩ := trodVars_none hV
  have hA : DataW.TrodAll enc Try.prog W 0 (fun _ => true) true Try.f4.params.toList args.toList ds p := hA0
  rw [Try.params4] at hA hval
  obtain ⟨v0, vs0, d0, ds0, p0, q0, hargs, rfl, rfl, h0, r0⟩ := trodAll_cons hA
  obtain ⟨v1, vs1, d1, ds1, p1, q1, rfl, rfl, rfl, h1, r1⟩ := trodAll_cons r0
  obtain ⟨rfl, rfl, rfl⟩ := trodAll_nil r1
  obtain rfl : args = #[v0, v1] := by cases args; simp_all
  have hlt := hW'.lt
  obtain ⟨k0, rfl, _, _, _⟩ := open_int Try.underlying3 (hval 0 3 v0 rfl rfl) h0
  obtain ⟨A1, n1, c1, ss1, rfl, hn1, hnc1, hb1, hw1⟩ := open_texts Try.underlying33 Try.underlying9 (by kernel_rfl) (hval 1 33 v1 rfl rfl) h1 (fun x hx => hlt x (by simp [hx]))
  refine (full_walk' k0 A1 n1 c1 ss1 W hb1 hn1 hw1).mono fun e W' ⟨he, hbel⟩ => ?_
  subst he
  exact ⟨_, rfl, law_post kids full (of_decide_eq_true (by kernel_rfl)) Try.underlying4 rfl rfl rfl hW' hbel⟩

theorem proved : Rows.VaultFullSaid :=
  OpenClaim.holds_of_wide 4 Try.f4 rfl rfl rfl rfl rfl rfl rfl ⟨rfl, rfl, rfl, rfl, rfl⟩ rfl rfl rfl rfl rfl (by kernel_rfl) Try.func4 (by kernel_rfl)
    (of_decide_eq_true (by kernel_rfl)) (by unfold Func.isWrapper; first | (rw [if_pos (by decide +kernel)]; kernel_rfl) | (rw [if_neg (by decide +kernel)]; exact ⟨rfl, rfl⟩))
    (fun os started H enc _ => lifted os started H enc)
end lawVaultFull

end Go.Proofs.Ytghcmlipbmmfjaa
