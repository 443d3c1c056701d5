/- VaultSettles: with the same commands, crashes and syncs a machine comes to the same, whether it settles in between or syncs. No condition. -/
import Derived.Test.YtghcmlipbmmfjaaVltH
import Derived.Test.YtghcmlipbmmfjaaOpen
import Derived.Deep.RegionHeld3
namespace Go.Proofs.Ytghcmlipbmmfjaa
open Go.RowKit
open Go.Lib (strCells)

theorem actBulk_takeS (l : List TAct) (i : Nat) : actBulk (l.take i) ≤ actBulk l := by
  have := actBulk_app (l.take i) (l.drop i)
  rw [List.take_append_drop] at this
  omega
section
variable {w w' : World} {b sb R : Nat} {E E' : Nat → Prop} {pre F : List (List UInt8)}
theorem far_left (far : ∀ g, E g → ¬ E' g) (lt : ∀ g, E' g → b ≤ g ∧ g < w.heap.size) : ∀ g, Up E w w' g → ¬ E' g := fun g hg e => by
  rcases hg with hg | hg
  · exact far g hg e
  · have := (lt g e).2
    omega
theorem far_right (far : ∀ g, E g → ¬ E' g) (lt : ∀ g, E g → b ≤ g ∧ g < w.heap.size) : ∀ g, E g → ¬ Up E' w w' g := fun g e hg => by
  rcases hg with hg | hg
  · exact far g e hg
  · have := (lt g e).2
    omega
theorem DB.kept {D : Nat → Prop} (h : DB w b sb E R pre F) (hk : Keeps D w w') (hD : ∀ g, E g → ¬ D g) : DB w' b sb E R pre F := by
  obtain ⟨S, hv, hs, hl⟩ := h.ex
  exact ⟨⟨S, hv.kept hk fun g _ => hD g, hs, hl⟩, fun g hg => ⟨(h.lt g hg).1, Nat.lt_of_lt_of_le (h.lt g hg).2 hk.size⟩⟩
end
/-- what the loop keeps: one vault settles, the other one syncs -/
structure SetRel (w wr : World) (sb vb tb sb' vb' tb' : Nat) (E E' : Nat → Prop) (pre F : List (List UInt8)) (k c : Nat) (F' : List (List UInt8)) (k' c' i : Nat) (l : List TAct) : Prop where
  hv : VB wr w.heap.size vb sb tb E 4194304 pre F k c
  hw : VB wr w.heap.size vb' sb' tb' E' 4194304 [] F' k' c'
  far : ∀ g, E g → ¬ E' g
  below : Below w.heap.size w wr
  same : pre ++ F = F'
  ks : pre.length + k = k'
  cc : c ≤ c'
  blk : bulk F' ≤ actBulk (l.take i) + i
  ci : c' ≤ i
  len : F'.length ≤ i
section
variable {w wr : World} {sb vb tb sb' vb' tb' : Nat} {E E' : Nat → Prop} {pre F F' : List (List UInt8)} {k c k' c' i : Nat} {l : List TAct}
theorem SetRel.old (h : SetRel w wr sb vb tb sb' vb' tb' E E' pre F k c F' k' c' i l) : w.heap.size ≤ wr.heap.size := h.below.size
theorem SetRel.next (h : SetRel w wr sb vb tb sb' vb' tb' E E' pre F k c F' k' c' i l) : SetRel w wr sb vb tb sb' vb' tb' E E' pre F k c F' k' c' (i + 1) l :=
  ⟨h.hv, h.hw, h.far, h.below, h.same, h.ks, h.cc, by
    have h1 := h.blk
    have h2 : actBulk (l.take i) ≤ actBulk (l.take (i + 1)) := by
      rw [List.take_add_one, actBulk_app]
      exact Nat.le_add_right _ _
    omega, by have := h.ci; omega, by have := h.len; omega⟩
theorem SetRel.light (h : SetRel w wr sb vb tb sb' vb' tb' E E' pre F k c F' k' c' i l) (hl : actBulk l ≤ 4000) (hi : i ≤ 60) : bulk (pre ++ F) ≤ 4060 ∧ bulk F' ≤ 4060 := by
  have h1 := h.blk
  have h2 := actBulk_takeS l i
  rw [h.same]
  omega
theorem SetRel.drew (h : SetRel w wr sb vb tb sb' vb' tb' E E' pre F k c F' k' c' i l) (j : Nat) : SetRel w (wr.drewN j) sb vb tb sb' vb' tb' E E' pre F k c F' k' c' i l :=
  ⟨h.hv.kept (D := fun _ => False) (Keeps.of (below_drews (Below.refl _ _) j)) fun _ _ e => e, h.hw.kept (D := fun _ => False) (Keeps.of (below_drews (Below.refl _ _) j)) fun _ _ e => e, h.far, below_drews h.below j, h.same, h.ks, h.cc, h.blk, h.ci, h.len⟩
theorem SetRel.left {w4 : World} (h : SetRel w wr sb vb tb sb' vb' tb' E E' pre F k c F' k' c' i l) (hk : Keeps E wr w4) : VB w4 w.heap.size vb' sb' tb' E' 4194304 [] F' k' c' ∧ (∀ g, Up E wr w4 g → ¬ E' g) ∧ Below w.heap.size w w4 :=
  ⟨h.hw.kept hk fun g e e' => h.far g e' e, far_left h.far h.hw.lt, h.below.trans (hk.below (fun g hg => (h.hv.lt g hg).1) h.old)⟩
theorem SetRel.room (h : SetRel w wr sb vb tb sb' vb' tb' E E' pre F k c F' k' c' i l) {o : TAct} (ho : l[i]? = some o) (hl : actBulk l ≤ 4000) (hi : i < 60) : bulk F' + o.s.size + 1 ≤ 4061 ∧ bulk (F' ++ [o.s.data.toList]) ≤ actBulk (l.take (i + 1)) + (i + 1) := by
  have h1 := h.blk
  have h2 := actBulk_takeS l (i + 1)
  have e : l.take (i + 1) = l.take i ++ [o] := by rw [List.take_add_one, ho]; rfl
  have h3 : actBulk (l.take (i + 1)) = actBulk (l.take i) + (o.s.size + 0) := by rw [e, actBulk_app]; rfl
  refine ⟨by omega, ?_⟩
  rw [bulk_app, bulk, bulk, ← Lib.size_eq]
  omega
theorem SetRel.texts (h : SetRel w wr sb vb tb sb' vb' tb' E E' pre F k c F' k' c' i l) : wr.cell? ⟨tb, 0, none⟩ = some (.string (allF emptyB F')) ∧ wr.cell? ⟨tb', 0, none⟩ = some (.string (allF emptyB F')) := by
  obtain ⟨S, hlx, -⟩ := h.hv.ex
  obtain ⟨x, hx⟩ := hlx.tape
  obtain ⟨S', hlx', -⟩ := h.hw.ex
  obtain ⟨x', hx'⟩ := hlx'.tape
  have e := hx.cell 0
  rw [h.same] at e
  exact ⟨e, hx'.cell 0⟩
end

set_option maxRecDepth 100000 in
set_option maxHeartbeats 1600000 in
theorem settles_walk (A : Option Addr) (n ca : Nat) (l : List TAct) (w : World) (h : HasActs w w.heap.size A n l) (hn : n ≤ maxLen) (hs : ∀ u ∈ l, u.s.size ≤ maxLen) (hm : ∀ u ∈ l, (-9223372036854775808 ≤ u.m ∧ u.m ≤ 9223372036854775807) ∧ (-9223372036854775808 ≤ u.n ∧ u.n ≤ 9223372036854775807)) :
    Calls Try.prog 6 #[.slice A n ca] w fun e w' => e = .returned (.bool true) ∧ Below w.heap.size w w' := by
  have H := Lib.hid h
  have Hs := Lib.hid hs
  have Hm := Lib.hid hm
  have Hn := Lib.hid hn
  clear h hs hm hn
  go_enter Try.func6, Try.ntmps6
  go_wp2_with fail
  refine (awake_any w).mono ?_
  rintro e w1 ⟨rfl, hb1⟩
  have Hb1 := Lib.hid hb1
  have H1 := Lib.hid (H.out.belowOf hb1 (Nat.le_refl _))
  clear hb1
  go_wp2_with fail
  refine (light_any A n ca w.heap.size l w1 H1.out Hn.out Hs.out).mono ?_
  rintro e w' ⟨⟨bl, rfl, hbl⟩, rfl⟩
  cases bl with
  | false =>
    go_wp2
    go_ret
    exact ⟨rfl, Hb1.out⟩
  | true =>
    obtain ⟨hn60, hbk⟩ := hbl rfl
    have Hbk := Lib.hid hbk
    clear hbl hbk
    go_wp2_with fail
    refine (db_new 4194304 w.heap.size w1 (by omega) Hb1.out.size).mono ?_
    rintro e w2 ⟨sb, rfl, hd2, hb2⟩
    have s2 : w.heap.size ≤ w2.heap.size := Nat.le_trans Hb1.out.size hb2.size
    have Hd2 := Lib.hid hd2
    have Hb2 := Lib.hid (Hb1.out.trans (hb2.mono Hb1.out.size))
    clear hd2 hb2
    go_wp2_with fail
    refine (db_new 4194304 w.heap.size w2 (by omega) s2).mono ?_
    rintro e w3 ⟨sb', rfl, hd3, hb3⟩
    have s3 : w.heap.size ≤ w3.heap.size := Nat.le_trans s2 hb3.size
    have Hd3 := Lib.hid hd3
    have Hb3 := Lib.hid (Hb2.out.trans (hb3.mono s2))
    have Hd2' := Lib.hid (Hd2.out.kept (D := fun g => w2.heap.size ≤ g) ⟨hb3.os, hb3.tape, hb3.output, hb3.size, fun g hg _ => hb3.block g hg⟩ fun g hg e => by have := hg.2; omega)
    have Hfar3 : Hid (∀ g, (w1.heap.size ≤ g ∧ g < w2.heap.size) → ¬ (w2.heap.size ≤ g ∧ g < w3.heap.size)) := Lib.hid fun g h1 h2 => by omega
    clear hd3 hb3 s2
    go_wp2_with fail
    refine (db_open Hd2'.out s3 (by simp [bulk])).mono ?_
    rintro e w4 ⟨vb, tb, rfl, hv4, hk4⟩
    have Hv4 := Lib.hid hv4
    have s4 : w.heap.size ≤ w4.heap.size := Nat.le_trans s3 hk4.size
    have Hb4 : Hid (Below w.heap.size w w4) := Lib.hid (Hb3.out.trans (hk4.below (fun g hg => (Hd2'.out.lt g hg).1) s3))
    have Hd4 := Lib.hid (Hd3.out.kept hk4 fun g e e' => Hfar3.out g e' e)
    have Hfar4 := Lib.hid (far_left (w' := w4) Hfar3.out Hd3.out.lt)
    clear hv4 hk4 s3
    go_wp2_with fail
    refine (db_open Hd4.out s4 (by simp [bulk])).mono ?_
    rintro e w5 ⟨vb', tb', rfl, hv5, hk5⟩
    have Hr0 : Hid (SetRel w w5 sb vb tb sb' vb' tb' _ _ [] [] 0 0 [] 0 0 0 l) := Lib.hid ⟨Hv4.out.kept hk5 Hfar4.out, hv5, far_right Hfar4.out Hv4.out.lt, Hb4.out.trans (hk5.below (fun g hg => (Hd4.out.lt g hg).1) s4), rfl, rfl, Nat.le_refl _, by simp [bulk], Nat.le_refl _, Nat.le_refl _⟩
    clear hv5 hk5 s4
    go_wp2
    go_loopw [7, 8, 9, 10, 11] (fun v t x u i wr => ∃ (vb tb vb' tb' : Nat) (E E' : Nat → Prop) (pre F : List (List UInt8)) (k c : Nat) (F' : List (List UInt8)) (k' c' j : Nat), j ≤ n ∧ v = .pointer (some ⟨vb, 0, none⟩) ∧ t = .pointer (some ⟨tb, 0, none⟩) ∧ x = .pointer (some ⟨vb', 0, none⟩) ∧ u = .pointer (some ⟨tb', 0, none⟩) ∧ i = .int .i64 (j : Int) ∧ Hid (SetRel w wr sb vb tb sb' vb' tb' E E' pre F k c F' k' c' j l)) (fun _ _ _ _ i _ => n - (intOf i).toNat)
    case atStart => exact ⟨vb, tb, vb', tb', _, _, [], [], 0, 0, [], 0, 0, 0, by omega, rfl, rfl, rfl, rfl, rfl, Hr0⟩
    case round =>
      obtain ⟨vb, tb, vb', tb', E, E', pre, F, k, c, F', k', c', j, hj, rfl, rfl, rfl, rfl, rfl, Hr⟩ := hrel
      by_cases hlt : j < n
      · have H2 := Lib.hid (H.out.belowOf Hr.out.below (Nat.le_refl _))
        obtain ⟨a, o, rfl, hab, ho, c0, c1, c2, c3⟩ := H2.out.at_ hlt
        have j0 : (0 : Int) ≤ (j : Int) := by omega
        have j1 : (j : Int) < (n : Int) := by omega
        have Ho := Lib.hid ho
        have Hab := Lib.hid hab
        clear ho hab
        obtain ⟨kd, hkd⟩ : ∃ kd, o.k = kd := ⟨_, rfl⟩
        rw [hkd] at c0
        clear hkd
        by_cases h1 : kd = 1
        · subst h1
          have hrm := Hr.out.room Ho.out Hbk.out (by omega)
          have hci := Hr.out.ci
          have hcc := Hr.out.cc
          have hdo := vb_do Hr.out.hv Hr.out.old o.s (by have h1 := hrm.1; rw [← Hr.out.same, bulk_app] at h1; omega) (by rw [Hr.out.same]; omega) (by omega)
          rw [Hr.out.same] at hdo
          have hT0 : (allF emptyB F').size ≤ 5000 := by
            have e0 : emptyB.size = 0 := rfl
            have := hrm.1
            rw [allF_size]
            omega
          have Hdo := Lib.hid hdo
          have Hdo2 : Hid (∀ w4, VB w4 w.heap.size vb' sb' tb' E' 4194304 [] F' k' c' → w.heap.size ≤ w4.heap.size → Calls Try.prog 11 #[.pointer (some ⟨vb', 0, none⟩), .string o.s] w4 fun e w' => e = .returned (.tuple #[.string (digS (allF emptyB ([] ++ F')).size), .int .i64 0]) ∧ VB w' w.heap.size vb' sb' tb' (Up E' w4 w') 4194304 [] (F' ++ [o.s.data.toList]) k' (c' + 1) ∧ Keeps E' w4 w') := Lib.hid fun w4 hw hsz => vb_do hw hsz o.s (by have h1 := hrm.1; simp only [bulk]; omega) (by rw [List.nil_append]; omega) (by omega)
          clear hrm hdo hci hcc c2 c3
          go_wp2_with fail
          refine Hdo.out.mono ?_
          rintro e w6 ⟨rfl, hv6, hk6⟩
          have hl6 := Hr.out.left hk6
          have Hv6 := Lib.hid hv6
          have Hl6 := Lib.hid hl6
          have c1' : w6.cell? ⟨(a.add (j * 4)).block, (a.add (j * 4)).off + 1, none⟩ = some (.string o.s) := ((hk6.below (fun g hg => (Hr.out.hv.lt g hg).1) Hr.out.old).cell (by rw [addr_block]; exact Hab.out)).trans c1
          have Hk6 := Lib.hid hk6
          clear hv6 hk6 hl6 c1
          go_wp2_with fail
          refine (Hdo2.out w6 Hl6.out.1 Hl6.out.2.2.size).mono ?_
          rintro e w7 ⟨rfl, hw7, hk7⟩
          have Hr7 : Hid (SetRel w w7 sb vb tb sb' vb' tb' _ _ pre (F ++ [o.s.data.toList]) k (c + 1) (F' ++ [o.s.data.toList]) k' (c' + 1) (j + 1) l) := Lib.hid ⟨Hv6.out.kept hk7 Hl6.out.2.1, hw7, far_right Hl6.out.2.1 Hv6.out.lt, Hl6.out.2.2.trans (hk7.below (fun g hg => (Hr.out.hw.lt g hg).1) Hl6.out.2.2.size), by rw [← List.append_assoc, Hr.out.same], Hr.out.ks, by have := Hr.out.cc; omega, (Hr.out.room Ho.out Hbk.out (by omega)).2, by have := Hr.out.ci; omega, by have := Hr.out.len; rw [List.length_append]; show _ + 1 ≤ _; omega⟩
          rw [List.nil_append]
          clear hw7 hk7
          obtain ⟨qa, qb⟩ := Hr7.out.texts
          go_wp2
          go_quiet (fail)
          go_wp2
          go_round
          case rel => exact ⟨vb, tb, vb', tb', _, _, pre, F ++ [o.s.data.toList], k, c + 1, F' ++ [o.s.data.toList], k', c' + 1, j + 1, by omega, rfl, rfl, rfl, rfl, by go_num, Lib.hid (Hr7.out.drew _)⟩
          case measure => simp [intOf]; omega
        · by_cases h2 : kd = 2
          · subst h2
            have hse := vb_settle Hr.out.hv Hr.out.old (by have := (Hr.out.light Hbk.out (by omega)).1; omega) (by have := (Hr.out.light Hbk.out (by omega)).1; omega)
            have Hse := Lib.hid hse
            clear hse c1 c2 c3
            go_wp2_with fail
            refine Hse.out.mono ?_
            rintro e w6 ⟨rfl, hv6, hk6⟩
            have hl6 := Hr.out.left hk6
            have Hv6 := Lib.hid hv6
            have Hl6 := Lib.hid hl6
            clear hv6 hk6 hl6
            go_wp2_with fail
            refine (vb_sync Hl6.out.1 Hl6.out.2.2.size).mono ?_
            rintro e w7 ⟨rfl, hw7, hk7⟩
            have Hr7 : Hid (SetRel w w7 sb vb tb sb' vb' tb' _ _ (pre ++ F) [] 0 c F' F'.length c' (j + 1) l) := Lib.hid (SetRel.next ⟨Hv6.out.kept hk7 Hl6.out.2.1, hw7, far_right Hl6.out.2.1 Hv6.out.lt, Hl6.out.2.2.trans (hk7.below (fun g hg => (Hr.out.hw.lt g hg).1) Hl6.out.2.2.size), by rw [List.append_nil, Hr.out.same], by rw [Hr.out.same]; rfl, Hr.out.cc, Hr.out.blk, Hr.out.ci, Hr.out.len⟩)
            clear hw7 hk7
            obtain ⟨qa, qb⟩ := Hr7.out.texts
            go_wp2
            go_quiet (fail)
            go_wp2
            go_round
            case rel => exact ⟨vb, tb, vb', tb', _, _, pre ++ F, [], 0, c, F', F'.length, c', j + 1, by omega, rfl, rfl, rfl, rfl, by go_num, Lib.hid (Hr7.out.drew _)⟩
            case measure => simp [intOf]; omega
          · by_cases h3 : kd = 3
            · subst h3
              have hse := vb_settle Hr.out.hv Hr.out.old (by have := (Hr.out.light Hbk.out (by omega)).1; omega) (by have := (Hr.out.light Hbk.out (by omega)).1; omega)
              have Hse := Lib.hid hse
              clear hse c1 c2 c3
              go_wp2_with fail
              refine Hse.out.mono ?_
              rintro e w6 ⟨rfl, hv6, hk6⟩
              have hl6 := Hr.out.left hk6
              have Hv6 := Lib.hid hv6
              have Hl6 := Lib.hid hl6
              clear hv6 hk6 hl6
              go_wp2_with fail
              refine (vb_sync Hl6.out.1 Hl6.out.2.2.size).mono ?_
              rintro e w7 ⟨rfl, hw7, hk7⟩
              have Hr7 : Hid (SetRel w w7 sb vb tb sb' vb' tb' _ _ (pre ++ F) [] 0 c F' F'.length c' (j + 1) l) := Lib.hid (SetRel.next ⟨Hv6.out.kept hk7 Hl6.out.2.1, hw7, far_right Hl6.out.2.1 Hv6.out.lt, Hl6.out.2.2.trans (hk7.below (fun g hg => (Hr.out.hw.lt g hg).1) Hl6.out.2.2.size), by rw [List.append_nil, Hr.out.same], by rw [Hr.out.same]; rfl, Hr.out.cc, Hr.out.blk, Hr.out.ci, Hr.out.len⟩)
              clear hw7 hk7
              obtain ⟨qa, qb⟩ := Hr7.out.texts
              go_wp2
              go_quiet (fail)
              go_wp2
              go_round
              case rel => exact ⟨vb, tb, vb', tb', _, _, pre ++ F, [], 0, c, F', F'.length, c', j + 1, by omega, rfl, rfl, rfl, rfl, by go_num, Lib.hid (Hr7.out.drew _)⟩
              case measure => simp [intOf]; omega
            · by_cases h4 : kd = 4
              · subst h4
                have hom := Hm.out o (List.mem_of_getElem? Ho.out)
                have Hom := Lib.hid hom
                have hkF := Hr.out.hv.kF
                obtain ⟨s, hs⟩ : ∃ s, k + min o.m.toNat (F.length - k) = s := ⟨_, rfl⟩
                have hsl : F'.length = pre.length + F.length := by rw [← Hr.out.same, List.length_append]
                have hs' : k' + min o.m.toNat (F'.length - k') = pre.length + s := by
                  have := Hr.out.ks
                  omega
                have hsF : s ≤ F.length := by omega
                have HsF := Lib.hid hsF
                have Htk : Hid (pre ++ F.take s = F'.take (pre.length + s)) := Lib.hid (by rw [← Hr.out.same, List.take_append, List.take_of_length_le (l := pre) (by omega), Nat.add_sub_cancel_left])
                have hR5 := Hr.out.drew 1
                have Hr5 : Hid (SetRel w wr.drew sb vb tb sb' vb' tb' E E' pre F k c F' k' c' j l) := Lib.hid hR5
                have hcr := vb_crash Hr5.out.hv (by have := (Hr.out.light Hbk.out (by omega)).1; omega) o.m o.n (by omega) (by omega)
                rw [hs] at hcr
                have Hcr := Lib.hid hcr
                have Hcr2 : Hid (∀ w6, VB w6 w.heap.size vb' sb' tb' E' 4194304 [] F' k' c' → Calls Try.prog 15 #[.pointer (some ⟨sb', 0, none⟩), .int .i64 o.m, .int .i64 o.n] w6 fun e w' => e = .returned (.tuple #[]) ∧ DB w' w.heap.size sb' E' 4194304 [] (F'.take (pre.length + s)) ∧ Keeps E' w6 w') := Lib.hid fun w6 hw => by
                  have h := vb_crash hw (by rw [List.nil_append]; have := (Hr.out.light Hbk.out (by omega)).2; omega) o.m o.n (by omega) (by omega)
                  rwa [hs'] at h
                have Hcc : Hid (wr.drew.cell? ⟨(a.add (j * 4)).block, (a.add (j * 4)).off + 2, none⟩ = some (.int .i64 o.m) ∧ wr.drew.cell? ⟨(a.add (j * 4)).block, (a.add (j * 4)).off + 3, none⟩ = some (.int .i64 o.n)) := Lib.hid ⟨c2, c3⟩
                clear hcr hs hs' hsl hom hkF hsF hR5 c1 c2 c3
                go_wp2
                go_region_held3 (fun wx => wx.cell? ⟨(a.add (j * 4)).block, (a.add (j * 4)).off + 2, none⟩ = some (.int .i64 o.m) ∧ wx.cell? ⟨(a.add (j * 4)).block, (a.add (j * 4)).off + 3, none⟩ = some (.int .i64 o.n))
                  (first | exact Hcc.out | exact Hcc6.out)
                  (first | (go_at_call 15; refine Hcr.out.mono ?_; rintro e w6 ⟨rfl, hd6, hk6⟩; have Hd6 := Lib.hid hd6; have Hk6 := Lib.hid hk6; have Hcc6 : Hid (w6.cell? ⟨(a.add (j * 4)).block, (a.add (j * 4)).off + 2, none⟩ = some (.int .i64 o.m) ∧ w6.cell? ⟨(a.add (j * 4)).block, (a.add (j * 4)).off + 3, none⟩ = some (.int .i64 o.n)) := Lib.hid ⟨((hk6.below (fun g hg => (Hr5.out.hv.lt g hg).1) Hr5.out.old).cell (by rw [addr_block]; exact Hab.out)).trans Hcc.out.1, ((hk6.below (fun g hg => (Hr5.out.hv.lt g hg).1) Hr5.out.old).cell (by rw [addr_block]; exact Hab.out)).trans Hcc.out.2⟩; clear hd6 hk6))
                have Hl6 := Lib.hid (Hr5.out.left Hk6.out)
                have Hd6' : Hid (DB w6.drew w.heap.size sb E 4194304 pre (F.take s)) := Lib.hid (Hd6.out.kept (D := fun _ => False) (Keeps.of ((Below.refl _ w6).drew)) fun _ _ e => e)
                have Hw6' : Hid (VB w6.drew w.heap.size vb' sb' tb' E' 4194304 [] F' k' c') := Lib.hid (Hl6.out.1.kept (D := fun _ => False) (Keeps.of ((Below.refl _ w6).drew)) fun _ _ e => e)
                have Hb6' : Hid (Below w.heap.size w w6.drew) := Lib.hid Hl6.out.2.2.drew
                have Hcr2' := Lib.hid (Hcr2.out w6.drew Hw6'.out)
                have Hcc6' : Hid (w6.drew.cell? ⟨(a.add (j * 4)).block, (a.add (j * 4)).off + 2, none⟩ = some (.int .i64 o.m) ∧ w6.drew.cell? ⟨(a.add (j * 4)).block, (a.add (j * 4)).off + 3, none⟩ = some (.int .i64 o.n)) := Lib.hid Hcc6.out
                go_wp2
                go_region_held3 (fun wx => wx.cell? ⟨(a.add (j * 4)).block, (a.add (j * 4)).off + 2, none⟩ = some (.int .i64 o.m) ∧ wx.cell? ⟨(a.add (j * 4)).block, (a.add (j * 4)).off + 3, none⟩ = some (.int .i64 o.n))
                  (first | exact Hcc6'.out | exact Hcc7.out)
                  (first | (go_at_call 15; refine Hcr2'.out.mono ?_; rintro e w7 ⟨rfl, hd7, hk7⟩; have Hd7 := Lib.hid hd7; have Hk7 := Lib.hid hk7; have Hcc7 : Hid (w7.cell? ⟨(a.add (j * 4)).block, (a.add (j * 4)).off + 2, none⟩ = some (.int .i64 o.m) ∧ w7.cell? ⟨(a.add (j * 4)).block, (a.add (j * 4)).off + 3, none⟩ = some (.int .i64 o.n)) := Lib.hid ⟨((hk7.below (fun g hg => (Hw6'.out.lt g hg).1) Hb6'.out.size).cell (by rw [addr_block]; exact Hab.out)).trans Hcc6'.out.1, ((hk7.below (fun g hg => (Hw6'.out.lt g hg).1) Hb6'.out.size).cell (by rw [addr_block]; exact Hab.out)).trans Hcc6'.out.2⟩; clear hd7 hk7))
                have Hd7d := Lib.hid (Hd6'.out.kept Hk7.out Hr.out.far)
                have Hb7 : Hid (Below w.heap.size w w7) := Lib.hid (Hb6'.out.trans (Hk7.out.below (fun g hg => (Hw6'.out.lt g hg).1) Hb6'.out.size))
                have hlg := Hr.out.light Hbk.out (by omega)
                have Hlg := Lib.hid hlg
                clear hlg
                go_wp2_with fail
                refine (db_open Hd7d.out Hb7.out.size (by have h1 := Hlg.out.1; have h2 := bulk_take F s; rw [bulk_app] at h1 ⊢; omega)).mono ?_
                rintro e w8 ⟨vb2, tb2, rfl, hv8, hk8⟩
                have Hv8 := Lib.hid hv8
                have Hd8 := Lib.hid (Hd7.out.kept hk8 fun g e e' => Hr.out.far g e' e)
                have Hfar8 := Lib.hid (far_left (w' := w8) Hr.out.far Hd7.out.lt)
                have Hb8 : Hid (Below w.heap.size w w8) := Lib.hid (Hb7.out.trans (hk8.below (fun g hg => (Hd7d.out.lt g hg).1) Hb7.out.size))
                clear hv8 hk8
                go_wp2_with fail
                refine (db_open Hd8.out Hb8.out.size (by rw [List.nil_append]; have h1 := Hlg.out.2; have h2 := bulk_take F' (pre.length + s); omega)).mono ?_
                rintro e w9 ⟨vb3, tb3, rfl, hv9, hk9⟩
                have Hr9 : Hid (SetRel w w9 sb vb2 tb2 sb' vb3 tb3 _ _ pre (F.take s) (F.take s).length (F.take s).length (F'.take (pre.length + s)) (F'.take (pre.length + s)).length (F'.take (pre.length + s)).length (j + 1) l) := Lib.hid (SetRel.next ⟨Hv8.out.kept hk9 Hfar8.out, hv9, far_right Hfar8.out Hv8.out.lt, Hb8.out.trans (hk9.below (fun g hg => (Hd8.out.lt g hg).1) Hb8.out.size), Htk.out, by rw [← Htk.out, List.length_append], by rw [← Htk.out, List.length_append]; omega, by have h1 := Hr.out.blk; have h2 := bulk_take F' (pre.length + s); omega, by have h3 := Hr.out.len; rw [List.length_take]; omega, by have h3 := Hr.out.len; rw [List.length_take]; omega⟩)
                clear hv9 hk9
                obtain ⟨qa, qb⟩ := Hr9.out.texts
                go_wp2
                go_quiet (fail)
                go_wp2
                go_round
                case rel => exact ⟨vb2, tb2, vb3, tb3, _, _, pre, F.take s, (F.take s).length, (F.take s).length, F'.take (pre.length + s), (F'.take (pre.length + s)).length, (F'.take (pre.length + s)).length, j + 1, by omega, rfl, rfl, rfl, rfl, by go_num, Lib.hid (Hr9.out.drew _)⟩
                case measure => simp [intOf]; omega
              · have Hr5 := Lib.hid Hr.out.next
                clear c1 c2 c3
                obtain ⟨qa, qb⟩ := Hr5.out.texts
                go_wp2
                go_quiet (fail)
                go_wp2
                go_round
                case rel => exact ⟨vb, tb, vb', tb', _, _, pre, F, k, c, F', k', c', j + 1, by omega, rfl, rfl, rfl, rfl, by go_num, Lib.hid (Hr5.out.drew _)⟩
                case measure => simp [intOf]; omega
      · have Hcv := Lib.hid (vb_count Hr.out.hv)
        have Hcw := Lib.hid (vb_count Hr.out.hw)
        have hcc := Hr.out.cc
        have hcd : decide ((c : Int) ≤ (c' : Int)) = true := decide_eq_true (by omega)
        go_wp2_with fail
        refine Hcv.out.mono ?_
        rintro e wy ⟨rfl, rfl⟩
        go_wp2_with fail
        refine Hcw.out.mono ?_
        rintro e wy ⟨rfl, rfl⟩
        go_wp2
        go_ret
        exact ⟨by simp, Hr.out.below⟩

namespace lawVaultSettles
open Go.ChangeShapes Go.WideShapes Go.ChangeAt

theorem own : ownKnob Try.prog.godebug = none := by kernel_rfl
theorem kids : Kids Try.prog (· < Try.prog.types.size) := kids_rows (by kernel_rfl) (by kernel_rfl)
theorem full : ∀ t e, t < Try.prog.types.size → Try.prog.underlying t = some (.slice e) → 0 < Try.prog.cellsOf e := slices_full_of Try.prog (by kernel_rfl)

set_option maxRecDepth 100000 in
theorem lifted (os : Os) (started : os.Started) (H : Type) (enc : TypeId × Value → H) :
    ReturnsInHanded {} Try.checked os 6 .any (Rows.vaultSettlesSpec.pre6 enc Try.prog Try.f6 Rows.vaultSettlesRow.domain false) (Rows.vaultSettlesSpec.post enc Try.prog Try.f6 false true false false) := by
  refine returnsInHanded_of_change (C := Try.checked) own started (by kernel_rfl) Try.func6
    (ChangeSpec.witness6 (enc := enc) (C := Try.checked) false ⟨#[], #[.slice none 0 0], []⟩ 8 (by kernel_rfl) (by kernel_rfl) (by kernel_rfl) (by kernel_rfl)) ?_
  intro W base args ds gs before hval0 hW _ _
  have hval : ∀ (j : Nat) t v, Try.f6.params[j]? = some t → args[j]? = some v → Value.okWide Try.prog W .any base t v := hval0
  have hW' := hW
  obtain ⟨p, q, hA0, hV, rfl, _, _⟩ := hW
  obtain ⟨rfl, rfl⟩ := trodVars_none hV
  have hA : DataW.TrodAll enc Try.prog W 0 (fun _ => true) true Try.f6.params.toList args.toList ds p := hA0
  rw [Try.params6] at hA hval
  obtain ⟨v0, vs0, d0, ds0, p0, q0, hargs, rfl, rfl, h0, r0⟩ := trodAll_cons hA
  obtain ⟨rfl, rfl, rfl⟩ := trodAll_nil r0
  obtain rfl : args = #[v0] := by cases args; simp_all
  have hlt := hW'.lt
  obtain ⟨A0, n0, c0, l0, rfl, hn0, hnc0, hb0, hw0, hi0⟩ := open_acts Try.underlying22 Try.underlying35 (by kernel_rfl) ⟨rfl, rfl, rfl, rfl⟩ ⟨by kernel_rfl, by kernel_rfl, by kernel_rfl, by kernel_rfl⟩ ⟨by kernel_rfl, by kernel_rfl, by kernel_rfl, by kernel_rfl⟩ (hval 0 22 v0 rfl rfl) h0 (fun x hx => hlt x (by simp [hx]))
  refine (settles_walk A0 n0 c0 l0 W hb0 hn0 hw0 hi0).mono fun e W' ⟨he, hbel⟩ => ?_
  subst he
  exact ⟨_, rfl, law_post kids full (of_decide_eq_true (by kernel_rfl)) Try.underlying4 rfl rfl rfl hW' hbel⟩

theorem proved : Rows.VaultSettlesSaid :=
  OpenClaim.holds_of_wide 6 Try.f6 rfl rfl rfl rfl rfl rfl rfl ⟨rfl, rfl, rfl, rfl, rfl⟩ rfl rfl rfl rfl rfl (by kernel_rfl) Try.func6 (by kernel_rfl)
    (of_decide_eq_true (by kernel_rfl)) (by unfold Func.isWrapper; first | (rw [if_pos (by decide +kernel)]; kernel_rfl) | (rw [if_neg (by decide +kernel)]; exact ⟨rfl, rfl⟩))
    (fun os started H enc _ => lifted os started H enc)
end lawVaultSettles

end Go.Proofs.Ytghcmlipbmmfjaa
