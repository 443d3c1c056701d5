/- RunMerges: any lists are merged, or refused, as the document says. No condition. -/
import Derived.Test.YtmbolempigbkdaaRawB
import Derived.Test.YtmbolempigbkdaaOpenChs
namespace Go.Proofs.Ytmbolempigbkdaa
open Go.RowKit
open Go.Lib (strCells compareBytes)

set_option maxRecDepth 100000 in
set_option maxHeartbeats 3200000 in
theorem merges_walk (A : Option Addr) (n ca : Nat) (rs : Crs) (t : Bool) (w : World) (h : HasCrs w w.heap.size A n rs) (hnc : n ≤ ca) (hm : ca ≤ maxLen) (hs : ∀ l ∈ crLists rs, ∀ u ∈ l, u.k.size ≤ maxLen ∧ u.v.size ≤ maxLen) :
    Calls Try.prog 4 #[.slice A n ca, .bool t] w fun e w' => e = .returned (.bool true) ∧ Below w.heap.size w w' := by
  have H := Lib.hid h
  have Hl : Hid ((crLists rs).length = n) := Lib.hid (by rw [crLists_len]; exact h.len)
  have Hlt := Lib.hid (fun wx (hx : Below w.heap.size w wx) => lights_any A n ca w.heap.size rs wx (h.belowOf hx (Nat.le_refl _)) (by omega) hs)
  clear h hs hm
  go_enter Try.func4, Try.ntmps4
  go_wp2_with fail
  refine (awake_any w).mono ?_
  rintro e w1 ⟨rfl, hb1⟩
  have Hb1 := Lib.hid hb1
  have Hlt1 := Lib.hid (Hlt.out w1 hb1)
  clear hb1
  go_wp2_with fail
  refine Hlt1.out.mono ?_
  rintro e w2 ⟨b, rfl, hbl, q, rfl⟩
  cases b with
  | false =>
    go_wp2
    go_ret
    exact ⟨rfl, below_dr Hb1.out _⟩
  | true =>
    have HL := Lib.hid (hbl rfl)
    have Hb2 := Lib.hid (below_dr Hb1.out q)
    clear hbl Hlt Hlt1
    generalize w1.drewN q = w2 at *
    have Hmk := Lib.hid (fun r (hr : r ∈ crLists rs) => (HL.out.2 r hr).small)
    have hn10 : n ≤ 10 := by rw [← Hl.out]; exact HL.out.1
    go_wp2
    go_loopw [5, 6] (fun o i wr => ∃ (k : Nat) (qs : Crs), k ≤ n ∧ i = .int .i64 (k : Int) ∧ OwnCr wr w.heap.size w.heap.size o qs ∧ Hid (crLists qs = ((crLists rs).take k).map (fun l => if t then makeL l else l)) ∧ Below w.heap.size w wr) (fun _ i _ => n - (intOf i).toNat)
    case atStart => exact ⟨0, [], by omega, rfl, OwnCr.nil _ (Nat.le_refl _), Lib.hid rfl, Hb2.out⟩
    case round =>
      obtain ⟨k, qs, hk, rfl, ho, Hq, hb⟩ := hrel
      have Ho := Lib.hid ho
      have Hb := Lib.hid hb
      have hsz := hb.size
      have Hqk : Hid (qs.length = k) := Lib.hid (by
        have h1 := congrArg List.length Hq.out
        rw [crLists_len, List.length_map, List.length_take] at h1
        have := Hl.out
        omega)
      clear hb
      by_cases hlt : k < n
      · obtain ⟨a, A1, m1, c1, l, rfl, hab, hg, h1, h2, h3, d0, -⟩ := (H.out.belowOf Hb.out (Nat.le_refl _)).at_ hlt
        have Hq1 : Hid (((crLists rs).take (k + 1)).map (fun l => if t then makeL l else l) = crLists qs ++ [if t then makeL l else l]) := Lib.hid (by rw [List.take_add_one, hg, List.map_append, Hq.out]; rfl)
        have Hsl := Lib.hid (Hmk.out l (List.mem_of_getElem? hg))
        have H3 := Lib.hid h3
        have Hm1 := Lib.hid (And.intro h1 h2)
        have Hmake := Lib.hid (refMake_any A1 m1 c1 w.heap.size l wr h3 hsz (by have := h3.1; have := Hsl.out.1; omega))
        clear ho h1 h2 h3 hg
        cases t with
        | true =>
          go_wp2_with fail
          refine Hmake.out.mono ?_
          rintro e w3 ⟨v3, rfl, o3, hb3⟩
          have O3 := Lib.hid o3
          have Hb3 := Lib.hid hb3
          have hz3 : w.heap.size ≤ w3.heap.size := Nat.le_trans hsz hb3.size
          have Ho3 := Lib.hid (Ho.out.below hsz hb3)
          obtain ⟨A3, c3, rfl, -, -, -⟩ := o3.slice
          have hz3b : w.heap.size ≤ (w3.alloc (Obj.cells #[.slice A3 (makeL l).length c3] 22)).heap.size := by simp only [World.size_alloc]; omega
          have Ho4 := Lib.hid (Ho3.out.below hz3 (below_box (Obj.cells #[.slice A3 (makeL l).length c3] 22)))
          clear o3 hb3
          go_wp2_with (at_builtin; refine wpList_append_hasN rfl (.tmp 23) (.tmp 29) _ rfl 22 cr_elem (by omega) Try.underlying28 rfl Ho4.out.own rfl (Has.lit w3 #[.slice A3 (makeL l).length c3] 22) (fun u hu => by simp at hu; subst hu; rfl) (by have := Hqk.out; simp only [maxLen]; omega) (by have := Hqk.out; omega) hz3b ?_; intro v5 w5 o5 g5 _)
          have Ho5 := Lib.hid (Ho4.out.snoc (q := (.slice A3 (makeL l).length c3, makeL l)) (.inl (own_baseN (O3.out.below (below_box _)) hsz)) o5 g5 hz3b)
          have Hb5 : Hid (Below w.heap.size w w5) := Lib.hid (((Hb.out.trans (Hb3.out.mono hsz)).alloc hz3 _).trans ((Below.refl _ _).grown g5 hz3b fun g e => (Ho4.out.own.lt g e).1))
          clear o5 g5
          go_wp2
          go_roundw
          case rel => exact ⟨k + 1, _, by omega, by go_num, Ho5.out, Lib.hid (by have h1 := Hq1.out; simp at h1 ⊢; rw [crLists_snoc]; exact h1.symm), Hb5.out⟩
          case measure => simp [intOf]; omega
        | false =>
          have hz3b : w.heap.size ≤ (wr.alloc (Obj.cells #[.slice A1 m1 c1] 22)).heap.size := by simp only [World.size_alloc]; omega
          have Ho4 := Lib.hid (Ho.out.below hsz (below_box (Obj.cells #[.slice A1 m1 c1] 22)))
          go_wp2_with (at_builtin; refine wpList_append_hasN rfl (.tmp 31) (.tmp 36) _ rfl 22 cr_elem (by omega) Try.underlying28 rfl Ho4.out.own rfl (Has.lit wr #[.slice A1 m1 c1] 22) (fun u hu => by simp at hu; subst hu; rfl) (by have := Hqk.out; simp only [maxLen]; omega) (by have := Hqk.out; omega) hz3b ?_; intro v5 w5 o5 g5 _)
          have Ho5 := Lib.hid (Ho4.out.snoc (q := (.slice A1 m1 c1, l)) (.inr ⟨A1, m1, c1, rfl, Hm1.out.1, Hm1.out.2, H3.out.alloc hsz _⟩) o5 g5 hz3b)
          have Hb5 : Hid (Below w.heap.size w w5) := Lib.hid ((Hb.out.alloc hsz _).trans ((Below.refl _ _).grown g5 hz3b fun g e => (Ho4.out.own.lt g e).1))
          clear o5 g5
          go_wp2
          go_roundw
          case rel => exact ⟨k + 1, _, by omega, by go_num, Ho5.out, Lib.hid (by have h1 := Hq1.out; simp at h1 ⊢; rw [crLists_snoc]; exact h1.symm), Hb5.out⟩
          case measure => simp [intOf]; omega
      · obtain rfl : k = n := by omega
        have E : Hid (∀ l ∈ crLists qs, SmallL l) := Lib.hid (by
          rw [Hq.out, List.take_of_length_le (by have := Hl.out; omega)]
          intro l hl
          obtain ⟨l0, h0, rfl⟩ := List.mem_map.1 hl
          cases t with
          | false => exact Hmk.out l0 h0
          | true => exact small_make (Hmk.out l0 h0))
        obtain ⟨Aq, cq, rfl, -, -, hcr⟩ := ho.has hsz
        obtain ⟨N, hN⟩ : ∃ N, qs.length = N := ⟨_, rfl⟩
        rw [hN] at hcr ⊢
        have hN10 : N ≤ 10 := by have := Hqk.out; omega
        have Hcr := Lib.hid hcr
        have Hme := Lib.hid (merge_any Aq N cq wr.heap.size qs wr hcr (Nat.le_refl _) hN10 E.out)
        clear ho hcr hN Ho
        go_wp2_with fail
        refine Hme.out.mono ?_
        rintro e w3 ⟨hb3, hp3⟩
        have Hb3 := Lib.hid hb3
        have Hmr := Lib.hid (refMerge_any Aq N cq wr.heap.size qs w3 (Hcr.out.belowOf hb3 (Nat.le_refl _)) hb3.size hN10 fun r hr => (E.out r hr).1)
        have Hlm : Hid ((mergeL (crLists qs)).length ≤ maxLen) := Lib.hid (by
          have h1 := len_merge (rs := crLists qs) fun r hr => (E.out r hr).1
          rw [crLists_len, Hqk.out] at h1
          unfold maxLen
          omega)
        clear hb3
        by_cases hr : ∀ r ∈ crLists qs, Run r
        · obtain ⟨v3, rfl, o3⟩ : ∃ v, e = .returned (.tuple #[v, .int .i64 0]) ∧ OwnChs w3 wr.heap.size v (mergeL (crLists qs)) := by
            rcases hp3 with ⟨-, v, e1, e2⟩ | ⟨h1, -⟩
            · exact ⟨v, e1, e2⟩
            · exact absurd hr h1
          clear hp3
          have O3 := Lib.hid o3
          have Hr := Lib.hid hr
          clear o3 hr
          go_wp2_with fail
          refine Hmr.out.mono ?_
          rintro e w4 ⟨hb4, hp4⟩
          obtain ⟨v4, rfl, o4⟩ : ∃ v, e = .returned (.tuple #[v, .int .i64 0]) ∧ OwnChs w4 w3.heap.size v (mergeL (crLists qs)) := by
            rcases hp4 with ⟨-, v, e1, e2⟩ | ⟨h1, -⟩
            · exact ⟨v, e1, e2⟩
            · exact absurd Hr.out h1
          obtain ⟨A3, c3, rfl, -, -, x3⟩ := (O3.out.below hb4).slice
          obtain ⟨A4, c4, rfl, -, -, x4⟩ := o4.slice
          have Hsame := Lib.hid (chSame_any A3 A4 _ _ c3 c4 _ _ _ _ w4 x3 x4 Hlm.out Hlm.out)
          rw [decide_eq_true rfl] at Hsame
          have Hb4 := Lib.hid ((Hb.out.trans (Hb3.out.mono hsz)).trans (hb4.mono (Nat.le_trans hsz Hb3.out.size)))
          clear hp4 o4 x3 x4 hb4
          go_wp2_with fail
          refine Hsame.out.mono ?_
          rintro e w5 ⟨rfl, hb5⟩
          have Hb5 := Lib.hid (Hb4.out.trans (hb5.mono Hb4.out.size))
          clear hb5
          go_wp2
          go_ret
          exact ⟨rfl, Hb5.out⟩
        · have e3 : e = .returned (.tuple #[.slice none 0 0, .int .i64 3]) := by
            rcases hp3 with ⟨h1, -⟩ | ⟨-, h1⟩
            · exact absurd h1 hr
            · exact h1
          subst e3
          clear hp3
          have Hr := Lib.hid hr
          clear hr
          go_wp2_with fail
          refine Hmr.out.mono ?_
          rintro e w4 ⟨hb4, hp4⟩
          have e4 : e = .returned (.tuple #[.slice none 0 0, .int .i64 3]) := by
            rcases hp4 with ⟨h1, -⟩ | ⟨-, h1⟩
            · exact absurd h1 Hr.out
            · exact h1
          subst e4
          have Hsame := Lib.hid (chSame_any none none 0 0 0 0 w4.heap.size w4.heap.size [] [] w4 (HasChs.nil _ _ _) (HasChs.nil _ _ _) (by simp [maxLen]) (by simp [maxLen]))
          rw [decide_eq_true rfl] at Hsame
          have Hb4 := Lib.hid ((Hb.out.trans (Hb3.out.mono hsz)).trans (hb4.mono (Nat.le_trans hsz Hb3.out.size)))
          clear hp4 hb4
          go_wp2_with fail
          refine Hsame.out.mono ?_
          rintro e w5 ⟨rfl, hb5⟩
          have Hb5 := Lib.hid (Hb4.out.trans (hb5.mono Hb4.out.size))
          clear hb5
          go_wp2
          go_ret
          exact ⟨rfl, Hb5.out⟩

namespace lawRunMerges
open Go.ChangeShapes Go.WideShapes Go.ChangeAt

theorem own : ownKnob Try.prog.godebug = none := by kernel_rfl
theorem kids : Kids Try.prog (· < Try.prog.types.size) := kids_rows (by kernel_rfl) (by kernel_rfl)
theorem full : ∀ t e, t < Try.prog.types.size → Try.prog.underlying t = some (.slice e) → 0 < Try.prog.cellsOf e := slices_full_of Try.prog (by kernel_rfl)

set_option maxRecDepth 100000 in
theorem lifted (os : Os) (started : os.Started) (H : Type) (enc : TypeId × Value → H) :
    ReturnsInHanded {} Try.checked os 4 .any (Rows.runMergesSpec.pre6 enc Try.prog Try.f4 Rows.runMergesRow.domain false) (Rows.runMergesSpec.post enc Try.prog Try.f4 false true false false) := by
  refine returnsInHanded_of_change (C := Try.checked) own started (by kernel_rfl) Try.func4
    (ChangeSpec.witness6 (enc := enc) (C := Try.checked) false ⟨#[], #[.slice none 0 0, .bool false], []⟩ 8 (by kernel_rfl) (by kernel_rfl) (by kernel_rfl) (by kernel_rfl)) ?_
  intro W base args ds gs before hval0 hW _ _
  have hval : ∀ (j : Nat) t v, Try.f4.params[j]? = some t → args[j]? = some v → Value.okWide Try.prog W .any base t v := hval0
  have hW' := hW
  obtain ⟨p, q, hA0, hV, rfl, _, _⟩ := hW
  obtain ⟨rfl, rfl⟩ := trodVars_none hV
  have hA : DataW.TrodAll enc Try.prog W 0 (fun _ => true) true Try.f4.params.toList args.toList ds p := hA0
  rw [Try.params4] at hA hval
  obtain ⟨v0, vs0, d0, ds0, p0, q0, hargs, rfl, rfl, h0, r0⟩ := trodAll_cons hA
  obtain ⟨v1, vs1, d1, ds1, p1, q1, rfl, rfl, rfl, h1, r1⟩ := trodAll_cons r0
  obtain ⟨rfl, rfl, rfl⟩ := trodAll_nil r1
  obtain rfl : args = #[v0, v1] := by cases args; simp_all
  have hlt := hW'.lt
  obtain ⟨A0, n0, c0, l0, rfl, hnc0, hm0, hb0, hs0⟩ := open_crs Try.underlying28 (by kernel_rfl) Try.underlying22 Try.underlying38 (by kernel_rfl) ⟨rfl, rfl, rfl⟩ ⟨by kernel_rfl, by kernel_rfl, by kernel_rfl⟩ ⟨by kernel_rfl, by kernel_rfl, by kernel_rfl⟩ (hval 0 28 v0 rfl rfl) h0 (fun x hx => hlt x (by simp [hx]))
  obtain ⟨b1, rfl, _, _⟩ := open_bool Try.underlying4 (hval 1 4 v1 rfl rfl) h1
  refine (merges_walk A0 n0 c0 l0 b1 W hb0 hnc0 hm0 hs0).mono fun e W' ⟨he, hbel⟩ => ?_
  subst he
  exact ⟨_, rfl, law_post kids full (of_decide_eq_true (by kernel_rfl)) Try.underlying4 rfl rfl rfl hW' hbel⟩

theorem proved : Rows.RunMergesSaid :=
  OpenClaim.holds_of_wide 4 Try.f4 rfl rfl rfl rfl rfl rfl rfl ⟨rfl, rfl, rfl, rfl, rfl⟩ rfl rfl rfl rfl rfl (by kernel_rfl) Try.func4 (by kernel_rfl)
    (of_decide_eq_true (by kernel_rfl)) (by unfold Func.isWrapper; first | (rw [if_pos (by decide +kernel)]; kernel_rfl) | (rw [if_neg (by decide +kernel)]; exact ⟨rfl, rfl⟩))
    (fun os started H enc _ => lifted os started H enc)
end lawRunMerges

end Go.Proofs.Ytmbolempigbkdaa
