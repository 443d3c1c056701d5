/- Are lists light; rows of rows of changes that the call makes. Condition: in memory. -/
import Derived.Test.YtfmjjjfeooaeeaaRawA
namespace Go.Proofs.Ytfmjjjfeooaeeaa
open Go.RowKit
open Go.Lib (strCells compareBytes)

def LightsPost (L : List (List Chg)) (w : World) (e : Ending) (w' : World) : Prop := ∃ b : Bool, e = .returned (.bool b) ∧ (b = true → L.length ≤ 10 ∧ ∀ l ∈ L, LightC 60 l) ∧ ∃ q, w' = w.drewN q
theorem LightC.small {l : List Chg} (h : LightC 60 l) : SmallL l := ⟨h.1, fun x hx => by have := h.mem hx; omega⟩
set_option maxRecDepth 100000 in
theorem lights_any (A : Option Addr) (n c C : Nat) (rs : Crs) (w : World) (h : HasCrs w C A n rs) (hn : n ≤ maxLen) (hs : ∀ l ∈ crLists rs, ∀ u ∈ l, u.k.size ≤ maxLen ∧ u.v.size ≤ maxLen) :
    Calls Try.prog 18 #[.slice A n c] w (LightsPost (crLists rs) w) := by
  unfold maxLen at hn
  have H := Lib.hid h
  have Hs := Lib.hid hs
  have Hl : Hid ((crLists rs).length = n) := Lib.hid (by rw [crLists_len]; exact h.len)
  clear h hs
  by_cases h10 : 10 < n
  · go_enter Try.func18, Try.ntmps18
    go_wp2
    go_ret
    exact ⟨false, rfl, by simp, 0, rfl⟩
  · go_enter Try.func18, Try.ntmps18
    go_wp2
    go_loopw [3] (fun i wr => ∃ k : Nat, k ≤ n ∧ i = .int .i64 (k : Int) ∧ Hid (∀ l ∈ (crLists rs).take k, LightC 60 l) ∧ ∃ q, wr = w.drewN q) (fun i _ => n - (intOf i).toNat)
    case atStart => exact ⟨0, by omega, rfl, Lib.hid (by simp), 0, rfl⟩
    case round =>
      obtain ⟨k, hk, rfl, Hp, q, rfl⟩ := hrel
      by_cases hlt : k < n
      · obtain ⟨a, A1, m1, c1, l, rfl, hab, hg, h1, h2, h3, d0, -⟩ := H.out.at_ hlt
        have Hg := Lib.hid hg
        have Hc := Lib.hid (light_any A1 m1 c1 C 60 l (w.drewN q) (h3.keep fun _ _ => rfl) (by omega) (by omega) (Hs.out l (List.mem_of_getElem? hg)))
        clear hg h3 h2 h1
        go_wp2_with fail
        refine Hc.out.mono ?_
        rintro e w1 ⟨b, rfl, hbl, q2, rfl⟩
        have Hbl := Lib.hid hbl
        clear hbl
        cases b with
        | false =>
          go_wp2
          go_ret
          exact ⟨false, rfl, by simp, q + q2, rfl⟩
        | true =>
          have Hp1 : Hid (∀ l ∈ (crLists rs).take (k + 1), LightC 60 l) := Lib.hid (by
            rw [List.take_add_one, Hg.out]
            intro x hx
            rcases List.mem_append.1 hx with hx | hx
            · exact Hp.out x hx
            · simp at hx; subst hx; exact Hbl.out rfl)
          go_wp2
          go_roundw
          case rel => exact ⟨k + 1, by omega, by go_num, Hp1, q + q2, rfl⟩
          case measure => simp [intOf]; omega
      · have E : Hid ((crLists rs).length ≤ 10 ∧ ∀ l ∈ crLists rs, LightC 60 l) := Lib.hid ⟨by have := Hl.out; omega, by have h1 := Hp.out; rwa [List.take_of_length_le (by have := Hl.out; omega)] at h1⟩
        obtain rfl : k = n := by omega
        go_wp2
        go_ret
        exact ⟨true, rfl, fun _ => E.out, q, rfl⟩

theorem tidy_small {c : Chg} (h : c.k.size ≤ 4000 ∧ c.v.size ≤ 4000) : (tidy c).k.size ≤ 4000 ∧ (tidy c).v.size ≤ 4000 := by
  unfold tidy
  split
  · exact ⟨h.1, by simp [ByteArray.size]⟩
  · exact h
theorem small_over : ∀ {l a : List Chg}, (∀ x ∈ l, x.k.size ≤ 4000 ∧ x.v.size ≤ 4000) → (∀ x ∈ a, x.k.size ≤ 4000 ∧ x.v.size ≤ 4000) → ∀ x ∈ overL a l, x.k.size ≤ 4000 ∧ x.v.size ≤ 4000
  | [], _, _, h => h
  | c :: l, a, h1, h2 => small_over (l := l) (a := putC (tidy c) a) (fun x hx => h1 x (List.mem_cons_of_mem _ hx)) fun x hx => by
    rcases mem_putC hx with rfl | hx
    · exact tidy_small (h1 c (by simp))
    · exact h2 x hx
theorem small_make {l : List Chg} (h : SmallL l) : SmallL (makeL l) := ⟨by have := len_over l []; have := h.1; unfold makeL; simp at *; omega, small_over h.2 (by simp)⟩

/-- a row of rows of changes: the row is the call's own; each of its rows is the call's own, or lies below block C -/
structure OwnCr (w : World) (C B : Nat) (v : Value) (rs : Crs) : Prop where
  cb : C ≤ B
  own : w.ownsRow B 22 1 v rs.length (crCells rs)
  rows : ∀ r ∈ rs, OwnChs w B r.1 r.2 ∨ ∃ A m c, r.1 = .slice A m c ∧ m ≤ c ∧ c ≤ maxLen ∧ HasChs w C A m r.2
theorem cr_elem : ElemN Try.prog 22 1 24 (.slice none 0 0) := ⟨by kernel_rfl, rfl⟩
theorem OwnCr.below {w w' : World} {C B : Nat} {v : Value} {rs : Crs} (h : OwnCr w C B v rs) (hB : B ≤ w.heap.size) (hb : Below w.heap.size w w') : OwnCr w' C B v rs :=
  ⟨h.cb, own_belowN h.own hb, fun r hr => (h.rows r hr).imp (fun x => x.below hb) fun ⟨A, m, c, e, h1, h2, h3⟩ => ⟨A, m, c, e, h1, h2, h3.belowOf hb (Nat.le_trans h.cb hB)⟩⟩
theorem OwnCr.nil (w : World) {C B : Nat} (h : C ≤ B) : OwnCr w C B (.slice none 0 0) [] := ⟨h, World.ownsRow_nil _ _ _ _, by simp⟩
theorem OwnCr.has {w : World} {C B : Nat} {v : Value} {rs : Crs} (h : OwnCr w C B v rs) (hC : C ≤ w.heap.size) : ∃ A c, v = .slice A rs.length c ∧ rs.length ≤ c ∧ c ≤ maxLen ∧ HasCrs w w.heap.size A rs.length rs := by
  obtain ⟨A, c, e, h1, h2, h3⟩ := own_slice h.own
  refine ⟨A, c, e, h1, h2, h3, fun r hr => ?_⟩
  rcases h.rows r hr with hx | ⟨A', m, c', e', g1, g2, g3⟩
  · obtain ⟨A', c', e', g1, g2, g3⟩ := hx.slice
    exact ⟨A', _, c', e', g1, g2, g3⟩
  · exact ⟨A', m, c', e', g1, g2, g3.more hC⟩
theorem OwnCr.snoc {w w' : World} {C B : Nat} {v v' : Value} {rs : Crs} {q : Value × List Chg} (h : OwnCr w C B v rs) (hq : OwnChs w B q.1 q.2 ∨ ∃ A m c, q.1 = .slice A m c ∧ m ≤ c ∧ c ≤ maxLen ∧ HasChs w C A m q.2)
    (h' : w'.ownsRow B 22 1 v' (rs.length + 1) (crCells rs ++ [q.1])) (hg : w.grownBy w' v.ownBlock) (hB : B ≤ w.heap.size) : OwnCr w' C B v' (rs ++ [q]) := by
  have hbel : Below B w w' := (Below.refl _ _).grown hg hB fun g e => (h.own.lt g e).1
  have key : ∀ r : Value × List Chg, (OwnChs w B r.1 r.2 ∨ ∃ A m c, r.1 = .slice A m c ∧ m ≤ c ∧ c ≤ maxLen ∧ HasChs w C A m r.2) → (OwnChs w' B r.1 r.2 ∨ ∃ A m c, r.1 = .slice A m c ∧ m ≤ c ∧ c ≤ maxLen ∧ HasChs w' C A m r.2) := fun r hr =>
    hr.imp (fun x => own_otherP hg h.own x (by decide)) fun ⟨A, m, c, e, h1, h2, h3⟩ => ⟨A, m, c, e, h1, h2, h3.belowOf hbel h.cb⟩
  refine ⟨h.cb, by rw [List.length_append]; unfold crCells at h' ⊢; rw [List.map_append]; exact h', fun r hr => ?_⟩
  rcases List.mem_append.1 hr with hr | hr
  · exact key r (h.rows r hr)
  · simp at hr
    subst hr
    exact key _ hq
theorem crLists_snoc (rs : Crs) (q : Value × List Chg) : crLists (rs ++ [q]) = crLists rs ++ [q.2] := by simp [crLists]
end Go.Proofs.Ytfmjjjfeooaeeaa
