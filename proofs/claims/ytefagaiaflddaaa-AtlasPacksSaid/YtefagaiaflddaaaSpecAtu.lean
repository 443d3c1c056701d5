/-
  Layer 12 as plain mathematics: the map that a text is, and the way back. Nothing of the translated program is named here.
-/
import Derived.Test.YtefagaiaflddaaaSpecAtp
namespace Go.Proofs.Ytefagaiaflddaaa

/-- k parts, read one by one from the place p on -/
def partsFrom (l : List UInt8) : Nat → Nat → List Pt × Nat × Nat
  | 0, p => ([], p, 0)
  | k + 1, p =>
    let r := getText l p 100
    if r.2.2 ≠ 0 then ([], 0, r.2.2)
    else
      let x := getNum l r.2.1
      if x.2.2 ≠ 0 then ([], 0, x.2.2)
      else
        let q := partsFrom l k x.2.1
        if q.2.2 ≠ 0 then ([], 0, q.2.2) else (⟨⟨r.1.toArray⟩, (x.1 : Int)⟩ :: q.1, q.2.1, 0)
/-- the map that a text is -/
noncomputable def unpackT (l : List UInt8) : MapR :=
  let x := getNum l 0
  if x.2.2 ≠ 0 then (0, [], (x.2.2 : Int))
  else
    let n := getNum l x.2.1
    if n.2.2 ≠ 0 then (0, [], (n.2.2 : Int))
    else if 8 < n.1 then (0, [], 4)
    else
      let r := partsFrom l n.1 n.2.1
      if r.2.2 ≠ 0 then (0, [], (r.2.2 : Int))
      else if r.2.1 < l.length then (0, [], 3)
      else if checkT x.1 r.1 ≠ 0 then (0, [], checkT x.1 r.1) else ((x.1 : Int), r.1, 0)
theorem pt_back (q : Pt) (h : 0 ≤ q.n) : (⟨⟨q.lb.toArray⟩, (q.n.toNat : Int)⟩ : Pt) = q := by
  obtain ⟨lo, n⟩ := q
  simp only at h
  rw [Int.toNat_of_nonneg h]
  congr 1
theorem parts_put : ∀ (L : List Pt) (l more : List UInt8) (p : Nat), (∀ q ∈ L, EachP q) → p ≤ l.length → l.drop p = bodyP L ++ more → partsFrom l L.length p = (L, p + (bodyP L).length, 0)
  | [], l, more, p, _, _, _ => by simp [partsFrom, bodyP]
  | q :: L, l, more, p, h, hp, hd => by
    obtain ⟨h1, h2, h3⟩ := h q List.mem_cons_self
    have hd1 : l.drop p = textForm q.lb ++ ((numForm q.n.toNat ++ bodyP L) ++ more) := by rw [hd, bodyP]; simp only [List.append_assoc]
    have e1 := getText_put (most := 100) (by omega) (by omega) hp hd1
    have d2 : l.drop (p + (textForm q.lb).length) = numForm q.n.toNat ++ (bodyP L ++ more) := by rw [drop_more hd1, List.append_assoc]
    have hlen := congrArg List.length hd1
    rw [List.length_drop] at hlen
    simp only [List.length_append] at hlen
    have e2 := getNum_put (n := q.n.toNat) (by omega) (by omega) d2
    have d3 := drop_more d2
    have e3 := parts_put L l more _ (fun x hx => h x (List.mem_cons_of_mem _ hx)) (by omega) d3
    simp only [List.length_cons, partsFrom, e1, e2, e3]
    rw [if_neg (by simp), if_neg (by simp), if_neg (by simp), pt_back q (by omega)]
    simp only [bodyP, List.length_append]
    congr 2
    omega
theorem unpack_pack {ep : Int} {l : List Pt} (h : checkT ep l = 0) : unpackT (packM ep.toNat l) = (ep, l, 0) := by
  obtain ⟨h1, h2, h3⟩ := check_zero.1 h
  have hm := h3.most
  have hd0 : (packM ep.toNat l).drop 0 = numForm ep.toNat ++ (numForm l.length ++ bodyP l) := rfl
  have e1 := getNum_put (n := ep.toNat) (p := 0) (by omega) (Nat.zero_le _) hd0
  have d1 := drop_more hd0
  have hlen : (packM ep.toNat l).length = (numForm ep.toNat).length + ((numForm l.length).length + (bodyP l).length) := by unfold packM; simp only [List.length_append]
  have e2 := getNum_put (n := l.length) (by omega) (by omega) d1
  have d2 := drop_more d1
  have e3 := parts_put l (packM ep.toNat l) [] (0 + (numForm ep.toNat).length + (numForm l.length).length) h3.each (by omega) (by rw [d2, List.append_nil])
  have he : ((ep.toNat : Nat) : Int) = ep := Int.toNat_of_nonneg (by omega)
  unfold unpackT
  simp only [Int.ofNat_zero] at e1
  simp only [e1, e2, e3]
  rw [if_neg (by simp), if_neg (by simp), if_neg (by omega), if_neg (by simp), if_neg (by omega), he, if_neg (by rw [h]; simp)]
theorem parts_one (l : List UInt8) : ∀ (k p : Nat), p ≤ l.length → (partsFrom l k p).2.2 = 0 →
    (partsFrom l k p).1.length = k ∧ p ≤ (partsFrom l k p).2.1 ∧ (partsFrom l k p).2.1 ≤ l.length ∧ bodyP (partsFrom l k p).1 = (l.drop p).take ((partsFrom l k p).2.1 - p)
  | 0, p, hp, _ => by simp [partsFrom, bodyP, hp]
  | k + 1, p, hp, h => by
    unfold partsFrom at h ⊢
    simp only at h ⊢
    split at h
    · rename_i h1; exact absurd h h1
    · rename_i h1
      have h1' : (getText l p 100).2.2 = 0 := by simpa using h1
      rw [if_neg h1]
      split at h
      · rename_i h2; exact absurd h h2
      · rename_i h2
        have h2' : (getNum l (getText l p 100).2.1).2.2 = 0 := by simpa using h2
        rw [if_neg h2]
        split at h
        · rename_i h3; exact absurd h h3
        · rename_i h3
          have h3' : (partsFrom l k (getNum l (getText l p 100).2.1).2.1).2.2 = 0 := by simpa using h3
          rw [if_neg h3]
          obtain ⟨-, t1, t2⟩ := getText_place h1'
          have t3 := getText_one h1'
          obtain ⟨-, -, g1, g2⟩ := getNum_bound h2'
          have g3 := getNum_one h2'
          simp only [Int.toNat_natCast] at t3 g3
          obtain ⟨r1, r2, r3, r4⟩ := parts_one l k _ g2 h3'
          refine ⟨by simp [r1], by simp only; omega, r3, ?_⟩
          simp only [bodyP]
          have hlb : (⟨⟨(getText l p 100).1.toArray⟩, ((getNum l (getText l p 100).2.1).1 : Int)⟩ : Pt).lb = (getText l p 100).1 := by simp [Pt.lb]
          rw [hlb, Int.toNat_natCast, t3, g3, r4, take_join l (by omega) (by omega), take_join l (by omega) (by omega)]
theorem pack_unpack {l : List UInt8} {ep : Int} {L : List Pt} (h : unpackT l = (ep, L, 0)) : packT ep L = (l, 0) := by
  unfold unpackT at h
  simp only at h
  split at h
  · rename_i h1; injection h with _ h; injection h with _ h; omega
  · rename_i h1
    have h1' : (getNum l 0).2.2 = 0 := by simpa using h1
    split at h
    · rename_i h2; injection h with _ h; injection h with _ h; omega
    · rename_i h2
      have h2' : (getNum l (getNum l 0).2.1).2.2 = 0 := by simpa using h2
      split at h
      · injection h with _ h; injection h with _ h; omega
      · split at h
        · rename_i h3; injection h with _ h; injection h with _ h; omega
        · rename_i h3
          have h3' : (partsFrom l (getNum l (getNum l 0).2.1).1 (getNum l (getNum l 0).2.1).2.1).2.2 = 0 := by simpa using h3
          split at h
          · injection h with _ h; injection h with _ h; omega
          · rename_i h4
            split at h
            · rename_i h5; injection h with _ h; injection h with _ h; exact absurd h h5
            · rename_i h5
              have h5' := Decidable.not_not.1 h5
              injection h with he h
              injection h with hL _
              subst he
              subst hL
              unfold packT
              rw [if_pos h5', Int.toNat_natCast]
              congr 1
              obtain ⟨-, -, a1, a2⟩ := getNum_bound h1'
              have a3 := getNum_one h1'
              obtain ⟨-, -, b1, b2⟩ := getNum_bound h2'
              have b3 := getNum_one h2'
              obtain ⟨r1, r2, r3, r4⟩ := parts_one l _ _ b2 h3'
              simp only [Int.toNat_natCast, Int.toNat_zero] at a3 b3
              unfold packM
              rw [r1, a3, b3, r4, take_join l (by omega) (by omega), take_join l (Nat.zero_le _) (by omega), List.drop_zero]
              exact List.take_of_length_le (by omega)
end Go.Proofs.Ytefagaiaflddaaa
