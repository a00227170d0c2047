/- Own contracts: elements, and charts, taken from any bytes. No statement is proved here. -/
import Derived.Test.YtokjlhpkjebnkaaPs
namespace Go.Proofs.Ytokjlhpkjebnkaa
set_option maxRecDepth 100000
open Go.RowKit
set_option linter.unusedVariables false
set_option linter.unusedSimpArgs false


/-- An element, taken: each of its fields by the one call. -/
def stElem (a : Int) (o0 : Option (List Int)) : El × Option (List Int) :=
  let p0 := stNum 1048576 o0
  let p1 := stNum 255 p0.2
  let p2 := stNum 1048576 p1.2
  let p3 := stNum 1048576 p2.2
  let p4 := stNum 1048576 p3.2
  let p5 := stNum 1048576 p4.2
  let p6 := stText 12 p5.2
  let p7 := stText 12 p6.2
  let p8 := stText 12 p7.2
  let p9 := stText 12 p8.2
  (⟨a + p0.1, p1.1, p2.1, p3.1, p6.1, p4.1, p5.1, p7.1, p8.1, p9.1⟩, p9.2)

theorem stNum_some {most : Int} {o : Option (List Int)} {ys : List Int} (hb : ∀ xs, o = some xs → Bytes8 xs) (h : (stNum most o).2 = some ys) : ∃ xs n, o = some xs ∧ xs = numB n ++ ys ∧ (stNum most o).1 = (n : Int) ∧ (n : Int) ≤ most ∧ Bytes8 ys := by
  cases o with
  | none => simp [stNum] at h
  | some xs =>
    cases hp : pNum most xs with
    | none => simp [stNum, hp] at h
    | some p =>
      obtain ⟨n, r⟩ := p
      have e : stNum most (some xs) = ((n : Int), some r) := by simp [stNum, hp]
      rw [e] at h ⊢
      injection h with h
      subst h
      obtain ⟨h1, h2, h3⟩ := pNum_some (hb xs rfl) hp
      exact ⟨xs, n, rfl, h1, rfl, h2, by have := hb xs rfl; rw [h1] at this; exact bytes8_app this⟩
theorem sB_str {xs : List Int} (hb : Bytes8 xs) : sB (strOfNums xs) = xs := by
  unfold sB
  rw [strOfNums_data, List.map_map]
  conv => rhs; rw [← List.map_id xs]
  apply List.map_congr_left
  intro x hx
  have := hb x hx
  simp only [Function.comp, id, UInt8.toNat_ofNat']
  omega
theorem stText_some {most : Int} {o : Option (List Int)} {ys : List Int} (hb : ∀ xs, o = some xs → Bytes8 xs) (h : (stText most o).2 = some ys) : ∃ xs s, o = some xs ∧ xs = textB s ++ ys ∧ (stText most o).1 = s ∧ (s.size : Int) ≤ most ∧ Bytes8 ys := by
  cases o with
  | none => simp [stText] at h
  | some xs =>
    cases hp : pNum most xs with
    | none => simp [stText, hp] at h
    | some p =>
      obtain ⟨n, r⟩ := p
      obtain ⟨h1, h2, h3⟩ := pNum_some (hb xs rfl) hp
      have hbr : Bytes8 r := by have := hb xs rfl; rw [h1] at this; exact bytes8_app this
      by_cases h0 : n = 0
      · have e : stText most (some xs) = (e0, some r) := by simp [stText, hp, h0]
        rw [e] at h ⊢
        injection h with h
        subst h
        refine ⟨xs, e0, rfl, ?_, rfl, by show ((0 : Nat) : Int) ≤ most; omega, hbr⟩
        rw [h1, h0]
        unfold textB
        rw [show e0.size = 0 from rfl, show sB e0 = [] from rfl, List.append_nil]
      · by_cases hl : n ≤ r.length
        · have e : stText most (some xs) = (strOfNums (r.take n), some (r.drop n)) := by simp [stText, hp, h0, hl]
          rw [e] at h ⊢
          injection h with h
          subst h
          have hbt : Bytes8 (r.take n) := fun x hx => hbr x (List.mem_of_mem_take hx)
          have hsz : (strOfNums (r.take n)).size = n := by
            have := congrArg List.length (sB_str hbt)
            rw [sB_len, List.length_take] at this
            omega
          refine ⟨xs, _, rfl, ?_, rfl, by rw [hsz]; exact h2, fun x hx => hbr x (List.mem_of_mem_drop hx)⟩
          unfold textB
          rw [hsz, sB_str hbt, List.append_assoc, List.take_append_drop]
          exact h1
        · have e : stText most (some xs) = (e0, none) := by simp [stText, hp, h0, hl]
          rw [e] at h; cases h
theorem stNum_ok {most : Int} {i : Int} (r : List Int) (hi : 0 ≤ i ∧ i ≤ 9000000000000000000) (hm : i ≤ most) : stNum most (some (numB i.toNat ++ r)) = (i, some r) := by
  have h := pNum_ok (most := most) (n := i.toNat) r (by omega) (by omega)
  simp only [stNum, h]
  rw [show ((i.toNat : Nat) : Int) = i by omega]
theorem stText_ok {most : Int} (s : ByteArray) (r : List Int) (hs : s.size ≤ 200) (hm : (s.size : Int) ≤ most) : stText most (some (textB s ++ r)) = (s, some r) := by
  have h := pNum_ok (most := most) (n := s.size) (sB s ++ r) (by omega) hm
  have e : textB s ++ r = numB s.size ++ (sB s ++ r) := by unfold textB; rw [List.append_assoc]
  rw [e]
  simp only [stText, h]
  have hl := sB_len s
  by_cases h0 : s.size = 0
  · rw [if_pos h0]
    have hs0 : sB s = [] := List.eq_nil_of_length_eq_zero (by omega)
    have : s = e0 := by rw [← strOf_sB s, hs0]; rfl
    rw [hs0, this]
    rfl
  · rw [if_neg h0, if_pos (by rw [List.length_append]; omega)]
    have e1 : (sB s ++ r).take s.size = sB s := by rw [← hl]; exact List.take_left
    have e2 : (sB s ++ r).drop s.size = r := by rw [← hl]; exact List.drop_left
    rw [e1, e2, strOf_sB]
/-- What is taken as an element are its bytes. -/
theorem stElem_some {a : Int} {o : Option (List Int)} {ys : List Int} (hb : ∀ xs, o = some xs → Bytes8 xs) (h : (stElem a o).2 = some ys) : ∃ xs, o = some xs ∧ xs = elemB a (stElem a o).1 ++ ys ∧ Bytes8 ys ∧ (0 ≤ (stElem a o).1.kind ∧ (stElem a o).1.kind ≤ 255) ∧ a ≤ (stElem a o).1.id := by
  unfold stElem at h ⊢
  dsimp only at h ⊢
  obtain ⟨q0, hq0⟩ : ∃ q, stNum 1048576 o = q := ⟨_, rfl⟩
  rw [hq0] at h ⊢
  obtain ⟨q1, hq1⟩ : ∃ q, stNum 255 q0.2 = q := ⟨_, rfl⟩
  rw [hq1] at h ⊢
  obtain ⟨q2, hq2⟩ : ∃ q, stNum 1048576 q1.2 = q := ⟨_, rfl⟩
  rw [hq2] at h ⊢
  obtain ⟨q3, hq3⟩ : ∃ q, stNum 1048576 q2.2 = q := ⟨_, rfl⟩
  rw [hq3] at h ⊢
  obtain ⟨q4, hq4⟩ : ∃ q, stNum 1048576 q3.2 = q := ⟨_, rfl⟩
  rw [hq4] at h ⊢
  obtain ⟨q5, hq5⟩ : ∃ q, stNum 1048576 q4.2 = q := ⟨_, rfl⟩
  rw [hq5] at h ⊢
  obtain ⟨q6, hq6⟩ : ∃ q, stText 12 q5.2 = q := ⟨_, rfl⟩
  rw [hq6] at h ⊢
  obtain ⟨q7, hq7⟩ : ∃ q, stText 12 q6.2 = q := ⟨_, rfl⟩
  rw [hq7] at h ⊢
  obtain ⟨q8, hq8⟩ : ∃ q, stText 12 q7.2 = q := ⟨_, rfl⟩
  rw [hq8] at h ⊢
  obtain ⟨q9, hq9⟩ : ∃ q, stText 12 q8.2 = q := ⟨_, rfl⟩
  rw [hq9] at h ⊢
  have hb0 : ∀ xs, q0.2 = some xs → Bytes8 xs := fun xs hx => by
    obtain ⟨_, _, _, _, _, _, hB⟩ := stNum_some hb (by rw [hq0]; exact hx)
    exact hB
  have hb1 : ∀ xs, q1.2 = some xs → Bytes8 xs := fun xs hx => by
    obtain ⟨_, _, _, _, _, _, hB⟩ := stNum_some hb0 (by rw [hq1]; exact hx)
    exact hB
  have hb2 : ∀ xs, q2.2 = some xs → Bytes8 xs := fun xs hx => by
    obtain ⟨_, _, _, _, _, _, hB⟩ := stNum_some hb1 (by rw [hq2]; exact hx)
    exact hB
  have hb3 : ∀ xs, q3.2 = some xs → Bytes8 xs := fun xs hx => by
    obtain ⟨_, _, _, _, _, _, hB⟩ := stNum_some hb2 (by rw [hq3]; exact hx)
    exact hB
  have hb4 : ∀ xs, q4.2 = some xs → Bytes8 xs := fun xs hx => by
    obtain ⟨_, _, _, _, _, _, hB⟩ := stNum_some hb3 (by rw [hq4]; exact hx)
    exact hB
  have hb5 : ∀ xs, q5.2 = some xs → Bytes8 xs := fun xs hx => by
    obtain ⟨_, _, _, _, _, _, hB⟩ := stNum_some hb4 (by rw [hq5]; exact hx)
    exact hB
  have hb6 : ∀ xs, q6.2 = some xs → Bytes8 xs := fun xs hx => by
    obtain ⟨_, _, _, _, _, _, hB⟩ := stText_some hb5 (by rw [hq6]; exact hx)
    exact hB
  have hb7 : ∀ xs, q7.2 = some xs → Bytes8 xs := fun xs hx => by
    obtain ⟨_, _, _, _, _, _, hB⟩ := stText_some hb6 (by rw [hq7]; exact hx)
    exact hB
  have hb8 : ∀ xs, q8.2 = some xs → Bytes8 xs := fun xs hx => by
    obtain ⟨_, _, _, _, _, _, hB⟩ := stText_some hb7 (by rw [hq8]; exact hx)
    exact hB
  have hb9 : ∀ xs, q9.2 = some xs → Bytes8 xs := fun xs hx => by
    obtain ⟨_, _, _, _, _, _, hB⟩ := stText_some hb8 (by rw [hq9]; exact hx)
    exact hB
  have hs9 := h
  obtain ⟨x9, n9, e9, b9, v9, m9, _⟩ := stText_some hb8 (by rw [hq9]; exact hs9)
  rw [hq9] at v9
  have hs8 := e9
  obtain ⟨x8, n8, e8, b8, v8, m8, _⟩ := stText_some hb7 (by rw [hq8]; exact hs8)
  rw [hq8] at v8
  have hs7 := e8
  obtain ⟨x7, n7, e7, b7, v7, m7, _⟩ := stText_some hb6 (by rw [hq7]; exact hs7)
  rw [hq7] at v7
  have hs6 := e7
  obtain ⟨x6, n6, e6, b6, v6, m6, _⟩ := stText_some hb5 (by rw [hq6]; exact hs6)
  rw [hq6] at v6
  have hs5 := e6
  obtain ⟨x5, n5, e5, b5, v5, m5, _⟩ := stNum_some hb4 (by rw [hq5]; exact hs5)
  rw [hq5] at v5
  have hs4 := e5
  obtain ⟨x4, n4, e4, b4, v4, m4, _⟩ := stNum_some hb3 (by rw [hq4]; exact hs4)
  rw [hq4] at v4
  have hs3 := e4
  obtain ⟨x3, n3, e3, b3, v3, m3, _⟩ := stNum_some hb2 (by rw [hq3]; exact hs3)
  rw [hq3] at v3
  have hs2 := e3
  obtain ⟨x2, n2, e2, b2, v2, m2, _⟩ := stNum_some hb1 (by rw [hq2]; exact hs2)
  rw [hq2] at v2
  have hs1 := e2
  obtain ⟨x1, n1, e1, b1, v1, m1, _⟩ := stNum_some hb0 (by rw [hq1]; exact hs1)
  rw [hq1] at v1
  have hs0 := e1
  obtain ⟨x0, n0, e0, b0, v0, m0, _⟩ := stNum_some hb (by rw [hq0]; exact hs0)
  rw [hq0] at v0
  refine ⟨x0, e0, ?_, hb9 ys h, ?_, ?_⟩
  · rw [b0, b1, b2, b3, b4, b5, b6, b7, b8, b9]
    unfold elemB
    dsimp only
    rw [v0, v1, v2, v3, v4, v5, v6, v7, v8, v9]
    rw [show (a + (n0 : Int) - a).toNat = n0 by omega]
    simp only [Int.toNat_natCast, List.append_assoc]
  · rw [v1]; omega
  · rw [v0]; omega

/-- An element's bytes are taken as that element. -/
theorem stElem_ok {a : Int} {x : El} (r : List Int) (ha : 0 ≤ a ∧ a ≤ x.id) (hx : Fine x) (hk : 0 ≤ x.kind ∧ x.kind ≤ 255) : stElem a (some (elemB a x ++ r)) = (x, some r) := by
  have i0 := hx.id
  unfold stElem elemB
  simp only [List.append_assoc]
  rw [stNum_ok _ (by omega) (by omega)]
  dsimp only
  rw [stNum_ok _ (by omega) hk.2]
  dsimp only
  rw [stNum_ok _ (by have := hx.par; omega) hx.par.2]
  dsimp only
  rw [stNum_ok _ (by have := hx.ord; omega) hx.ord.2]
  dsimp only
  rw [stNum_ok _ (by have := hx.frm; omega) hx.frm.2]
  dsimp only
  rw [stNum_ok _ (by have := hx.to; omega) hx.to.2]
  dsimp only
  rw [stText_ok _ _ (by have := hx.name; omega) (by have := hx.name; omega)]
  dsimp only
  rw [stText_ok _ _ (by have := hx.ev; omega) (by have := hx.ev; omega)]
  dsimp only
  rw [stText_ok _ _ (by have := hx.gd; omega) (by have := hx.gd; omega)]
  dsimp only
  rw [stText_ok _ _ (by have := hx.ac; omega) (by have := hx.ac; omega)]
  dsimp only
  rw [show a + (x.id - a) = x.id by omega]
/-- So many elements, taken one behind the other. -/
def stMany : Nat → Int → Option (List Int) → List El × Option (List Int)
  | 0, _, o => ([], o)
  | n + 1, a, o => ((stElem a o).1 :: (stMany n (stElem a o).1.id (stElem a o).2).1, (stMany n (stElem a o).1.id (stElem a o).2).2)
theorem stMany_len : ∀ (n : Nat) (a : Int) (o : Option (List Int)), (stMany n a o).1.length = n
  | 0, _, _ => rfl
  | n + 1, a, o => by simp only [stMany, List.length_cons, stMany_len n]
theorem stMany_some : ∀ (n : Nat) (a : Int) (o : Option (List Int)) (ys : List Int), (∀ xs, o = some xs → Bytes8 xs) → (stMany n a o).2 = some ys → ∃ xs, o = some xs ∧ xs = elemsB a (stMany n a o).1 ++ ys ∧ ∀ x ∈ (stMany n a o).1, 0 ≤ x.kind ∧ x.kind ≤ 255
  | 0, a, o, ys, _, h => ⟨ys, h, rfl, fun x hx => by simp [stMany] at hx⟩
  | n + 1, a, o, ys, hb, h => by
    simp only [stMany] at h ⊢
    have hb2 : ∀ xs, (stElem a o).2 = some xs → Bytes8 xs := fun xs hx => by
      obtain ⟨_, _, _, hB, _⟩ := stElem_some hb hx
      exact hB
    obtain ⟨zs, h1, h2, h3⟩ := stMany_some n _ _ ys hb2 h
    obtain ⟨xs, e1, e2, _, e4, _⟩ := stElem_some hb h1
    refine ⟨xs, e1, ?_, fun x hx => ?_⟩
    · rw [e2, h2]; simp only [elemsB, List.append_assoc]
    · rcases List.mem_cons.1 hx with rfl | hx
      · exact e4
      · exact h3 x hx
theorem stMany_ok : ∀ (l : List El) (a : Int) (r : List Int), 0 ≤ a → (∀ x ∈ l, a < x.id) → Rises l → (∀ x ∈ l, Fine x) → (∀ x ∈ l, 0 ≤ x.kind ∧ x.kind ≤ 255) → stMany l.length a (some (elemsB a l ++ r)) = (l, some r)
  | [], a, r, _, _, _, _, _ => rfl
  | x :: l, a, r, ha, hlt, hr, hf, hk => by
    have hx := hlt x List.mem_cons_self
    have e := stElem_ok (a := a) (x := x) (elemsB x.id l ++ r) ⟨ha, by omega⟩ (hf x List.mem_cons_self) (hk x List.mem_cons_self)
    have hr2 := List.pairwise_cons.1 hr
    have ih := stMany_ok l x.id r (by omega) (fun y hy => hr2.1 y hy) hr2.2 (fun y hy => hf y (List.mem_cons_of_mem _ hy)) (fun y hy => hk y (List.mem_cons_of_mem _ hy))
    simp only [List.length_cons, stMany, elemsB, List.append_assoc]
    rw [e]
    simp only
    rw [ih]
/-- What bytes tell. -/
def decE (xs : List Int) : Option (List El) :=
  let o := if xs.take 2 = [67, 49] then some (xs.drop 2) else none
  let p := stNum 40 o
  let q := stMany p.1.toNat 0 p.2
  if q.2 = some [] ∧ rightE q.1 = true then some q.1 else none
theorem decE_some {xs : List Int} {c : List El} (hb : Bytes8 xs) (h : decE xs = some c) : xs = bytesE c ∧ rightE c = true ∧ ∀ x ∈ c, 0 ≤ x.kind ∧ x.kind ≤ 255 := by
  unfold decE at h
  dsimp only at h
  by_cases hq : (stMany (stNum 40 (if xs.take 2 = [67, 49] then some (xs.drop 2) else none)).1.toNat 0 (stNum 40 (if xs.take 2 = [67, 49] then some (xs.drop 2) else none)).2).2 = some [] ∧ rightE (stMany (stNum 40 (if xs.take 2 = [67, 49] then some (xs.drop 2) else none)).1.toNat 0 (stNum 40 (if xs.take 2 = [67, 49] then some (xs.drop 2) else none)).2).1 = true
  · rw [if_pos hq] at h
    injection h with h
    by_cases hm : xs.take 2 = [67, 49]
    · simp only [if_pos hm] at h hq
      have hb1 : ∀ ys, (some (xs.drop 2) : Option (List Int)) = some ys → Bytes8 ys := fun ys hy => by
        injection hy with hy; subst hy
        exact fun x hx => hb x (List.mem_of_mem_drop hx)
      obtain ⟨hq1, hq2⟩ := hq
      have hb2 : ∀ ys, (stNum 40 (some (xs.drop 2))).2 = some ys → Bytes8 ys := fun ys hy => by
        obtain ⟨_, _, _, _, _, _, hB⟩ := stNum_some hb1 hy
        exact hB
      obtain ⟨zs, h1, h2, h3⟩ := stMany_some _ _ _ _ hb2 hq1
      obtain ⟨ws, n, k1, k2, k3, k4, _⟩ := stNum_some hb1 h1
      have hlen := stMany_len (stNum 40 (some (xs.drop 2))).1.toNat 0 (stNum 40 (some (xs.drop 2))).2
      rw [h] at h2 h3 hq2 hlen
      rw [k3] at hlen
      refine ⟨?_, hq2, h3⟩
      injection k1 with k1
      unfold bytesE
      rw [hlen, show ((n : Nat) : Int).toNat = n by omega, ← List.take_append_drop 2 xs, hm, k1, k2, h2]
      simp
    · simp only [if_neg hm] at hq
      have : (stNum 40 none).2 = none := rfl
      obtain ⟨hq1, _⟩ := hq
      obtain ⟨zs, h1, _, _⟩ := stMany_some _ _ _ _ (fun ys hy => by rw [this] at hy; cases hy) hq1
      rw [this] at h1
      cases h1
  · rw [if_neg hq] at h; cases h
theorem decE_ok {c : List El} (hr : rightE c = true) (hk : ∀ x ∈ c, 0 ≤ x.kind ∧ x.kind ≤ 255) : decE (bytesE c) = some c := by
  obtain ⟨h40, hri, hfi⟩ := right_iff.1 hr
  have e0' : bytesE c = [67, 49] ++ (numB c.length ++ elemsB 0 c) := by unfold bytesE; rw [List.append_assoc]
  have e1 : (bytesE c).take 2 = [67, 49] := by rw [e0']; rfl
  have e2 : (bytesE c).drop 2 = numB c.length ++ elemsB 0 c := by rw [e0']; rfl
  have e3 := stNum_ok (most := 40) (i := (c.length : Int)) (elemsB 0 c) (by omega) (by omega)
  rw [Int.toNat_natCast] at e3
  have e4 := stMany_ok c 0 [] (Int.le_refl 0) (fun x hx => by have := (hfi x hx).id; omega) hri hfi hk
  rw [List.append_nil] at e4
  unfold decE
  simp only [e1, e2, if_true, e3, Int.toNat_natCast, e4, hr, and_self]
theorem bytesE_inj {c d : List El} (hc : rightE c = true) (hd : rightE d = true) (kc : ∀ x ∈ c, 0 ≤ x.kind ∧ x.kind ≤ 255) (kd : ∀ x ∈ d, 0 ≤ x.kind ∧ x.kind ≤ 255) (h : bytesE c = bytesE d) : c = d := by
  have h1 := decE_ok hc kc
  rw [h, decE_ok hd kd] at h1
  injection h1 with h1
  exact h1.symm
theorem numB_bytes8 : ∀ (n : Nat), Bytes8 (numB n) := by
  intro n
  induction n using Nat.strongRecOn with
  | ind n ih =>
    by_cases h : n < 128
    · rw [numB_small h]
      intro x hx
      rw [List.mem_singleton.1 hx]
      omega
    · rw [numB_big h]
      intro x hx
      rcases List.mem_cons.1 hx with rfl | hx
      · omega
      · exact ih (n / 128) (by omega) x hx
end Go.Proofs.Ytokjlhpkjebnkaa
