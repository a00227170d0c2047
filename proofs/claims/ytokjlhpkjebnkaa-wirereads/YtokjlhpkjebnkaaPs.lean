/- Own contracts: numbers and texts, taken from any bytes. No statement is proved here. -/
import Derived.Test.YtokjlhpkjebnkaaNn
import Derived.Test.YtokjlhpkjebnkaaEn
namespace Go.Proofs.Ytokjlhpkjebnkaa
set_option maxRecDepth 100000
open Go.RowKit
set_option linter.unusedVariables false
set_option linter.unusedSimpArgs false


/-- The number that bytes begin with, and what is left. -/
def scan : Nat → List Int → Option (Nat × List Int)
  | 0, _ => none
  | _ + 1, [] => none
  | f + 1, d :: ds => if 128 ≤ d then some ((d - 128).toNat, ds) else match scan f ds with
    | some (n, r) => if n = 0 then none else some (d.toNat + n * 128, r)
    | none => none
theorem scan_some : ∀ (f : Nat) (xs : List Int) (n : Nat) (r : List Int), Bytes8 xs → scan f xs = some (n, r) → xs = numB n ++ r ∧ n < 128 ^ f
  | 0, _, _, _, _, h => by simp [scan] at h
  | _ + 1, [], _, _, _, h => by simp [scan] at h
  | f + 1, d :: ds, n, r, hb, h => by
    have hd := hb d List.mem_cons_self
    unfold scan at h
    by_cases h1 : 128 ≤ d
    · rw [if_pos h1] at h
      injection h with h
      injection h with h2 h3
      subst h2 h3
      refine ⟨?_, ?_⟩
      · rw [numB_small (by omega)]
        simp only [List.cons_append, List.nil_append, List.cons.injEq, and_true]
        omega
      · have : 128 ^ 1 ≤ 128 ^ (f + 1) := Nat.pow_le_pow_right (by omega) (by omega)
        omega
    · rw [if_neg h1] at h
      cases hs : scan f ds with
      | none => rw [hs] at h; cases h
      | some p =>
        obtain ⟨m, q⟩ := p
        rw [hs] at h
        simp only at h
        by_cases h0 : m = 0
        · rw [if_pos h0] at h; cases h
        · rw [if_neg h0] at h
          injection h with h
          injection h with h2 h3
          subst h2 h3
          obtain ⟨e1, e2⟩ := scan_some f ds m q (fun x hx => hb x (List.mem_cons_of_mem _ hx)) hs
          refine ⟨?_, ?_⟩
          · rw [numB_big (by omega), e1]
            have q1 : (d.toNat + m * 128) % 128 = d.toNat := by omega
            have q2 : (d.toNat + m * 128) / 128 = m := by omega
            rw [q1, q2]
            simp only [List.cons_append, List.cons.injEq, and_true]
            omega
          · rw [Nat.pow_succ]; omega
theorem scan_num : ∀ (f n : Nat) (r : List Int), (numB n).length ≤ f → scan f (numB n ++ r) = some (n, r)
  | 0, n, r, h => by have := numB_pos n; omega
  | f + 1, n, r, h => by
    by_cases h1 : n < 128
    · rw [numB_small h1]
      simp only [List.cons_append, List.nil_append, scan]
      rw [if_pos (by omega)]
      congr 2
      omega
    · rw [numB_big h1] at h ⊢
      have ih := scan_num f (n / 128) r (by simpa using h)
      simp only [List.cons_append, scan]
      rw [if_neg (by omega), ih]
      simp only
      rw [if_neg (by omega)]
      congr 2
      omega
theorem scan_no {xs : List Int} (h : scan 9 xs = none) : NoNum xs := fun n rest hn he => by
  have := scan_num 9 n rest (numB_small9 n hn)
  rw [← he, h] at this
  cases this
def pNum (most : Int) (xs : List Int) : Option (Nat × List Int) := match scan 9 xs with
  | some (n, r) => if (n : Int) ≤ most then some (n, r) else none
  | none => none
theorem pNum_some {most : Int} {xs : List Int} {n : Nat} {r : List Int} (hb : Bytes8 xs) (h : pNum most xs = some (n, r)) : xs = numB n ++ r ∧ (n : Int) ≤ most ∧ n < 9223372036854775808 := by
  unfold pNum at h
  cases hs : scan 9 xs with
  | none => rw [hs] at h; cases h
  | some p =>
    obtain ⟨m, q⟩ := p
    rw [hs] at h
    simp only at h
    by_cases hm : (m : Int) ≤ most
    · rw [if_pos hm] at h
      injection h with h
      injection h with h2 h3
      subst h2 h3
      obtain ⟨e1, e2⟩ := scan_some 9 xs m q hb hs
      exact ⟨e1, hm, by have : 128 ^ 9 = 9223372036854775808 := by decide
                        omega⟩
    · rw [if_neg hm] at h; cases h
theorem pNum_ok {most : Int} {n : Nat} (r : List Int) (hn : n < 9223372036854775808) (hm : (n : Int) ≤ most) : pNum most (numB n ++ r) = some (n, r) := by
  unfold pNum
  rw [scan_num 9 n r (numB_small9 n hn)]
  simp only
  rw [if_pos hm]
/-- A number, a text, taken from what is left (none: there was a fault). -/
def stNum (most : Int) : Option (List Int) → Int × Option (List Int)
  | none => (0, none)
  | some xs => match pNum most xs with
    | some (n, r) => ((n : Int), some r)
    | none => (0, none)
def stText (most : Int) : Option (List Int) → ByteArray × Option (List Int)
  | none => (e0, none)
  | some xs => match pNum most xs with
    | some (n, r) => if n = 0 then (e0, some r) else if n ≤ r.length then (strOfNums (r.take n), some (r.drop n)) else (e0, none)
    | none => (e0, none)
theorem bytes8_app {a b : List Int} (h : Bytes8 (a ++ b)) : Bytes8 b := fun x hx => h x (List.mem_append_right _ hx)
/-- An eye: what is left, or a fault. -/
def EyeSt (w : World) (X G : Nat) : Option (List Int) → Prop
  | none => ∃ f : Int, f ≠ 0 ∧ EyeIs w X (.slice none 0 0) f
  | some xs => ∃ v, EyeIs w X v 0 ∧ Reads w v xs ∧ Bytes8 xs ∧ xs.length ≤ 70000000000000 ∧ (0 < xs.length → ∀ k, v.ownBlock = some k → k = G)
theorem EyeSt.turn {w w' : World} {X G : Nat} {o : Option (List Int)} {S : Nat → Prop} (h : EyeSt w X G o) (t : Turn S w w') (hX : ¬ S X) (hG : ¬ S G) : EyeSt w' X G o := by
  cases o with
  | none => obtain ⟨f, h1, h2⟩ := h; exact ⟨f, h1, h2.turn t hX⟩
  | some xs =>
    obtain ⟨v, h1, h2, h3, h4, h5⟩ := h
    refine ⟨v, h1.turn t hX, ?_, h3, h4, h5⟩
    rcases h2 with h2 | ⟨g, o, c, rfl, hc, hcell⟩
    · exact .inl h2
    · exact .inr ⟨g, o, c, rfl, hc, fun i hi => (by
        have hg := h5 (by omega) g rfl
        subst hg
        exact (t.cell (p := ⟨g, o + i, none⟩) (World.block_lt_of_cell? w _ (hcell i hi)) hG).trans (hcell i hi))⟩
theorem EyeSt.lt {w : World} {X G : Nat} {o : Option (List Int)} (h : EyeSt w X G o) : X < w.heap.size := by
  cases o with
  | none => obtain ⟨f, _, h2⟩ := h; exact h2.lt
  | some xs => obtain ⟨v, h1, _⟩ := h; exact h1.lt
def NumSt (w : World) (X G : Nat) (p : Int × Option (List Int)) (e : Ending) (w' : World) : Prop := e = .returned (.int .i64 p.1) ∧ EyeSt w' X G p.2 ∧ Turn (fun k => k = X) w w'
theorem num_st (X G : Nat) (most : Int) (hm : 0 ≤ most) (w : World) (o : Option (List Int)) (h : EyeSt w X G o) : Calls Try.prog 50 #[.pointer (some ⟨X, 0, none⟩), .int .i64 most] w (NumSt w X G (stNum most o)) := by
  cases o with
  | none =>
    obtain ⟨f, h1, h2⟩ := h
    refine (eye_fault X _ f most w h2 h1).mono ?_
    rintro e w' ⟨rfl, rfl⟩
    exact ⟨rfl, ⟨f, h1, h2⟩, Turn.refl _ _⟩
  | some xs =>
    obtain ⟨v, h1, h2, h3, h4, h5⟩ := h
    cases hs : scan 9 xs with
    | none =>
      have e1 : stNum most (some xs) = (0, none) := by simp [stNum, pNum, hs]
      rw [e1]
      refine (eye_not X v xs most w h1 h2 h4 h3 (scan_no hs)).mono ?_
      rintro e w' ⟨⟨f, hf, he⟩, rfl, t⟩
      exact ⟨rfl, ⟨f, hf, he⟩, t⟩
    | some p =>
      obtain ⟨n, r⟩ := p
      obtain ⟨e1, e2⟩ := scan_some 9 xs n r h3 hs
      have e3 : n < 9223372036854775808 := by have : 128 ^ 9 = 9223372036854775808 := by decide
                                              omega
      by_cases hn : (n : Int) ≤ most
      · have e4 : stNum most (some xs) = ((n : Int), some r) := by simp [stNum, pNum, hs, hn]
        rw [e4]
        subst e1
        refine (eye_ok X v n r most w h1 h2 e3 h4 (.inl hn)).mono ?_
        rintro e w' ⟨v', rfl, q1, q2, q3, q4⟩
        exact ⟨rfl, ⟨v', q1, q2, bytes8_app h3, by simp only [List.length_append] at h4; omega, fun h => by rw [q4]; exact h5 (by rw [List.length_append]; omega)⟩, q3⟩
      · have e4 : stNum most (some xs) = (0, none) := by simp [stNum, pNum, hs, hn]
        rw [e4]
        subst e1
        refine (eye_long X v n r most w h1 h2 e3 h4 (by omega) (by omega)).mono ?_
        rintro e w' ⟨rfl, q1, q2⟩
        exact ⟨rfl, ⟨5, by decide, q1⟩, q2⟩
def TextSt (w : World) (X G : Nat) (p : ByteArray × Option (List Int)) (e : Ending) (w' : World) : Prop := e = .returned (.string p.1) ∧ EyeSt w' X G p.2 ∧ Turn (fun k => k = X) w w'
theorem str_none : strOfNums [] = e0 := rfl
set_option maxHeartbeats 1600000 in
theorem text_st (X G : Nat) (most : Int) (hm : 0 ≤ most) (w : World) (o : Option (List Int)) (h : EyeSt w X G o) : Calls Try.prog 64 #[.pointer (some ⟨X, 0, none⟩), .int .i64 most] w (TextSt w X G (stText most o)) := by
  have hcv : ∀ w, (convert 49 9 (.slice none 0 0)).run Try.prog w = .ok (.string e0) w := fun w => by rw [← str_none]; exact Reads.conv (.inl ⟨rfl, rfl⟩)
  have hzero : ∀ (p : Option (List Int)), stNum most o = (0, p) → stText most o = (e0, p) → Calls Try.prog 64 #[.pointer (some ⟨X, 0, none⟩), .int .i64 most] w (TextSt w X G (stText most o)) := fun p hp ht => by
    rw [ht]
    have hn := num_st X G most hm w o h
    rw [hp] at hn
    have HN := Lib.hid hn
    clear hn hp ht
    go_enter Try.func64, Try.ntmps64
    go_wp2_with fail
    refine (HN.out).mono ?_
    rintro e w2 ⟨rfl, h2, t2⟩
    have H2 := Lib.hid h2
    have T2 := Lib.hid t2
    clear h2 t2
    go_wp2_with fail
    refine (take_none X 0 w2 (by omega)).mono ?_
    rintro e w3 ⟨rfl, rfl⟩
    go_wp2_with fail
    go_ret
    exact ⟨rfl, H2.out, T2.out⟩
  cases o with
  | none => exact hzero none rfl rfl
  | some xs =>
    cases hp : pNum most xs with
    | none => exact hzero none (by simp [stNum, hp]) (by simp [stText, hp])
    | some p =>
      obtain ⟨n, r⟩ := p
      by_cases h0 : n = 0
      · subst h0
        exact hzero (some r) (by simp [stNum, hp]) (by simp [stText, hp])
      · have hn := num_st X G most hm w (some xs) h
        have e1 : stNum most (some xs) = ((n : Int), some r) := by simp [stNum, hp]
        rw [e1] at hn
        have HN := Lib.hid hn
        clear hn e1 hzero
        by_cases hl : n ≤ r.length
        · have e2 : stText most (some xs) = (strOfNums (r.take n), some (r.drop n)) := by simp [stText, hp, h0, hl]
          rw [e2]
          clear e2 hp
          go_enter Try.func64, Try.ntmps64
          go_wp2_with fail
          refine (HN.out).mono ?_
          rintro e w2 ⟨rfl, ⟨v, q1, q2, q3, q4, q5⟩, t2⟩
          have Q5 := Lib.hid q5
          clear q5
          have T2 := Lib.hid t2
          have Q3 := Lib.hid q3
          clear t2 q3
          go_wp2_with fail
          refine (take_reads X v r n w2 q1 q2 (by omega) hl q4).mono ?_
          rintro e w3 ⟨q, v', rfl, k1, k2, k3, k4, k5, k6⟩
          have K5 := Lib.hid k5
          have hc3 := k1.conv
          have K2 := Lib.hid k2
          have K3 := Lib.hid k3
          have K4 := Lib.hid k4
          clear k1 k2 k3 k4 k5 k6
          go_wp2_with fail
          go_ret
          exact ⟨rfl, ⟨v', K2.out, K3.out, fun x hx => Q3.out x (List.mem_of_mem_drop hx), by rw [List.length_drop]; omega, fun h => by rw [K5.out]; exact Q5.out (by rw [List.length_drop] at h; omega)⟩, T2.out.trans K4.out (fun _ _ => id)⟩
        · have e2 : stText most (some xs) = (e0, none) := by simp [stText, hp, h0, hl]
          rw [e2]
          clear e2 hp
          go_enter Try.func64, Try.ntmps64
          go_wp2_with fail
          refine (HN.out).mono ?_
          rintro e w2 ⟨rfl, ⟨v, q1, q2, q3, q4, q5⟩, t2⟩
          have Q5 := Lib.hid q5
          clear q5
          have T2 := Lib.hid t2
          clear t2 q3
          have hsh : ∃ a c, v = .slice a r.length c := by
            rcases q2 with ⟨rfl, rfl⟩ | ⟨g, o, c, rfl, _⟩
            · exact ⟨_, _, rfl⟩
            · exact ⟨_, _, rfl⟩
          obtain ⟨a, c, rfl⟩ := hsh
          go_wp2_with fail
          refine (take_short X a r.length c (n : Int) w2 q1 (by omega)).mono ?_
          rintro e w3 ⟨rfl, k2, k4⟩
          have K2 := Lib.hid k2
          have K4 := Lib.hid k4
          clear k2 k4
          go_wp2_with fail
          go_ret
          exact ⟨rfl, ⟨6, by decide, K2.out⟩, T2.out.trans K4.out (fun _ _ => id)⟩
end Go.Proofs.Ytokjlhpkjebnkaa
