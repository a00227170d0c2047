/- Own texts, packed: Df2, Df3, Df4, Tk, Tn, Mk, Wh, Ei, Eg, Eh, Ek, Er. No statement is proved here. -/
import Derived.Test.YtkciaafkhpjnaaaQ09
import Derived.Test.YtkciaafkhpjnaaaQ04
import Derived.Test.YtkciaafkhpjnaaaQ06
import Derived.Test.YtkciaafkhpjnaaaQ07
import Derived.Deep.RegionHeld3
namespace Go.Proofs.Ytkciaafkhpjnaaa
set_option maxRecDepth 100000
open Go.RowKit
set_option linter.unusedVariables false
set_option linter.unusedSimpArgs false

def addD (e : El) : Ed := ⟨1, e, 0, 0, e0, 0, e0⟩
def dropD (e : El) : Ed := ⟨2, e, 0, 0, e0, 0, e0⟩
def setD (x y : El) (f : Int) : Ed := ⟨3, El.at x.id, f, getN x f, getS x f, getN y f, getS y f⟩
def partF (x y : El) (f : Nat) : Bool := !decide (getN x (f : Int) = getN y (f : Int) ∧ getS x (f : Int) = getS y (f : Int))
def setsUpto (x y : El) (n : Nat) : List Ed := ((List.range n).filter (partF x y)).map (fun f : Nat => setD x y (f : Int))
def setsOf (x y : El) : List Ed := setsUpto x y 9
def setsAt (b : List El) (x : El) : List Ed := match getE b x.id with
  | some y => setsOf x y
  | none => []
def setsE (a b : List El) : List Ed := a.flatMap (setsAt b)
/-- The edits from a chart to another one. -/
def diffE (a b : List El) : List Ed × Int :=
  if (!risesB a || !risesB b) = true then ([], 7) else if (!(ordOk b a && ordOk a b)) = true then ([], 14) else ((ordE b a).map addD ++ (setsE a b ++ (ordE a b).reverse.map dropD), 0)

theorem setsUpto_succ (x y : El) (n : Nat) : setsUpto x y (n + 1) = if partF x y n = true then setsUpto x y n ++ [setD x y (n : Int)] else setsUpto x y n := by
  unfold setsUpto
  rw [List.range_succ, List.filter_append, List.map_append]
  by_cases h : partF x y n = true
  · rw [if_pos h]; simp [h]
  · rw [if_neg h]; simp [h]
/-- Halfway from an element to another one. -/
def mixE (x y : El) : Nat → El
  | 0 => x
  | n + 1 => setV (mixE x y n) (n : Int) (getN y (n : Int)) (getS y (n : Int))
theorem mix_id (x y : El) : ∀ n, (mixE x y n).id = x.id
  | 0 => rfl
  | n + 1 => (set_id _ _ _ _).trans (mix_id x y n)
theorem mix_kind {x y : El} (hx : 0 ≤ x.kind ∧ x.kind ≤ 255) (n : Nat) : 0 ≤ (mixE x y n).kind ∧ (mixE x y n).kind ≤ 255 := by
  induction n with
  | zero => exact hx
  | succ n ih => exact setV_kind _ ih _ _ _
theorem get_other (o : El) (f g n : Int) (s : ByteArray) (hf : 0 ≤ f) (hg : 0 ≤ g) (h : f ≠ g) : getN (setV o f n s) g = getN o g ∧ getS (setV o f n s) g = getS o g := by
  unfold setV
  by_cases h0 : f = 0
  · subst h0; rw [if_pos rfl]; unfold getN getS; simp [show ¬ g = 0 by omega]
  rw [if_neg h0]
  by_cases h1 : f = 1
  · subst h1; rw [if_pos rfl]; unfold getN getS; simp [show ¬ g = 1 by omega]
  rw [if_neg h1]
  by_cases h2 : f = 2
  · subst h2; rw [if_pos rfl]; unfold getN getS; simp [show ¬ g = 2 by omega]
  rw [if_neg h2]
  by_cases h3 : f = 3
  · subst h3; rw [if_pos rfl]; unfold getN getS; simp [show ¬ g = 3 by omega]
  rw [if_neg h3]
  by_cases h4 : f = 4
  · subst h4; rw [if_pos rfl]; unfold getN getS; simp [show ¬ g = 4 by omega]
  rw [if_neg h4]
  by_cases h5 : f = 5
  · subst h5; rw [if_pos rfl]; unfold getN getS; simp [show ¬ g = 5 by omega]
  rw [if_neg h5]
  by_cases h6 : f = 6
  · subst h6; rw [if_pos rfl]; unfold getN getS; simp [show ¬ g = 6 by omega]
  rw [if_neg h6]
  by_cases h7 : f = 7
  · subst h7; rw [if_pos rfl]; unfold getN getS; simp [show ¬ g = 7 by omega]
  rw [if_neg h7]
  by_cases h8 : f = 8
  · subst h8; rw [if_pos rfl]; unfold getN getS; simp [show ¬ g = 8 by omega]
  rw [if_neg h8]
  exact ⟨rfl, rfl⟩
theorem mix_get (x y : El) (g : Nat) : ∀ n, n ≤ g → getN (mixE x y n) (g : Int) = getN x (g : Int) ∧ getS (mixE x y n) (g : Int) = getS x (g : Int)
  | 0, _ => ⟨rfl, rfl⟩
  | n + 1, h => by
    obtain ⟨h1, h2⟩ := get_other (mixE x y n) (n : Int) (g : Int) (getN y n) (getS y n) (by omega) (by omega) (by omega)
    obtain ⟨h3, h4⟩ := mix_get x y g n (by omega)
    exact ⟨h1.trans h3, h2.trans h4⟩
theorem mix_all {x y : El} (hi : x.id = y.id) (hy : 0 ≤ y.kind ∧ y.kind ≤ 255) : mixE x y 9 = y := by
  obtain ⟨a0, a1, a2, a3, a4, a5, a6, a7, a8, a9⟩ := x
  obtain ⟨b0, b1, b2, b3, b4, b5, b6, b7, b8, b9⟩ := y
  simp only at hi hy
  subst hi
  have : b1 % 256 = b1 := by omega
  simp [mixE, setV, getN, getS, this]
theorem mix_same {x y : El} (hx : 0 ≤ x.kind ∧ x.kind ≤ 255) {n : Nat} (h : partF x y n = false) : mixE x y (n + 1) = mixE x y n := by
  unfold partF at h
  simp only [Bool.not_eq_false', decide_eq_true_eq] at h
  obtain ⟨h1, h2⟩ := mix_get x y n n (Nat.le_refl _)
  show setV (mixE x y n) (n : Int) (getN y n) (getS y n) = mixE x y n
  rw [← h.1, ← h.2, ← h1, ← h2]
  have := set_back (mix_kind (y := y) hx n) (n : Int) (getN (mixE x y n) n) (getS (mixE x y n) n)
  have e : ∀ (o : El) (f : Int), (0 ≤ o.kind ∧ o.kind ≤ 255) → setV o f (getN o f) (getS o f) = o := by
    intro o f hk
    obtain ⟨a0, a1, a2, a3, a4, a5, a6, a7, a8, a9⟩ := o
    have : a1 % 256 = a1 := by have h1 := hk.1; have h2 := hk.2; simp only at h1 h2; omega
    unfold setV
    split
    · rename_i h; subst h; simp [getN, this]
    repeat' split
    all_goals first
      | rfl
      | (rename_i h; subst h; simp [getN, getS])
  exact e _ _ (mix_kind hx n)
theorem fits_of (y : El) (hy : 0 ≤ y.kind ∧ y.kind ≤ 255) (f : Int) (hf : 0 ≤ f ∧ f < 9) : fitsB f (getN y f) (getS y f) = true := by
  unfold fitsB
  obtain ⟨b0, b1, b2, b3, b4, b5, b6, b7, b8, b9⟩ := y
  have : b1 % 256 = b1 := by have h1 := hy.1; have h2 := hy.2; simp only at h1 h2; omega
  rw [decide_eq_true hf, Bool.true_and]
  rcases (by omega : f = 0 ∨ f = 1 ∨ f = 2 ∨ f = 3 ∨ f = 4 ∨ f = 5 ∨ f = 6 ∨ f = 7 ∨ f = 8) with rfl | rfl | rfl | rfl | rfl | rfl | rfl | rfl | rfl
  all_goals simp [setV, getN, getS, this]
/-- One step that goes well. -/
theorem apply_one {l d : List El} {x : Ed} {xs : List Ed} {k : Nat} (h : oneE l x = (d, 0)) : applyFrom l (x :: xs) k = applyFrom d xs (k + 1) := by
  simp only [applyFrom, h]; simp
theorem has_put {l : List El} {e : El} {nr : Int} : hasB (putE l e) nr = true ↔ nr = e.id ∨ hasB l nr = true := by
  rw [hasB_iff, hasB_iff]
  constructor
  · rintro ⟨x, hx, rfl⟩
    rcases mem_put.1 hx with rfl | ⟨h1, _⟩
    · exact .inl rfl
    · exact .inr ⟨x, h1, rfl⟩
  · rintro (rfl | ⟨x, hx, rfl⟩)
    · exact ⟨e, mem_put.2 (.inl rfl), rfl⟩
    · by_cases h : x.id = e.id
      · exact ⟨e, mem_put.2 (.inl rfl), h.symm⟩
      · exact ⟨x, mem_put.2 (.inr ⟨hx, h⟩), rfl⟩
theorem lacks_of {l : List El} {nr : Int} (h : nr = 0 ∨ hasB l nr = true) : lacksB l nr = false := by
  rw [lacksB_no]
  exact h.imp id (fun h => hasB_iff.1 h)
theorem put_put {l : List El} (hr : Rises l) {m1 m2 : El} (h : m1.id = m2.id) : putE (putE l m1) m2 = putE l m2 := by
  refine rises_ext (rises_putE (rises_putE hr _) _) (rises_putE hr _) fun x => ?_
  rw [mem_put, mem_put, mem_put]
  constructor
  · rintro (h1 | ⟨h1 | h1, h2⟩)
    · exact .inl h1
    · subst h1; exact absurd h h2
    · exact .inr ⟨h1.1, h2⟩
  · rintro (h1 | ⟨h1, h2⟩)
    · exact .inl h1
    · exact .inr ⟨.inr ⟨h1, by omega⟩, h2⟩
theorem put_self {l : List El} (hr : Rises l) {x : El} (h : x ∈ l) : putE l x = l := by
  refine rises_ext (rises_putE hr _) hr fun y => ?_
  rw [mem_put]
  constructor
  · rintro (rfl | h1)
    · exact h
    · exact h1.1
  · intro hy
    by_cases e : y.id = x.id
    · have h1 := getE_mem hr hy
      have h2 := getE_mem hr h
      rw [e, h2] at h1
      exact .inl (Option.some.inj h1).symm
    · exact .inr ⟨hy, e⟩
/-- An element is set, field by field. -/
theorem sets_one {l : List El} (hr : Rises l) {x y : El} (hx : getE l x.id = some x) (hi : x.id = y.id) (h0 : x.id ≠ 0) (hkx : 0 ≤ x.kind ∧ x.kind ≤ 255) (hky : 0 ≤ y.kind ∧ y.kind ≤ 255) (hpx : x.par = 0 ∨ hasB l x.par = true) (hpy : y.par = 0 ∨ hasB l y.par = true) (rest : List Ed) :
    ∀ (n : Nat), n ≤ 9 → ∀ k, ∃ j, applyFrom l (setsUpto x y n ++ rest) k = applyFrom (putE l (mixE x y n)) rest j := by
  have hxm := (getE_some hx).1
  intro n
  induction n generalizing rest with
  | zero =>
    intro _ k
    refine ⟨k, ?_⟩
    show applyFrom l ([] ++ rest) k = applyFrom (putE l x) rest k
    rw [put_self hr hxm, List.nil_append]
  | succ n ih =>
    intro hn k
    rw [setsUpto_succ]
    by_cases hp : partF x y n = true
    · rw [if_pos hp, List.append_assoc]
      obtain ⟨j, hj⟩ := ih ([setD x y (n : Int)] ++ rest) (by omega) k
      refine ⟨j + 1, ?_⟩
      rw [hj]
      have hm := mix_id x y n
      have hrp := rises_putE hr (mixE x y n)
      have hg : getE (putE l (mixE x y n)) x.id = some (mixE x y n) := (getE_iff hrp).2 ⟨mem_put.2 (.inl rfl), hm⟩
      have hmay : mayB (setD x y (n : Int)) = true := by
        rw [may_3 (show (El.at x.id).id ≠ 0 from h0) rfl]
        simp only [setD]
        rw [fits_of x hkx _ (by omega), fits_of y hky _ (by omega)]
        simp [El.at]
      have hl : ∀ nr, (nr = 0 ∨ hasB l nr = true) → lacksB (putE l (mixE x y n)) nr = false := fun nr h => lacks_of (h.imp id (fun h => has_put.2 (.inr h)))
      have hone : oneE (putE l (mixE x y n)) (setD x y (n : Int)) = (putE l (mixE x y (n + 1)), 0) := by
        unfold oneE
        rw [if_neg (by simp [(risesB_iff _).2 hrp]), if_neg (by simp [hmay])]
        rw [show (setD x y (n : Int)).e.id = x.id from rfl, hg]
        show (if (3 : Int) = 1 then ([], 3) else if (3 : Int) = 2 then _ else if getN (mixE x y n) (n : Int) = getN x (n : Int) ∧ getS (mixE x y n) (n : Int) = getS x (n : Int) then (if (n : Int) = 1 ∧ (lacksB (putE l (mixE x y n)) (getN x (n : Int)) || lacksB (putE l (mixE x y n)) (getN y (n : Int))) = true then ([], 14) else (putE (putE l (mixE x y n)) (setV (mixE x y n) (n : Int) (getN y (n : Int)) (getS y (n : Int))), 0)) else ([], 11)) = (putE l (mixE x y (n + 1)), (0 : Int))
        rw [if_neg (by decide), if_neg (by decide), if_pos (mix_get x y n n (Nat.le_refl _))]
        have hc : ¬ ((n : Int) = 1 ∧ (lacksB (putE l (mixE x y n)) (getN x (n : Int)) || lacksB (putE l (mixE x y n)) (getN y (n : Int))) = true) := by
          rintro ⟨h1, h2⟩
          rw [h1, show getN x 1 = x.par from rfl, show getN y 1 = y.par from rfl, hl _ hpx, hl _ hpy] at h2
          cases h2
        rw [if_neg hc]
        refine Prod.ext ?_ rfl
        show putE (putE l (mixE x y n)) (mixE x y (n + 1)) = putE l (mixE x y (n + 1))
        exact put_put hr (by rw [mix_id, mix_id])
      rw [List.singleton_append, apply_one hone]
    · rw [if_neg hp]
      obtain ⟨j, hj⟩ := ih rest (by omega) k
      exact ⟨j, by rw [hj, mix_same hkx (by simpa using hp)]⟩
/-- What both have is set. -/
def updE (b : List El) (l : List El) (x : El) : List El := match getE b x.id with
  | some y => putE l y
  | none => l
theorem upd_has {b l : List El} {x : El} (hx : hasB l x.id = true) (nr : Int) : hasB (updE b l x) nr = hasB l nr := by
  unfold updE
  split
  · rename_i y hy
    have hyi := (getE_some hy).2
    rw [Bool.eq_iff_iff, has_put, hyi]
    constructor
    · rintro (rfl | h)
      · exact hx
      · exact h
    · exact .inr
  · rfl
theorem upd_rises {b l : List El} {x : El} (h : Rises l) : Rises (updE b l x) := by
  unfold updE; split
  · exact rises_putE h _
  · exact h
theorem upd_get {b l : List El} (h : Rises l) {x : El} {nr : Int} (hn : nr ≠ x.id) : getE (updE b l x) nr = getE l nr := by
  unfold updE
  split
  · rename_i y hy
    have hyi := (getE_some hy).2
    cases hg : getE l nr with
    | some z => exact (getE_iff (rises_putE h _)).2 ⟨mem_put.2 (.inr ⟨(getE_some hg).1, by rw [(getE_some hg).2]; omega⟩), (getE_some hg).2⟩
    | none =>
      refine getE_none.2 fun z hz e => ?_
      rcases mem_put.1 hz with rfl | ⟨hz, _⟩
      · omega
      · exact getE_none.1 hg z hz e
  · rfl
theorem sets_all {b : List El} (hpb : ∀ y ∈ b, y.par = 0 ∨ hasB b y.par = true) (hkb : KOk b) (rest : List Ed) : ∀ (a l : List El) (k : Nat), Rises l → a.Pairwise (fun p q => p.id < q.id) → (∀ x ∈ a, getE l x.id = some x ∧ x.id ≠ 0 ∧ (0 ≤ x.kind ∧ x.kind ≤ 255) ∧ (x.par = 0 ∨ hasB l x.par = true)) → (∀ nr, hasB b nr = true → hasB l nr = true) →
    ∃ j, applyFrom l (setsE a b ++ rest) k = applyFrom (a.foldl (updE b) l) rest j := by
  intro a
  induction a with
  | nil => intro l k _ _ _ _; exact ⟨k, rfl⟩
  | cons x a ih =>
    intro l k hr hp hx hb
    obtain ⟨hg, hi0, hk, hpar⟩ := hx x (by simp)
    have hpc := List.pairwise_cons.1 hp
    have hxl : hasB l x.id = true := hasB_iff.2 ⟨x, (getE_some hg).1, rfl⟩
    have main : ∃ j, applyFrom l (setsAt b x ++ (setsE a b ++ rest)) k = applyFrom (updE b l x) (setsE a b ++ rest) j := by
      unfold setsAt updE
      cases hy : getE b x.id with
      | none => exact ⟨k, rfl⟩
      | some y =>
        obtain ⟨hyb, hyi⟩ := getE_some hy
        obtain ⟨j, hj⟩ := sets_one hr hg hyi.symm hi0 hk (hkb y hyb) hpar ((hpb y hyb).imp id (hb _)) (setsE a b ++ rest) 9 (Nat.le_refl _) k
        refine ⟨j, ?_⟩
        show applyFrom l (setsUpto x y 9 ++ (setsE a b ++ rest)) k = applyFrom (putE l y) (setsE a b ++ rest) j
        rw [hj, mix_all hyi.symm (hkb y hyb)]
    obtain ⟨j, hj⟩ := main
    obtain ⟨j2, hj2⟩ := ih (updE b l x) j (upd_rises hr) hpc.2 (fun z hz => by
      obtain ⟨h1, h2, h3, h4⟩ := hx z (by simp [hz])
      have := hpc.1 z hz
      exact ⟨(upd_get hr (by omega)).trans h1, h2, h3, h4.imp id (fun h => (upd_has hxl _).trans h)⟩) (fun nr h => (upd_has hxl nr).trans (hb nr h))
    refine ⟨j2, ?_⟩
    have e : setsE (x :: a) b ++ rest = setsAt b x ++ (setsE a b ++ rest) := by unfold setsE; rw [List.flatMap_cons, List.append_assoc]
    rw [e, hj, hj2]
    rfl
theorem fold_upd_rises {b : List El} : ∀ {a l : List El}, Rises l → Rises (a.foldl (updE b) l) := by
  intro a
  induction a with
  | nil => intro l h; exact h
  | cons x a ih => intro l h; exact ih (upd_rises h)
theorem fold_upd_get {b : List El} (hrb : Rises b) : ∀ (a l : List El), Rises l → a.Pairwise (fun p q => p.id < q.id) → ∀ nr, getE (a.foldl (updE b) l) nr = if hasB a nr = true ∧ hasB b nr = true then getE b nr else getE l nr := by
  intro a
  induction a with
  | nil => intro l _ _ nr; rw [if_neg (fun h => by cases h.1)]; rfl
  | cons x a ih =>
    intro l hr hp nr
    have hpc := List.pairwise_cons.1 hp
    show getE (a.foldl (updE b) (updE b l x)) nr = _
    rw [ih _ (upd_rises hr) hpc.2 nr]
    have hc : hasB (x :: a) nr = (decide (x.id = nr) || hasB a nr) := by
      rw [show x :: a = [x] ++ a from rfl, hasB_app, hasB_one]
    by_cases hb : hasB b nr = true
    · by_cases ha : hasB a nr = true
      · rw [if_pos ⟨ha, hb⟩, if_pos ⟨by rw [hc, ha, Bool.or_true], hb⟩]
      · rw [if_neg (fun h => ha h.1)]
        by_cases hx : x.id = nr
        · rw [if_pos ⟨by rw [hc, decide_eq_true hx, Bool.true_or], hb⟩]
          unfold updE
          rw [hx]
          obtain ⟨y, hy, hyi⟩ := hasB_iff.1 hb
          have hg : getE b nr = some y := (getE_iff hrb).2 ⟨hy, hyi⟩
          rw [hg]
          exact (getE_iff (rises_putE hr _)).2 ⟨mem_put.2 (.inl rfl), hyi⟩
        · rw [if_neg (fun h => by have := h.1; rw [hc, decide_eq_false hx, Bool.false_or] at this; exact ha this)]
          exact upd_get hr (fun e => hx e.symm)
    · rw [if_neg (fun h => hb h.2), if_neg (fun h => hb h.2)]
      by_cases hx : nr = x.id
      · subst hx
        unfold updE
        have hn : getE b x.id = none := getE_none.2 (hasB_no.1 (by simpa using hb))
        rw [hn]
      · exact upd_get hr hx
/-- What is added. -/
theorem adds_all {a b : List El} (hpa : ∀ x ∈ a, x.par = 0 ∨ hasB a x.par = true) (hib : ∀ e ∈ b, e.id ≠ 0) (rest : List Ed) : ∀ (q p l : List El) (k : Nat), Rises l → (∀ x, x ∈ l ↔ x ∈ a ∨ x ∈ p) → (∀ x ∈ p, x.par = 0 ∨ hasB a x.par = true ∨ hasB p x.par = true) → OrdF b a p q →
    ∃ j l', applyFrom l (q.map addD ++ rest) k = applyFrom l' rest j ∧ Rises l' ∧ ∀ x, x ∈ l' ↔ x ∈ a ∨ x ∈ p ++ q := by
  intro q
  induction q with
  | nil => intro p l k hr hm _ _; exact ⟨k, l, rfl, hr, fun x => by rw [List.append_nil]; exact hm x⟩
  | cons e q ih =>
    intro p l k hr hm hp ho
    obtain ⟨⟨heb, hea, hep, hpar⟩, ho2⟩ := ho
    have hne : ∀ x ∈ l, x.id ≠ e.id := fun x hx => by
      rcases (hm x).1 hx with h | h
      · exact hasB_no.1 hea x h
      · exact hasB_no.1 hep x h
    have h0 := hib e heb
    have hhl : ∀ nr, hasB l nr = true ↔ hasB a nr = true ∨ hasB p nr = true := fun nr => by
      rw [hasB_iff, hasB_iff, hasB_iff]
      constructor
      · rintro ⟨x, hx, e⟩
        rcases (hm x).1 hx with h | h
        · exact .inl ⟨x, h, e⟩
        · exact .inr ⟨x, h, e⟩
      · rintro (⟨x, hx, e⟩ | ⟨x, hx, e⟩)
        · exact ⟨x, (hm x).2 (.inl hx), e⟩
        · exact ⟨x, (hm x).2 (.inr hx), e⟩
    have hone : oneE l (addD e) = (putE l e, 0) := by
      have hmay : mayB (addD e) = true := by
        rw [may_12 (show (addD e).e.id ≠ 0 from h0) (.inl rfl)]; simp [addD]
      have hg : getE l e.id = none := getE_none.2 hne
      have hcut : cutB l (addD e) = false := by
        unfold cutB
        rw [Bool.or_eq_false_iff]
        refine ⟨lacks_of (hpar.imp id (fun h => (hhl _).2 h)), parB_no.2 fun x hx e2 => ?_⟩
        have e2 : x.par = e.id := e2
        rcases (hm x).1 hx with h | h
        · rcases hpa x h with h3 | h3
          · omega
          · rw [e2, hea] at h3; cases h3
        · rcases hp x h with h3 | h3 | h3
          · omega
          · rw [e2, hea] at h3; cases h3
          · rw [e2, hep] at h3; cases h3
      unfold oneE
      rw [if_neg (by simp [(risesB_iff _).2 hr]), if_neg (by simp [hmay])]
      rw [show (addD e).e.id = e.id from rfl, hg]
      show (if (1 : Int) = 1 then (if cutB l (addD e) = true then ([], 14) else (putE l e, 0)) else ([], 2)) = (putE l e, (0 : Int))
      rw [if_pos rfl, if_neg (by simp [hcut])]
    obtain ⟨j, l', h1, h2, h3⟩ := ih (p ++ [e]) (putE l e) (k + 1) (rises_putE hr e) (fun x => by
      rw [mem_put, hm x, List.mem_append, List.mem_singleton]
      constructor
      · rintro (rfl | ⟨h | h, _⟩)
        · exact .inr (.inr rfl)
        · exact .inl h
        · exact .inr (.inl h)
      · rintro (h | h | rfl)
        · exact .inr ⟨.inl h, hne x ((hm x).2 (.inl h))⟩
        · exact .inr ⟨.inr h, hne x ((hm x).2 (.inr h))⟩
        · exact .inl rfl) (fun x hx => by
      rcases List.mem_append.1 hx with h | h
      · exact (hp x h).imp id (fun h => h.imp id (fun h => by rw [hasB_app, h, Bool.true_or]))
      · rw [List.mem_singleton.1 h]
        exact hpar.imp id (fun h => h.imp id (fun h => by rw [hasB_app, h, Bool.true_or]))) ho2
    refine ⟨j, l', ?_, h2, fun x => by rw [h3 x, List.append_assoc]; rfl⟩
    rw [List.map_cons, List.cons_append, apply_one hone, h1]
/-- What is dropped: the last one first. -/
theorem drops_all {a b : List El} (hpb : ∀ x ∈ b, x.par = 0 ∨ hasB b x.par = true) (hia : ∀ e ∈ a, e.id ≠ 0) (hrb : Rises b) : ∀ (n : Nat) (q l : List El) (k : Nat), q.length = n → Rises l → (∀ x, x ∈ l ↔ x ∈ b ∨ x ∈ q) → OrdF a b [] q →
    ∃ j, applyFrom l (q.reverse.map dropD) k = (b, j, 0) ∧ j = 0 := by
  intro n
  induction n with
  | zero =>
    intro q l k hq hr hm _
    have hq := List.eq_nil_of_length_eq_zero hq
    subst hq
    have : l = b := rises_ext hr hrb (fun x => by rw [hm x]; simp)
    exact ⟨0, by rw [this]; rfl, rfl⟩
  | succ n ih =>
    intro q l k hq hr hm ho
    obtain ⟨p, e, rfl⟩ : ∃ p e, q = p ++ [e] := by
      refine ⟨q.dropLast, q.getLast (fun h => by rw [h] at hq; cases hq), (List.dropLast_concat_getLast _).symm⟩
    obtain ⟨ho2, hea, heb, hep, hpar⟩ := OrdF.snoc.1 ho
    rw [List.nil_append] at hep hpar
    have h0 := hia e hea
    have hel : e ∈ l := (hm e).2 (.inr (by simp))
    have hmp : ∀ x ∈ p, x.par = 0 ∨ hasB b x.par = true ∨ hasB p x.par = true := by
      have : ∀ (q p : List El), OrdF a b p q → (∀ x ∈ p, x.par = 0 ∨ hasB b x.par = true ∨ hasB p x.par = true) → ∀ x ∈ p ++ q, x.par = 0 ∨ hasB b x.par = true ∨ hasB (p ++ q) x.par = true := by
        intro q
        induction q with
        | nil => intro p _ h; simpa using h
        | cons y q ih2 =>
          intro p ho hp
          have := ih2 (p ++ [y]) ho.2 (fun x hx => by
            rcases List.mem_append.1 hx with h | h
            · exact (hp x h).imp id (fun h => h.imp id (fun h => by rw [hasB_app, h, Bool.true_or]))
            · rw [List.mem_singleton.1 h]
              exact ho.1.2.2.2.imp id (fun h => h.imp id (fun h => by rw [hasB_app, h, Bool.true_or])))
          simpa [List.append_assoc] using this
      simpa using this p [] ho2 (fun x hx => by cases hx)
    have hone : oneE l (dropD e) = (dropE l e.id, 0) := by
      have hmay : mayB (dropD e) = true := by
        rw [may_12 (show (dropD e).e.id ≠ 0 from h0) (.inr rfl)]; simp [dropD]
      have hg : getE l e.id = some e := getE_mem hr hel
      have hcut : cutB l (dropD e) = false := by
        unfold cutB
        rw [Bool.or_eq_false_iff]
        refine ⟨lacks_of (hpar.imp id (fun h => ?_)), parB_no.2 fun x hx e2 => ?_⟩
        · rw [hasB_iff]
          rcases h with h | h
          · obtain ⟨z, hz, hi⟩ := hasB_iff.1 h
            exact ⟨z, (hm z).2 (.inl hz), hi⟩
          · obtain ⟨z, hz, hi⟩ := hasB_iff.1 h
            exact ⟨z, (hm z).2 (.inr (by simp [hz])), hi⟩
        · have e2 : x.par = e.id := e2
          rcases (hm x).1 hx with h | h
          · rcases hpb x h with h3 | h3
            · omega
            · rw [e2, heb] at h3; cases h3
          · rcases List.mem_append.1 h with h | h
            · rcases hmp x h with h3 | h3 | h3
              · omega
              · rw [e2, heb] at h3; cases h3
              · rw [e2, hep] at h3; cases h3
            · have hxe : x = e := List.mem_singleton.1 h
              subst hxe
              rw [e2] at hpar
              rcases hpar with h3 | h3 | h3
              · omega
              · rw [heb] at h3; cases h3
              · rw [hep] at h3; cases h3
      unfold oneE
      rw [if_neg (by simp [(risesB_iff _).2 hr]), if_neg (by simp [hmay])]
      rw [show (dropD e).e.id = e.id from rfl, hg]
      show (if (2 : Int) = 1 then ([], 3) else if (2 : Int) = 2 then (if e = e then (if cutB l (dropD e) = true then ([], 14) else (dropE l e.id, 0)) else ([], 11)) else _) = (dropE l e.id, (0 : Int))
      rw [if_neg (by decide), if_pos rfl, if_pos rfl, if_neg (by simp [hcut])]
    have hm2 : ∀ x, x ∈ dropE l e.id ↔ x ∈ b ∨ x ∈ p := fun x => by
      rw [mem_drop, hm x, List.mem_append, List.mem_singleton]
      constructor
      · rintro ⟨h | h | rfl, h2⟩
        · exact .inl h
        · exact .inr h
        · exact absurd rfl h2
      · rintro (h | h)
        · exact ⟨.inl h, hasB_no.1 heb x h⟩
        · exact ⟨.inr (.inl h), hasB_no.1 hep x h⟩
    obtain ⟨j, h1, h2⟩ := ih p (dropE l e.id) (k + 1) (by simp at hq; omega) (rises_dropE hr _) hm2 ho2
    refine ⟨j, ?_, h2⟩
    rw [List.reverse_append, List.reverse_singleton, List.singleton_append, List.map_cons, apply_one hone, h1]
theorem okB {c w : List El} (h : ordOk c w = true) {e : El} (he : e ∈ c) (hw : hasB w e.id = false) : hasB (ordE c w) e.id = true := by
  unfold ordOk at h
  have := List.all_eq_true.1 h e he
  rw [hw, Bool.false_or] at this
  exact this
theorem ord_mem {c w : List El} (hr : Rises c) (h : ordOk c w = true) (x : El) : x ∈ ordE c w ↔ x ∈ c ∧ hasB w x.id = false := by
  constructor
  · intro hx
    obtain ⟨h1, h2, _⟩ := (ord_ord c w).mem x hx
    exact ⟨h1, h2⟩
  · rintro ⟨h1, h2⟩
    obtain ⟨y, hy, hyi⟩ := hasB_iff.1 (okB h h1 h2)
    have hyc := ((ord_ord c w).mem y hy).1
    have e1 := getE_mem hr hyc
    have e2 := getE_mem hr h1
    rw [hyi, e2] at e1
    rw [Option.some.inj e1]; exact hy
/-- THERE: the edits lead from the one to the other. -/
theorem diff_leads {a b : List El} (ha : GoodD a) (hb : GoodD b) : ∃ l, diffE a b = (l, 0) ∧ applyE a l = (b, 0, 0) := by
  have o1 := ord_good hb a
  have o2 := ord_good ha b
  refine ⟨_, by unfold diffE; rw [if_neg (by simp [(risesB_iff _).2 ha.rises, (risesB_iff _).2 hb.rises]), if_neg (by simp [o1, o2])], ?_⟩
  unfold applyE
  rw [if_neg (by simp [(risesB_iff _).2 ha.rises])]
  obtain ⟨j1, l1, e1, r1, m1⟩ := adds_all ha.par hb.id (setsE a b ++ (ordE a b).reverse.map dropD) (ordE b a) [] a 0 ha.rises (fun x => by simp) (fun x hx => by cases hx) (ord_ord b a)
  rw [List.nil_append] at m1
  rw [e1]
  have hal : ∀ nr, hasB a nr = true → hasB l1 nr = true := fun nr h => by
    obtain ⟨x, hx, e⟩ := hasB_iff.1 h
    exact hasB_iff.2 ⟨x, (m1 x).2 (.inl hx), e⟩
  have hbl : ∀ nr, hasB b nr = true → hasB l1 nr = true := fun nr h => by
    obtain ⟨y, hy, e⟩ := hasB_iff.1 h
    by_cases h2 : hasB a nr = true
    · exact hal nr h2
    · exact hasB_iff.2 ⟨y, (m1 y).2 (.inr ((ord_mem hb.rises o1 y).2 ⟨hy, by rw [e]; simpa using h2⟩)), e⟩
  obtain ⟨j2, e2⟩ := sets_all hb.par hb.kind ((ordE a b).reverse.map dropD) a l1 j1 r1 ha.rises (fun x hx => ⟨getE_iff r1 |>.2 ⟨(m1 x).2 (.inl hx), rfl⟩, ha.id x hx, ha.kind x hx, (ha.par x hx).imp id (hal _)⟩) hbl
  rw [e2]
  obtain ⟨j3, e3, e4⟩ := drops_all hb.par ha.id hb.rises _ (ordE a b) (a.foldl (updE b) l1) j2 rfl (fold_upd_rises r1) (fun x => by
    have hg := fold_upd_get hb.rises a l1 r1 ha.rises x.id
    have hfr : Rises (a.foldl (updE b) l1) := fold_upd_rises r1
    rw [ord_mem ha.rises o2 x]
    constructor
    · intro hx
      rw [getE_mem hfr hx] at hg
      by_cases hc : hasB a x.id = true ∧ hasB b x.id = true
      · rw [if_pos hc] at hg
        exact .inl (getE_some hg.symm).1
      · rw [if_neg hc] at hg
        rcases (m1 x).1 (getE_some hg.symm).1 with h | h
        · have hax : hasB a x.id = true := hasB_iff.2 ⟨x, h, rfl⟩
          exact .inr ⟨h, Bool.eq_false_iff.2 (fun hb2 => hc ⟨hax, hb2⟩)⟩
        · exact .inl ((ord_mem hb.rises o1 x).1 h).1
    · intro hx
      have : getE (a.foldl (updE b) l1) x.id = some x := by
        rw [hg]
        rcases hx with h | ⟨h, h2⟩
        · have hbx : hasB b x.id = true := hasB_iff.2 ⟨x, h, rfl⟩
          by_cases ha2 : hasB a x.id = true
          · rw [if_pos ⟨ha2, hbx⟩]; exact getE_mem hb.rises h
          · rw [if_neg (fun h => ha2 h.1)]
            exact getE_mem r1 ((m1 x).2 (.inr ((ord_mem hb.rises o1 x).2 ⟨h, by simpa using ha2⟩)))
        · rw [if_neg (fun h3 => by rw [h2] at h3; cases h3.2)]
          exact getE_mem r1 ((m1 x).2 (.inl h))
      exact (getE_some this).1) (ord_ord a b)
  rw [e3, e4]

end Go.Proofs.Ytkciaafkhpjnaaa
namespace Go.Proofs.Ytkciaafkhpjnaaa
set_option maxRecDepth 100000
open Go.RowKit
set_option linter.unusedVariables false
set_option linter.unusedSimpArgs false

theorem part_same (x : El) (f : Nat) : partF x x f = false := by simp [partF]
theorem sets_same (x : El) (n : Nat) : setsUpto x x n = [] := by
  induction n with
  | zero => rfl
  | succ n ih => rw [setsUpto_succ, part_same, if_neg (by decide), ih]
theorem ord_none {c w : List El} (h : ∀ e ∈ c, hasB w e.id = true) : ordE c w = [] := by
  cases ho : ordE c w with
  | nil => rfl
  | cons e q =>
    obtain ⟨h1, h2, _⟩ := (ord_ord c w).mem e (by rw [ho]; simp)
    rw [h e h1] at h2; cases h2
/-- None just if both are one. -/
theorem diff_nil {a b : List El} (ha : GoodD a) (hb : GoodD b) : (diffE a b).1 = [] ↔ a = b := by
  obtain ⟨l, h1, h2⟩ := diff_leads ha hb
  constructor
  · intro h
    rw [h1] at h
    have h : l = [] := h
    subst h
    unfold applyE at h2
    rw [if_neg (by simp [(risesB_iff _).2 ha.rises])] at h2
    exact congrArg (·.1) h2
  · rintro rfl
    have ho := ord_good ha a
    unfold diffE
    rw [if_neg (by simp [(risesB_iff _).2 ha.rises]), if_neg (by simp [ho])]
    have hn : ordE a a = [] := ord_none (fun e he => hasB_iff.2 ⟨e, he, rfl⟩)
    have hs : setsE a a = [] := by
      unfold setsE
      rw [List.flatMap_eq_nil_iff]
      intro x hx
      unfold setsAt
      rw [getE_mem ha.rises hx]
      exact sets_same x 9
    rw [hn, hs]; rfl
theorem no_part {x y : El} (hi : x.id = y.id) (hx : 0 ≤ x.kind ∧ x.kind ≤ 255) (hy : 0 ≤ y.kind ∧ y.kind ≤ 255) (h : ∀ f, f < 9 → partF x y f = false) : x = y := by
  have : ∀ n, n ≤ 9 → mixE x y n = x := by
    intro n
    induction n with
    | zero => intro _; rfl
    | succ n ih => intro hn; rw [mix_same hx (h n (by omega)), ih (by omega)]
  rw [← mix_all hi hy, this 9 (Nat.le_refl _)]
theorem sets_mem {x y : El} {n : Nat} {d : Ed} : d ∈ setsUpto x y n ↔ ∃ f, f < n ∧ partF x y f = true ∧ d = setD x y (f : Int) := by
  unfold setsUpto
  rw [List.mem_map]
  constructor
  · rintro ⟨f, hf, rfl⟩
    obtain ⟨h1, h2⟩ := List.mem_filter.1 hf
    exact ⟨f, List.mem_range.1 h1, h2, rfl⟩
  · rintro ⟨f, h1, h2, rfl⟩
    exact ⟨f, List.mem_filter.2 ⟨List.mem_range.2 h1, h2⟩, rfl⟩
theorem setsE_mem {a b : List El} {d : Ed} : d ∈ setsE a b ↔ ∃ x ∈ a, ∃ y, getE b x.id = some y ∧ ∃ f, f < 9 ∧ partF x y f = true ∧ d = setD x y ((f : Nat) : Int) := by
  unfold setsE
  rw [List.mem_flatMap]
  constructor
  · rintro ⟨x, hx, hd⟩
    unfold setsAt at hd
    split at hd
    · rename_i y hy
      obtain ⟨f, h⟩ := sets_mem.1 hd
      exact ⟨x, hx, y, hy, f, h⟩
    · cases hd
  · rintro ⟨x, hx, y, hy, f, h⟩
    refine ⟨x, hx, ?_⟩
    unfold setsAt
    rw [hy]
    exact sets_mem.2 ⟨f, h⟩
theorem diff_mem {a b : List El} (ha : GoodD a) (hb : GoodD b) {d : Ed} : d ∈ (diffE a b).1 ↔ (∃ e ∈ b, hasB a e.id = false ∧ d = addD e) ∨ (∃ x ∈ a, ∃ y, getE b x.id = some y ∧ ∃ f, f < 9 ∧ partF x y f = true ∧ d = setD x y ((f : Nat) : Int)) ∨ ∃ e ∈ a, hasB b e.id = false ∧ d = dropD e := by
  have o1 := ord_good hb a
  have o2 := ord_good ha b
  unfold diffE
  rw [if_neg (by simp [(risesB_iff _).2 ha.rises, (risesB_iff _).2 hb.rises]), if_neg (by simp [o1, o2])]
  simp only [List.mem_append, List.mem_map, List.mem_reverse, setsE_mem]
  constructor
  · rintro (⟨e, he, rfl⟩ | h | ⟨e, he, rfl⟩)
    · obtain ⟨h1, h2⟩ := (ord_mem hb.rises o1 e).1 he
      exact .inl ⟨e, h1, h2, rfl⟩
    · exact .inr (.inl h)
    · obtain ⟨h1, h2⟩ := (ord_mem ha.rises o2 e).1 he
      exact .inr (.inr ⟨e, h1, h2, rfl⟩)
  · rintro (⟨e, h1, h2, rfl⟩ | h | ⟨e, h1, h2, rfl⟩)
    · exact .inl ⟨e, (ord_mem hb.rises o1 e).2 ⟨h1, h2⟩, rfl⟩
    · exact .inr (.inl h)
    · exact .inr (.inr ⟨e, (ord_mem ha.rises o2 e).2 ⟨h1, h2⟩, rfl⟩)
/-- Just what parts is touched. -/
theorem diff_touch {a b : List El} (ha : GoodD a) (hb : GoodD b) {nr : Int} : (∃ d ∈ (diffE a b).1, d.e.id = nr) ↔ getE a nr ≠ getE b nr := by
  constructor
  · rintro ⟨d, hd, rfl⟩
    rcases (diff_mem ha hb).1 hd with ⟨e, h1, h2, rfl⟩ | ⟨x, hx, y, hy, f, hf, hp, rfl⟩ | ⟨e, h1, h2, rfl⟩
    · show getE a e.id ≠ getE b e.id
      rw [getE_none.2 (hasB_no.1 h2), getE_mem hb.rises h1]
      intro h; cases h
    · show getE a x.id ≠ getE b x.id
      rw [getE_mem ha.rises hx, hy]
      intro h
      rw [Option.some.inj h, part_same] at hp; cases hp
    · show getE a e.id ≠ getE b e.id
      rw [getE_none.2 (hasB_no.1 h2), getE_mem ha.rises h1]
      intro h; cases h
  · intro h
    cases hga : getE a nr with
    | none =>
      cases hgb : getE b nr with
      | none => rw [hga, hgb] at h; exact absurd rfl h
      | some y =>
        obtain ⟨h1, h2⟩ := getE_some hgb
        exact ⟨addD y, (diff_mem ha hb).2 (.inl ⟨y, h1, hasB_no.2 (by rw [h2]; exact getE_none.1 hga), rfl⟩), h2⟩
    | some x =>
      obtain ⟨h1, h2⟩ := getE_some hga
      cases hgb : getE b nr with
      | none => exact ⟨dropD x, (diff_mem ha hb).2 (.inr (.inr ⟨x, h1, hasB_no.2 (by rw [h2]; exact getE_none.1 hgb), rfl⟩)), h2⟩
      | some y =>
        obtain ⟨h3, h4⟩ := getE_some hgb
        have hne : x ≠ y := fun e => h (by rw [hga, hgb, e])
        have : ∃ f, f < 9 ∧ partF x y f = true := by
          refine Classical.byContradiction fun hno => hne (no_part (by omega) (ha.kind x h1) (hb.kind y h3) (fun f hf => ?_))
          cases hp : partF x y f
          · rfl
          · exact absurd ⟨f, hf, hp⟩ hno
        obtain ⟨f, hf, hp⟩ := this
        exact ⟨setD x y (f : Int), (diff_mem ha hb).2 (.inr (.inl ⟨x, h1, y, by rw [h2]; exact hgb, f, hf, hp, rfl⟩)), h2⟩

end Go.Proofs.Ytkciaafkhpjnaaa
namespace Go.Proofs.Ytkciaafkhpjnaaa
set_option maxRecDepth 100000
open Go.RowKit
set_option linter.unusedVariables false
set_option linter.unusedSimpArgs false

theorem rises_nodup {l : List El} (h : Rises l) : l.Nodup := h.imp (fun {a b} hab e => by subst e; omega)
theorem rises_ids {l : List El} (h : Rises l) : (l.map (·.id)).Nodup := by
  rw [List.Nodup, List.pairwise_map]
  exact h.imp (fun {a b} hab e => by omega)
theorem ordF_nodup {c w : List El} : ∀ {q p : List El}, OrdF c w p q → p.Nodup → (p ++ q).Nodup := by
  intro q
  induction q with
  | nil => intro p _ h; simpa using h
  | cons e q ih =>
    intro p ho hp
    have he : e ∉ p := fun h => hasB_no.1 ho.1.2.2.1 e h rfl
    have : (p ++ [e]).Nodup := by
      rw [List.nodup_append]
      refine ⟨hp, by simp, fun a ha b hb e2 => ?_⟩
      rw [List.mem_singleton.1 hb] at e2
      exact he (e2 ▸ ha)
    have := ih ho.2 this
    simpa [List.append_assoc] using this
theorem ord_perm {c w : List El} (hr : Rises c) (ho : ordOk c w = true) : (ordE c w).Perm (c.filter (fun e => !hasB w e.id)) := by
  refine (List.perm_ext_iff_of_nodup (by have := ordF_nodup (ord_ord c w) List.nodup_nil; simpa using this) ((rises_nodup hr).filter _)).2 fun x => ?_
  rw [ord_mem hr ho, List.mem_filter]
  simp
/-- How many edits a number has. -/
def cntE (a b : List El) (nr : Int) : Nat := match getE a nr, getE b nr with
  | some x, some y => (setsOf x y).length
  | none, none => 0
  | _, _ => 1
theorem part_comm (x y : El) (f : Nat) : partF x y f = partF y x f := by
  unfold partF
  congr 1
  exact decide_eq_decide.2 ⟨fun h => ⟨h.1.symm, h.2.symm⟩, fun h => ⟨h.1.symm, h.2.symm⟩⟩
theorem cnt_comm (a b : List El) (nr : Int) : cntE a b nr = cntE b a nr := by
  unfold cntE
  cases getE a nr <;> cases getE b nr
  · rfl
  · rfl
  · rfl
  · rename_i x y
    show (setsOf x y).length = (setsOf y x).length
    unfold setsOf setsUpto
    rw [List.length_map, List.length_map]
    congr 1
    exact congrArg (fun p => (List.range 9).filter p) (funext (part_comm x y))
theorem sum_perm {l m : List Nat} (h : l.Perm m) : l.sum = m.sum := by
  induction h with
  | nil => rfl
  | cons x _ ih => simp [ih]
  | swap x y l => simp; omega
  | trans _ _ h1 h2 => exact h1.trans h2
/-- How many edits there are. -/
theorem diff_count {a b : List El} (ha : GoodD a) (hb : GoodD b) {ids : List Int} (hn : ids.Nodup) (hm : ∀ nr, nr ∈ ids ↔ hasB a nr = true ∨ hasB b nr = true) : (diffE a b).1.length = (ids.map (cntE a b)).sum := by
  have o1 := ord_good hb a
  have o2 := ord_good ha b
  have hl : (diffE a b).1.length = (b.filter (fun e => !hasB a e.id)).length + ((setsE a b).length + (a.filter (fun e => !hasB b e.id)).length) := by
    unfold diffE
    rw [if_neg (by simp [(risesB_iff _).2 ha.rises, (risesB_iff _).2 hb.rises]), if_neg (by simp [o1, o2])]
    simp only [List.length_append, List.length_map, List.length_reverse]
    rw [(ord_perm hb.rises o1).length_eq, (ord_perm ha.rises o2).length_eq]
  have hp : ids.Perm (a.map (·.id) ++ (b.filter (fun e => !hasB a e.id)).map (·.id)) := by
    refine (List.perm_ext_iff_of_nodup hn ?_).2 fun nr => ?_
    · rw [List.nodup_append]
      refine ⟨rises_ids ha.rises, rises_ids (hb.rises.filter _), fun x hx y hy e => ?_⟩
      obtain ⟨p, hp, rfl⟩ := List.mem_map.1 hx
      obtain ⟨q, hq, rfl⟩ := List.mem_map.1 hy
      have h2 := (List.mem_filter.1 hq).2
      have : hasB a q.id = true := hasB_iff.2 ⟨p, hp, e⟩
      rw [this] at h2; cases h2
    · rw [hm, List.mem_append, List.mem_map, List.mem_map]
      constructor
      · intro h
        by_cases h1 : hasB a nr = true
        · obtain ⟨x, hx, e⟩ := hasB_iff.1 h1; exact .inl ⟨x, hx, e⟩
        · rcases h with h | h
          · exact absurd h h1
          · obtain ⟨x, hx, e⟩ := hasB_iff.1 h
            exact .inr ⟨x, List.mem_filter.2 ⟨hx, by rw [e]; simpa using h1⟩, e⟩
      · rintro (⟨x, hx, e⟩ | ⟨x, hx, e⟩)
        · exact .inl (hasB_iff.2 ⟨x, hx, e⟩)
        · exact .inr (hasB_iff.2 ⟨x, (List.mem_filter.1 hx).1, e⟩)
  rw [hl, sum_perm (hp.map (cntE a b)), List.map_append, List.sum_append]
  have e1 : ((a.map (·.id)).map (cntE a b)).sum = (setsE a b).length + (a.filter (fun e => !hasB b e.id)).length := by
    have : ∀ l : List El, (∀ x ∈ l, x ∈ a) → ((l.map (·.id)).map (cntE a b)).sum = (l.flatMap (setsAt b)).length + (l.filter (fun e => !hasB b e.id)).length := by
      intro l
      induction l with
      | nil => intro _; rfl
      | cons x l ih =>
        intro h
        have ihx := ih (fun y hy => h y (by simp [hy]))
        have hg := getE_mem ha.rises (h x (by simp))
        rw [List.map_cons, List.map_cons, List.sum_cons, ihx, List.flatMap_cons, List.length_append, List.filter_cons]
        cases hy : getE b x.id with
        | none =>
          have hc : cntE a b x.id = 1 := by unfold cntE; rw [hg, hy]
          have hB : hasB b x.id = false := by unfold hasB; rw [hy]; rfl
          have hs : setsAt b x = [] := by unfold setsAt; rw [hy]
          rw [hc, hB, hs, if_pos (by decide), List.length_cons, List.length_nil]; omega
        | some y =>
          have hc : cntE a b x.id = (setsOf x y).length := by unfold cntE; rw [hg, hy]
          have hB : hasB b x.id = true := by unfold hasB; rw [hy]; rfl
          have hs : setsAt b x = setsOf x y := by unfold setsAt; rw [hy]
          rw [hc, hB, hs, if_neg (by decide)]; omega
    exact this a (fun _ h => h)
  have e2 : (((b.filter (fun e => !hasB a e.id)).map (·.id)).map (cntE a b)).sum = (b.filter (fun e => !hasB a e.id)).length := by
    have : ∀ l : List El, (∀ x ∈ l, x ∈ b ∧ hasB a x.id = false) → ((l.map (·.id)).map (cntE a b)).sum = l.length := by
      intro l
      induction l with
      | nil => intro _; rfl
      | cons x l ih =>
        intro h
        obtain ⟨h1, h2⟩ := h x (by simp)
        have hc : cntE a b x.id = 1 := by
          unfold cntE
          rw [getE_none.2 (hasB_no.1 h2), getE_mem hb.rises h1]
        rw [List.map_cons, List.map_cons, List.sum_cons, ih (fun y hy => h y (by simp [hy])), hc, List.length_cons]; omega
    exact this _ (fun x hx => by
      obtain ⟨h1, h2⟩ := List.mem_filter.1 hx
      exact ⟨h1, by simpa using h2⟩)
  rw [e1, e2]; omega
/-- As many the one way as the other. -/
theorem diff_turned {a b : List El} (ha : GoodD a) (hb : GoodD b) : (diffE a b).1.length = (diffE b a).1.length := by
  obtain ⟨ids, hn, hm⟩ : ∃ ids : List Int, ids.Nodup ∧ ∀ nr, nr ∈ ids ↔ hasB a nr = true ∨ hasB b nr = true := by
    refine ⟨a.map (·.id) ++ (b.filter (fun e => !hasB a e.id)).map (·.id), ?_, fun nr => ?_⟩
    · rw [List.nodup_append]
      refine ⟨rises_ids ha.rises, rises_ids (hb.rises.filter _), fun x hx y hy e => ?_⟩
      obtain ⟨p, hp, rfl⟩ := List.mem_map.1 hx
      obtain ⟨q, hq, rfl⟩ := List.mem_map.1 hy
      have h2 := (List.mem_filter.1 hq).2
      have : hasB a q.id = true := hasB_iff.2 ⟨p, hp, e⟩
      rw [this] at h2; cases h2
    · rw [List.mem_append, List.mem_map, List.mem_map]
      constructor
      · rintro (⟨x, hx, e⟩ | ⟨x, hx, e⟩)
        · exact .inl (hasB_iff.2 ⟨x, hx, e⟩)
        · exact .inr (hasB_iff.2 ⟨x, (List.mem_filter.1 hx).1, e⟩)
      · intro h
        by_cases h1 : hasB a nr = true
        · obtain ⟨x, hx, e⟩ := hasB_iff.1 h1; exact .inl ⟨x, hx, e⟩
        · rcases h with h | h
          · exact absurd h h1
          · obtain ⟨x, hx, e⟩ := hasB_iff.1 h
            exact .inr ⟨x, List.mem_filter.2 ⟨hx, by rw [e]; simpa using h1⟩, e⟩
  rw [diff_count ha hb hn hm, diff_count hb ha hn (fun nr => (hm nr).trans ⟨Or.symm, Or.symm⟩)]
  congr 1
  exact congrArg (fun p => ids.map p) (funext (cnt_comm a b))

end Go.Proofs.Ytkciaafkhpjnaaa
namespace Go.Proofs.Ytkciaafkhpjnaaa
set_option maxRecDepth 100000
open Go.RowKit
set_option linter.unusedVariables false
set_option linter.unusedSimpArgs false

theorem sorted_ext {α : Type} {lt : α → α → Prop} (irr : ∀ a, ¬ lt a a) (asy : ∀ a b, lt a b → ¬ lt b a) : ∀ {l m : List α}, l.Pairwise lt → m.Pairwise lt → (∀ x, x ∈ l ↔ x ∈ m) → l = m := by
  intro l
  induction l with
  | nil =>
    intro m _ _ h
    cases m with
    | nil => rfl
    | cons b m => exact absurd ((h b).2 (by simp)) (by simp)
  | cons a l ih =>
    intro m hl hm h
    cases m with
    | nil => exact absurd ((h a).1 (by simp)) (by simp)
    | cons b m =>
      rw [List.pairwise_cons] at hl hm
      have e : a = b := by
        rcases List.mem_cons.1 ((h a).1 (by simp)) with e | h1
        · exact e
        · rcases List.mem_cons.1 ((h b).2 (by simp)) with e | h2
          · exact e.symm
          · exact absurd (hl.1 b h2) (asy _ _ (hm.1 a h1))
      subst e
      rw [ih hl.2 hm.2 ?_]
      intro x
      constructor
      · intro hx
        rcases List.mem_cons.1 ((h x).1 (List.mem_cons_of_mem _ hx)) with e | h1
        · subst e; exact absurd (hl.1 x hx) (irr x)
        · exact h1
      · intro hx
        rcases List.mem_cons.1 ((h x).2 (List.mem_cons_of_mem _ hx)) with e | h1
        · subst e; exact absurd (hm.1 x hx) (irr x)
        · exact h1

/-- An element and its round. -/
structure Tn where
  e : El
  r : Nat
deriving DecidableEq
def rootB (w : List El) (e : El) : Bool := !hasB w e.id && (decide (e.par = 0) || hasB w e.par)
def waitB (w : List El) (e : El) : Bool := !hasB w e.id && !(decide (e.par = 0) || hasB w e.par)
/-- The elements that wait by a number. -/
def waits (c w : List El) (nr : Int) : List El := c.filter (fun e => waitB w e && decide (e.par = nr))
def kid (t : Tn) (e : El) : Tn := ⟨e, if e.id < t.e.id then t.r + 1 else t.r⟩
def kids (c w : List El) (t : Tn) : List Tn := (waits c w t.e.id).map (kid t)
theorem root_not_wait {w : List El} {e : El} (h : rootB w e = true) : waitB w e = false := by
  unfold rootB at h; unfold waitB
  simp only [Bool.and_eq_true] at h
  rw [h.2]; simp
theorem root_out {w : List El} {e : El} (h : rootB w e = true) : hasB w e.id = false := by
  unfold rootB at h; simp only [Bool.and_eq_true, Bool.not_eq_true'] at h; exact h.1
theorem wait_out {w : List El} {e : El} (h : waitB w e = true) : hasB w e.id = false := by
  unfold waitB at h; simp only [Bool.and_eq_true, Bool.not_eq_true'] at h; exact h.1
theorem root_or_wait {w : List El} {e : El} (h : hasB w e.id = false) : rootB w e = true ∨ waitB w e = true := by
  unfold rootB waitB
  rw [h]
  cases (decide (e.par = 0) || hasB w e.par) <;> simp
theorem mem_waits {c w : List El} {nr : Int} {e : El} : e ∈ waits c w nr ↔ e ∈ c ∧ waitB w e = true ∧ e.par = nr := by
  unfold waits
  rw [List.mem_filter]
  simp
theorem mem_kids {c w : List El} {t x : Tn} : x ∈ kids c w t ↔ x.e ∈ c ∧ waitB w x.e = true ∧ x.e.par = t.e.id ∧ x.r = if x.e.id < t.e.id then t.r + 1 else t.r := by
  unfold kids
  rw [List.mem_map]
  constructor
  · rintro ⟨e, he, rfl⟩
    obtain ⟨h1, h2, h3⟩ := mem_waits.1 he
    exact ⟨h1, h2, h3, rfl⟩
  · rintro ⟨h1, h2, h3, h4⟩
    refine ⟨x.e, mem_waits.2 ⟨h1, h2, h3⟩, ?_⟩
    cases x
    simp only [kid]
    simp only at h4
    rw [h4]
/-- Where the taking stands: so many of T have been gone through. -/
structure TkS (c w : List El) (T : List Tn) (i : Nat) : Prop where
  le : i ≤ T.length
  nd : (T.map (·.e.id)).Nodup
  src : ∀ k (h : k < T.length), ((T[k]).e ∈ c ∧ rootB w (T[k]).e = true ∧ (T[k]).r = 0) ∨ ∃ j, ∃ hj : j < k, j < i ∧ T[k] ∈ kids c w (T[j]'(by omega))
  roots : ∀ e ∈ c, rootB w e = true → ∃ t ∈ T, t.e = e
  done : ∀ j (h : j < T.length), j < i → ∀ x ∈ kids c w (T[j]), x ∈ T
theorem nodup_same {T : List Tn} (h : (T.map (·.e.id)).Nodup) {i j : Nat} (hi : i < T.length) (hj : j < T.length) (e : (T[i]).e.id = (T[j]).e.id) : i = j := by
  have hp := List.pairwise_iff_getElem.1 h
  rcases Nat.lt_trichotomy i j with h1 | h1 | h1
  · exact absurd (by rw [List.getElem_map, List.getElem_map]; exact e) (hp i j (by simpa using hi) (by simpa using hj) h1)
  · exact h1
  · exact absurd (by rw [List.getElem_map, List.getElem_map]; exact e.symm) (hp j i (by simpa using hj) (by simpa using hi) h1)
theorem TkS.mem {c w : List El} {T : List Tn} {i : Nat} (h : TkS c w T i) : ∀ t ∈ T, t.e ∈ c ∧ hasB w t.e.id = false := by
  intro t ht
  obtain ⟨k, hk, rfl⟩ := List.getElem_of_mem ht
  rcases h.src k hk with ⟨h1, h2, _⟩ | ⟨j, hj, _, h1⟩
  · exact ⟨h1, root_out h2⟩
  · obtain ⟨h1, h2, _⟩ := mem_kids.1 h1
    exact ⟨h1, wait_out h2⟩
theorem TkS.one {c w : List El} {T : List Tn} {i : Nat} (h : TkS c w T i) {s t : Tn} (hs : s ∈ T) (ht : t ∈ T) (e : s.e.id = t.e.id) : s = t := by
  obtain ⟨k, hk, rfl⟩ := List.getElem_of_mem hs
  obtain ⟨j, hj, rfl⟩ := List.getElem_of_mem ht
  have := nodup_same h.nd hk hj e
  subst this
  rfl
theorem ids_inj {c : List El} (hr : Rises c) {x y : El} (hx : x ∈ c) (hy : y ∈ c) (e : x.id = y.id) : x = y := by
  have h1 := getE_mem hr hx
  have h2 := getE_mem hr hy
  rw [e, h2] at h1
  exact (Option.some.inj h1).symm
theorem TkS.start {c w : List El} (hr : Rises c) : TkS c w ((c.filter (rootB w)).map (fun e => ⟨e, 0⟩)) 0 := by
  refine ⟨Nat.zero_le _, ?_, ?_, ?_, ?_⟩
  · rw [List.map_map]
    exact ((rises_ids hr).sublist ((List.filter_sublist (l := c) (p := rootB w)).map _))
  · intro k hk
    left
    simp only [List.getElem_map]
    have hm : (c.filter (rootB w))[k]'(by simpa using hk) ∈ c.filter (rootB w) := List.getElem_mem _
    rw [List.mem_filter] at hm
    exact ⟨hm.1, hm.2, trivial⟩
  · intro e he hre
    exact ⟨⟨e, 0⟩, List.mem_map.2 ⟨e, List.mem_filter.2 ⟨he, hre⟩, rfl⟩, rfl⟩
  · intro j _ hj
    omega
theorem TkS.step {c w : List El} (hr : Rises c) {T : List Tn} {i : Nat} (h : TkS c w T i) (hi : i < T.length) : TkS c w (T ++ kids c w T[i]) (i + 1) := by
  refine ⟨by rw [List.length_append]; omega, ?_, ?_, ?_, ?_⟩
  · rw [List.map_append, List.nodup_append]
    refine ⟨h.nd, ?_, ?_⟩
    · unfold kids
      rw [List.map_map]
      exact (rises_ids hr).sublist ((List.filter_sublist (l := c)).map _)
    · intro a ha b hb e
      subst e
      obtain ⟨t, ht, rfl⟩ := List.mem_map.1 ha
      obtain ⟨x, hx, e⟩ := List.mem_map.1 hb
      obtain ⟨h1, h2, h3, _⟩ := mem_kids.1 hx
      have hte := h.mem t ht
      have hxt : x.e = t.e := ids_inj hr h1 hte.1 e
      obtain ⟨k, hk, rfl⟩ := List.getElem_of_mem ht
      rcases h.src k hk with ⟨_, h4, _⟩ | ⟨j, hj, hji, h4⟩
      · rw [hxt, root_not_wait h4] at h2; cases h2
      · obtain ⟨_, _, h5, _⟩ := mem_kids.1 h4
        rw [hxt] at h3
        have := nodup_same h.nd hi (show j < T.length by omega) (by rw [← h3, h5])
        omega
  · intro k hk
    by_cases hkT : k < T.length
    · rw [List.getElem_append_left hkT]
      rcases h.src k hkT with h1 | ⟨j, hj, hji, h1⟩
      · exact .inl h1
      · refine .inr ⟨j, hj, by omega, ?_⟩
        rw [List.getElem_append_left (by omega)]
        exact h1
    · right
      refine ⟨i, by omega, by omega, ?_⟩
      rw [List.getElem_append_right (show T.length ≤ k by omega), List.getElem_append_left hi]
      exact List.getElem_mem _
  · intro e he hre
    obtain ⟨t, ht, e1⟩ := h.roots e he hre
    exact ⟨t, List.mem_append.2 (.inl ht), e1⟩
  · intro j hj hji x hx
    rw [List.mem_append]
    have hjT : j < T.length := by omega
    rw [List.getElem_append_left hjT] at hx
    by_cases e : j = i
    · subst e; exact .inr hx
    · exact .inl (h.done j hjT (by omega) x hx)
theorem nodup_le {α : Type} : ∀ {l m : List α}, l.Nodup → (∀ x ∈ l, x ∈ m) → l.length ≤ m.length := by
  intro l
  induction l with
  | nil => intro m _ _; simp
  | cons a l ih =>
    intro m hn hs
    obtain ⟨s, t, rfl⟩ := List.append_of_mem (hs a (by simp))
    have hn' := List.nodup_cons.1 hn
    have := ih (m := s ++ t) hn'.2 (fun x hx => by
      have hxa : x ≠ a := fun e => hn'.1 (e ▸ hx)
      have := hs x (by simp [hx])
      simp only [List.mem_append, List.mem_cons] at this ⊢
      rcases this with h | h | h
      · exact .inl h
      · exact absurd h hxa
      · exact .inr h)
    simp only [List.length_append, List.length_cons] at this ⊢
    omega
theorem TkS.len {c w : List El} {T : List Tn} {i : Nat} (h : TkS c w T i) : T.length ≤ c.length := by
  have h1 : (T.map (·.e)).Nodup := by
    have := h.nd
    rw [show T.map (·.e.id) = (T.map (·.e)).map (·.id) by rw [List.map_map]; rfl] at this
    exact List.Pairwise.of_map (·.id) (fun a b hab e => hab (by rw [e])) this
  have := nodup_le (m := c) h1 (fun x hx => by obtain ⟨t, ht, rfl⟩ := List.mem_map.1 hx; exact (h.mem t ht).1)
  simpa using this
theorem TkS.round {c w : List El} {T : List Tn} {i : Nat} (h : TkS c w T i) : ∀ k (hk : k < T.length), (T[k]).r ≤ k := by
  intro k
  induction k using Nat.strongRecOn with
  | _ k ih =>
    intro hk
    rcases h.src k hk with ⟨_, _, h1⟩ | ⟨j, hj, _, h1⟩
    · omega
    · obtain ⟨_, _, _, h2⟩ := mem_kids.1 h1
      have := ih j hj (by omega)
      split at h2 <;> omega
/-- What is taken in a round. -/
def rowR (c : List El) (T : List Tn) (q : Nat) : List El := c.filter (fun e => decide ((⟨e, q⟩ : Tn) ∈ T))
def rowsR (c : List El) (T : List Tn) (n : Nat) : List El := (List.range n).flatMap (rowR c T)
theorem mem_rowR {c : List El} {T : List Tn} {q : Nat} {e : El} : e ∈ rowR c T q ↔ e ∈ c ∧ (⟨e, q⟩ : Tn) ∈ T := by
  unfold rowR; rw [List.mem_filter]; simp
theorem mem_rowsR {c : List El} {T : List Tn} {n : Nat} {e : El} : e ∈ rowsR c T n ↔ e ∈ c ∧ ∃ q, q < n ∧ (⟨e, q⟩ : Tn) ∈ T := by
  unfold rowsR
  rw [List.mem_flatMap]
  constructor
  · rintro ⟨q, hq, he⟩
    obtain ⟨h1, h2⟩ := mem_rowR.1 he
    exact ⟨h1, q, List.mem_range.1 hq, h2⟩
  · rintro ⟨h1, q, hq, h2⟩
    exact ⟨q, List.mem_range.2 hq, mem_rowR.2 ⟨h1, h2⟩⟩
theorem rowsR_succ (c : List El) (T : List Tn) (n : Nat) : rowsR c T (n + 1) = rowsR c T n ++ rowR c T n := by
  unfold rowsR
  rw [List.range_succ, List.flatMap_append]
  simp
theorem step_row {c w : List El} (hr : Rises c) {T : List Tn} (h : TkS c w T T.length) {pre post : List El} {e : El} (hc : c = pre ++ e :: post) (r : Nat) :
    stepO w (rowsR c T r ++ pre.filter (fun e => decide ((⟨e, r⟩ : Tn) ∈ T))) e = rowsR c T r ++ (pre ++ [e]).filter (fun e => decide ((⟨e, r⟩ : Tn) ∈ T)) := by
  have hec : e ∈ c := by rw [hc]; simp
  have hpre : ∀ x ∈ pre, x.id < e.id := by
    intro x hx
    have := hr
    rw [hc, Rises, List.pairwise_append] at this
    exact this.2.2 x hx e (by simp)
  have hpost : ∀ x ∈ c, x.id < e.id → x ∈ pre := by
    intro x hx hlt
    rw [hc] at hx
    rcases List.mem_append.1 hx with hx | hx
    · exact hx
    · have := hr
      rw [hc, Rises, List.pairwise_append, List.pairwise_cons] at this
      rcases List.mem_cons.1 hx with rfl | hx
      · omega
      · have := this.2.1.1 x hx; omega
  have hout : ∀ nr, hasB (rowsR c T r ++ pre.filter (fun e => decide ((⟨e, r⟩ : Tn) ∈ T))) nr = true ↔ ∃ x ∈ c, x.id = nr ∧ ((∃ q, q < r ∧ (⟨x, q⟩ : Tn) ∈ T) ∨ ((⟨x, r⟩ : Tn) ∈ T ∧ x ∈ pre)) := by
    intro nr
    rw [hasB_iff]
    constructor
    · rintro ⟨x, hx, e1⟩
      rcases List.mem_append.1 hx with hx | hx
      · obtain ⟨h1, h2⟩ := mem_rowsR.1 hx
        exact ⟨x, h1, e1, .inl h2⟩
      · rw [List.mem_filter] at hx
        exact ⟨x, by rw [hc]; exact List.mem_append.2 (.inl hx.1), e1, .inr ⟨by simpa using hx.2, hx.1⟩⟩
    · rintro ⟨x, hx, e1, h1⟩
      refine ⟨x, ?_, e1⟩
      rw [List.mem_append]
      rcases h1 with h1 | ⟨h1, h2⟩
      · exact .inl (mem_rowsR.2 ⟨hx, h1⟩)
      · exact .inr (List.mem_filter.2 ⟨h2, by simpa using h1⟩)
  rw [List.filter_append, ← List.append_assoc]
  generalize rowsR c T r ++ pre.filter (fun e => decide ((⟨e, r⟩ : Tn) ∈ T)) = out at hout ⊢
  by_cases her : (⟨e, r⟩ : Tn) ∈ T
  · have h1 : hasB w e.id = false := (h.mem _ her).2
    have h2 : hasB out e.id = false := by
      rw [← Bool.not_eq_true, hout]
      rintro ⟨x, hx, e1, h3⟩
      have := ids_inj hr hx hec e1
      subst this
      rcases h3 with ⟨q, hq, h3⟩ | ⟨_, h3⟩
      · have := congrArg Tn.r (h.one h3 her rfl); simp only at this; omega
      · have := hpre x h3; omega
    have h3 : (decide (e.par = 0) || hasB w e.par || hasB out e.par) = true := by
      obtain ⟨k, hk, hke⟩ := List.getElem_of_mem her
      rcases h.src k hk with ⟨_, h4, _⟩ | ⟨j, hj, _, h4⟩
      · rw [hke] at h4
        unfold rootB at h4
        simp only [Bool.and_eq_true] at h4
        rw [h4.2]; rfl
      · rw [hke] at h4
        obtain ⟨_, _, h5, h6⟩ := mem_kids.1 h4
        simp only at h5 h6
        have hjT : T[j] ∈ T := List.getElem_mem _
        have hjc := (h.mem _ hjT).1
        have : hasB out e.par = true := by
          rw [hout]
          refine ⟨(T[j]).e, hjc, h5.symm, ?_⟩
          by_cases hlt : e.id < (T[j]).e.id
          · rw [if_pos hlt] at h6
            exact .inl ⟨(T[j]).r, by omega, hjT⟩
          · rw [if_neg hlt] at h6
            have hne : (T[j]).e.id ≠ e.id := by
              intro e1
              have := nodup_same h.nd (show j < T.length by omega) hk (by rw [hke]; exact e1)
              omega
            refine .inr ⟨?_, hpost _ hjc (by omega)⟩
            rw [h6]; exact hjT
        rw [this]; simp
    unfold stepO
    rw [if_neg (by rw [h1, h2]; simp), if_pos h3]
    rw [List.filter_cons_of_pos (by simpa using her), List.filter_nil]
  · rw [List.filter_cons_of_neg (by simpa using her), List.filter_nil, List.append_nil]
    unfold stepO
    split
    · rfl
    · rename_i hno
      rw [Bool.or_eq_true, not_or] at hno
      obtain ⟨h1, h2⟩ := hno
      rw [Bool.not_eq_true] at h1
      refine if_neg fun h3 => ?_
      have hin : ∀ q, q < r → (⟨e, q⟩ : Tn) ∉ T := fun q hq hm => h2 ((hout e.id).2 ⟨e, hec, rfl, .inl ⟨q, hq, hm⟩⟩)
      rcases root_or_wait (w := w) h1 with hroot | hwait
      · obtain ⟨t, ht, e1⟩ := h.roots e hec hroot
        obtain ⟨k, hk, hke⟩ := List.getElem_of_mem ht
        rcases h.src k hk with ⟨_, _, h4⟩ | ⟨j, hj, _, h4⟩
        · rw [hke] at h4
          have ht0 : (⟨e, 0⟩ : Tn) ∈ T := by
            have : t = ⟨e, 0⟩ := by cases t; simp only at e1 h4; rw [e1, h4]
            rw [← this]; exact ht
          by_cases hr0 : r = 0
          · subst hr0; exact her ht0
          · exact hin 0 (by omega) ht0
        · rw [hke] at h4
          have := (mem_kids.1 h4).2.1
          rw [e1, root_not_wait hroot] at this
          cases this
      · have h4 : hasB out e.par = true := by
          unfold waitB at hwait
          simp only [Bool.and_eq_true, Bool.not_eq_true'] at hwait
          rw [hwait.2] at h3
          simpa using h3
        obtain ⟨x, hx, e1, h5⟩ := (hout e.par).1 h4
        have hk : ∀ q, (⟨x, q⟩ : Tn) ∈ T → (⟨e, if e.id < x.id then q + 1 else q⟩ : Tn) ∈ T := by
          intro q hq
          obtain ⟨k, hk, hke⟩ := List.getElem_of_mem hq
          refine h.done k hk hk _ ?_
          rw [hke]
          exact mem_kids.2 ⟨hec, hwait, e1.symm, rfl⟩
        rcases h5 with ⟨q, hq, h5⟩ | ⟨h5, h6⟩
        · have := hk q h5
          split at this
          · by_cases e2 : q + 1 = r
            · rw [e2] at this; exact her this
            · exact hin (q + 1) (by omega) this
          · exact hin q hq this
        · have := hk r h5
          have := hpre x h6
          rw [if_neg (by omega)] at *
          exact her ‹_›
theorem pass_row {c w : List El} (hr : Rises c) {T : List Tn} (h : TkS c w T T.length) (r : Nat) : ∀ (post pre : List El), c = pre ++ post →
    post.foldl (stepO w) (rowsR c T r ++ pre.filter (fun e => decide ((⟨e, r⟩ : Tn) ∈ T))) = rowsR c T r ++ c.filter (fun e => decide ((⟨e, r⟩ : Tn) ∈ T)) := by
  intro post
  induction post with
  | nil => intro pre hc; rw [List.foldl_nil, hc, List.append_nil]
  | cons e post ih =>
    intro pre hc
    rw [List.foldl_cons, step_row hr h hc r]
    exact ih (pre ++ [e]) (by rw [hc, List.append_assoc]; rfl)
theorem rounds_rows {c w : List El} (hr : Rises c) {T : List Tn} (h : TkS c w T T.length) : ∀ n, roundsO w c n = rowsR c T n := by
  intro n
  induction n with
  | zero => rfl
  | succ n ih =>
    rw [rowsR_succ, roundsO, ih]
    have := pass_row hr h n c [] rfl
    rw [List.filter_nil, List.append_nil] at this
    exact this
def TnLt (a b : Tn) : Prop := a.r < b.r ∨ a.r = b.r ∧ a.e.id < b.e.id
def rowsT (c : List El) (T : List Tn) (n : Nat) : List Tn := (List.range n).flatMap (fun q => (rowR c T q).map (fun e => ⟨e, q⟩))
theorem rowsT_e (c : List El) (T : List Tn) (n : Nat) : (rowsT c T n).map (·.e) = rowsR c T n := by
  unfold rowsT rowsR
  rw [List.map_flatMap]
  congr 1
  funext q
  rw [List.map_map]
  exact (List.map_congr_left fun _ _ => rfl).trans (List.map_id _)
theorem rowsT_succ (c : List El) (T : List Tn) (n : Nat) : rowsT c T (n + 1) = rowsT c T n ++ (rowR c T n).map (fun e => ⟨e, n⟩) := by
  unfold rowsT
  rw [List.range_succ, List.flatMap_append]
  simp
theorem rowsT_lt {c : List El} {T : List Tn} : ∀ {n : Nat}, ∀ t ∈ rowsT c T n, t.r < n := by
  intro n t ht
  unfold rowsT at ht
  obtain ⟨q, hq, h1⟩ := List.mem_flatMap.1 ht
  obtain ⟨e, _, rfl⟩ := List.mem_map.1 h1
  exact List.mem_range.1 hq
theorem rowsT_sorted {c : List El} (hr : Rises c) (T : List Tn) : ∀ n, (rowsT c T n).Pairwise TnLt := by
  intro n
  induction n with
  | zero => exact List.Pairwise.nil
  | succ n ih =>
    rw [rowsT_succ, List.pairwise_append]
    refine ⟨ih, ?_, ?_⟩
    · rw [List.pairwise_map]
      refine (List.Pairwise.filter _ hr).imp ?_
      intro a b hab
      exact .inr ⟨rfl, hab⟩
    · intro a ha b hb
      obtain ⟨e, _, rfl⟩ := List.mem_map.1 hb
      exact .inl (rowsT_lt a ha)
/-- WHAT IS TAKEN, SORTED BY ROUND AND NUMBER, IS THE ORDER IN WHICH ELEMENTS COME. -/
theorem take_ord {c w : List El} (hr : Rises c) {T : List Tn} (h : TkS c w T T.length) {L : List Tn} (hp : ∀ t, t ∈ L ↔ t ∈ T) (hs : L.Pairwise TnLt) : L.map (·.e) = ordE c w := by
  have e : L = rowsT c T (c.length + 1) := by
    refine sorted_ext (lt := TnLt) (fun a ha => ?_) (fun a b h1 h2 => ?_) hs (rowsT_sorted hr T _) (fun t => ?_)
    · rcases ha with ha | ⟨_, ha⟩ <;> omega
    · rcases h1 with h1 | ⟨h1, h3⟩ <;> rcases h2 with h2 | ⟨h2, h4⟩ <;> omega
    · rw [hp]
      unfold rowsT
      rw [List.mem_flatMap]
      constructor
      · intro ht
        refine ⟨t.r, List.mem_range.2 ?_, List.mem_map.2 ⟨t.e, mem_rowR.2 ⟨(h.mem t ht).1, ht⟩, rfl⟩⟩
        obtain ⟨k, hk, rfl⟩ := List.getElem_of_mem ht
        have := h.round k hk
        have := h.len
        omega
      · rintro ⟨q, _, h1⟩
        obtain ⟨x, hx, rfl⟩ := List.mem_map.1 h1
        exact (mem_rowR.1 hx).2
  rw [e, rowsT_e, ← rounds_rows hr h]
  rfl
theorem take_mem {c w : List El} (hr : Rises c) {T : List Tn} (h : TkS c w T T.length) (nr : Int) : hasB (ordE c w) nr = true ↔ ∃ t ∈ T, t.e.id = nr := by
  rw [show ordE c w = rowsR c T (c.length + 1) from rounds_rows hr h _, hasB_iff]
  constructor
  · rintro ⟨x, hx, e⟩
    obtain ⟨_, q, _, h1⟩ := mem_rowsR.1 hx
    exact ⟨_, h1, e⟩
  · rintro ⟨t, ht, e⟩
    refine ⟨t.e, mem_rowsR.2 ⟨(h.mem t ht).1, t.r, ?_, ht⟩, e⟩
    obtain ⟨k, hk, rfl⟩ := List.getElem_of_mem ht
    have := h.round k hk
    have := h.len
    omega
/-- ALL ARE TAKEN JUST IF NO ONE WAITS BY A NUMBER THAT ISN'T. -/
theorem take_ok {c w : List El} (hr : Rises c) {T : List Tn} (h : TkS c w T T.length) : ordOk c w = true ↔ ∀ nr, waits c w nr ≠ [] → ∃ t ∈ T, t.e.id = nr := by
  unfold ordOk
  rw [List.all_eq_true]
  constructor
  · intro ho nr hw
    obtain ⟨e, he⟩ := List.exists_mem_of_ne_nil _ hw
    obtain ⟨h1, h2, h3⟩ := mem_waits.1 he
    have := ho e h1
    rw [wait_out h2, Bool.false_or, take_mem hr h] at this
    obtain ⟨t, ht, e1⟩ := this
    obtain ⟨k, hk, rfl⟩ := List.getElem_of_mem ht
    have hte : (T[k]).e = e := ids_inj hr (h.mem _ ht).1 h1 e1
    rcases h.src k hk with ⟨_, h4, _⟩ | ⟨j, hj, _, h4⟩
    · rw [hte] at h4; rw [root_not_wait h4] at h2; cases h2
    · obtain ⟨_, _, h5, _⟩ := mem_kids.1 h4
      rw [hte, h3] at h5
      exact ⟨T[j], List.getElem_mem _, h5.symm⟩
  · intro hw e he
    rw [Bool.or_eq_true, take_mem hr h]
    cases h1 : hasB w e.id
    · right
      rcases root_or_wait (w := w) h1 with h2 | h2
      · obtain ⟨t, ht, e1⟩ := h.roots e he h2
        exact ⟨t, ht, by rw [e1]⟩
      · obtain ⟨t, ht, e1⟩ := hw e.par (List.ne_nil_of_mem (mem_waits.2 ⟨he, h2, rfl⟩))
        obtain ⟨k, hk, hke⟩ := List.getElem_of_mem ht
        exact ⟨kid t e, h.done k hk hk _ (by rw [hke]; exact mem_kids.2 ⟨he, h2, e1.symm, rfl⟩), rfl⟩
    · exact .inl rfl
end Go.Proofs.Ytkciaafkhpjnaaa
namespace Go.Proofs.Ytkciaafkhpjnaaa
set_option maxRecDepth 100000
open Go.RowKit
set_option linter.unusedVariables false
set_option linter.unusedSimpArgs false

def Tn.vals (x : Tn) : List Value := x.e.vals ++ [.int .i64 (x.r : Int)]
def tn0 : Tn := ⟨el0, 0⟩
theorem Tn.vlen (x : Tn) : x.vals.length = 11 := rfl
theorem Tn.vals_one (x : Tn) : ∀ v ∈ x.vals, v.oneCell' = true := fun v hv => by
  unfold Tn.vals at hv
  rcases List.mem_append.1 hv with hv | hv
  · exact x.e.vals_one v hv
  · rw [List.mem_singleton] at hv; subst hv; rfl
def tnsV (l : List Tn) : List Value := l.flatMap Tn.vals
theorem tnsV_len (l : List Tn) : (tnsV l).length = 11 * l.length := by
  induction l with
  | nil => rfl
  | cons o l ih =>
    simp only [tnsV, List.flatMap_cons, List.length_append, List.length_cons] at ih ⊢
    rw [ih, o.vlen]; omega
theorem tnsV_app (a b : List Tn) : tnsV (a ++ b) = tnsV a ++ tnsV b := by simp [tnsV]
theorem tnsV_one (rs : List Tn) : ∀ v ∈ tnsV rs, v.oneCell' = true := fun v hv => by
  simp only [tnsV, List.mem_flatMap] at hv
  obtain ⟨o, _, h⟩ := hv
  exact o.vals_one v h
theorem tnsV_part : ∀ (l : List Tn) (k : Nat), k < l.length → ((tnsV l).drop (k * 11)).take 11 = (l.getD k tn0).vals := by
  intro l
  induction l with
  | nil => intro k hk; simp at hk
  | cons o l ih =>
    intro k hk
    have h1 := o.vlen
    cases k with
    | zero =>
      simp only [tnsV, List.flatMap_cons, Nat.zero_mul, List.drop_zero, List.getD_cons_zero]
      rw [List.take_append_of_le_length (by omega), List.take_of_length_le (by omega)]
    | succ k =>
      have := ih k (by simpa using hk)
      simp only [tnsV, List.flatMap_cons, List.getD_cons_succ] at this ⊢
      rw [← this, List.drop_append, h1, List.drop_of_length_le (by omega), List.nil_append]
      congr 2
      omega
theorem tnsV_set : ∀ (l : List Tn) (o : Tn) (k : Nat), k < l.length → tnsV (l.set k o) = (tnsV l).take (k * 11) ++ o.vals ++ (tnsV l).drop (k * 11 + 11) := by
  intro l o
  induction l with
  | nil => intro k hk; simp at hk
  | cons x l ih =>
    intro k hk
    have h1 := x.vlen
    cases k with
    | zero =>
      simp only [List.set_cons_zero, tnsV, List.flatMap_cons, Nat.zero_mul, List.take_zero, List.nil_append, Nat.zero_add]
      rw [List.drop_append, List.drop_of_length_le (by omega), h1]
      simp
    | succ k =>
      have := ih k (by simpa using hk)
      simp only [List.set_cons_succ, tnsV, List.flatMap_cons] at this ⊢
      rw [this, List.take_append, List.drop_append, h1, List.take_of_length_le (show x.vals.length ≤ (k + 1) * 11 by omega), List.drop_of_length_le (show x.vals.length ≤ (k + 1) * 11 + 11 by omega)]
      rw [show (k + 1) * 11 - 11 = k * 11 by omega, show (k + 1) * 11 + 11 - 11 = k * 11 + 11 by omega]
      simp
theorem tn_info : (Try.prog.info? 86).map (·.size) = some 11 := by kernel_rfl
theorem tn_infop : (Try.prog.info? 86).map (fun i => (i.zero, i.size, i.bytes)) = some (some (.agg tn0.vals.toArray), 11, 120) := by kernel_rfl
theorem tn_zero (w : World) : (zeroValue 86).run Try.prog w = .ok (.agg tn0.vals.toArray) w := by kernel_rfl
/-- A row of elements as a value. -/
def TnV (w : World) (v : Value) (l : List Tn) : Prop :=
  (v = .slice none 0 0 ∧ l = []) ∨ ∃ g o c, v = .slice (some ⟨g, o, none⟩) l.length c ∧ l.length ≤ c ∧ (0 < l.length → g < w.heap.size) ∧ ∀ k, k < l.length → w.rangeAt g (o + k * 11) (l.getD k tn0).vals
theorem TnV.turn {w w' : World} {v : Value} {l : List Tn} {G : Nat → Prop} (h : TnV w v l) (t : Turn G w w') (hn : ∀ q, v.ownBlock = some q → ¬ G q) : TnV w' v l := by
  rcases h with ⟨h1, h2⟩ | ⟨g, o, c, h1, h2, h3, h4⟩
  · exact .inl ⟨h1, h2⟩
  · exact .inr ⟨g, o, c, h1, h2, fun h0 => Nat.lt_of_lt_of_le (h3 h0) t.size, fun k hk => rangeAt_turn (h4 k hk) t (hn g (by rw [h1]; rfl))⟩
theorem TnV.form {w : World} {v : Value} {l : List Tn} (h : TnV w v l) : ∃ a c, v = .slice a l.length c := by
  rcases h with ⟨h1, rfl⟩ | ⟨g, o, c, h1, _⟩
  · exact ⟨_, _, h1⟩
  · exact ⟨_, _, h1⟩
theorem TnV.one {w : World} {a : Option Addr} {n c : Nat} {l : List Tn} (h : TnV w (.slice a n c) l) (hn : l.length = n) (k : Nat) (hk : k < n) : ∃ g o, a = some ⟨g, o, none⟩ ∧ n ≤ c ∧ w.rangeAt g (o + k * 11) (l.getD k tn0).vals := by
  subst hn
  rcases h with ⟨h1, rfl⟩ | ⟨g, o, c', h1, h2, h3, h4⟩
  · simp at hk
  · injection h1 with q1 q2 q3
    exact ⟨g, o, q1, by omega, h4 k hk⟩
theorem own_cells_tn {w : World} {g : Nat} {l : List Tn} {ex : List Value} (h : w.heap[g]? = some (.cells (tnsV l ++ ex).toArray 86 (0, 0))) (k : Nat) (hk : k < l.length) : w.rangeAt g (0 + k * 11) (l.getD k tn0).vals := fun j v hj => by
  have hv := tnsV_len l
  rw [cell_of_row w g _ _ 86 (0, 0) h]
  rw [← tnsV_part l k hk, List.getElem?_take] at hj
  split at hj
  · rename_i h34
    rw [List.getElem?_drop] at hj
    have hl := (List.getElem?_eq_some_iff.1 hj).1
    simp only [List.getElem?_toArray]
    rw [List.getElem?_append_left (by omega), Nat.zero_add]
    exact hj
  · cases hj
theorem own_tnV {w : World} {base : Nat} {v : Value} {l : List Tn} (h : w.ownsRow base 86 11 v l.length (tnsV l)) : TnV w v l := by
  rcases h.2 with ⟨rfl, h0⟩ | ⟨g, cap, cur, rfl, _, hg, hnc, _, hcs, ht⟩
  · exact .inl ⟨rfl, List.eq_nil_of_length_eq_zero h0⟩
  · have hg' : w.heap[g]? = some (.cells (tnsV l ++ cur.toList.drop (l.length * 11)).toArray 86 (0, 0)) := by rw [hg, ← ht, List.take_append_drop]
    exact .inr ⟨g, 0, cap, rfl, hnc, fun _ => (Array.getElem?_eq_some_iff.1 hg').1, fun k hk => own_cells_tn hg' k hk⟩
theorem TnV.cells {w : World} {x : Addr} {n c : Nat} {l : List Tn} (h : TnV w (.slice (some x) n c) l) (hn : l.length = n) : ∀ j u, (tnsV l)[j]? = some u → w.cell? (x.add j) = some u := fun j u hj => by
  have hl := tnsV_len l
  have hjl := (List.getElem?_eq_some_iff.1 hj).1
  have hk : j / 11 < l.length := by omega
  obtain ⟨g, o, h1, _, h4⟩ := h.one hn (j / 11) (by omega)
  injection h1 with q1
  subst q1
  have h5 := h4 (j % 11) u (by
    rw [← tnsV_part l (j / 11) hk, List.getElem?_take, if_pos (by omega), List.getElem?_drop, show j / 11 * 11 + j % 11 = j by omega]
    exact hj)
  rw [Addr.add_mid]
  rwa [show o + j / 11 * 11 + j % 11 = o + j by omega] at h5
/-- append(v, u...) of elements, where v is the call's own. -/
theorem app_tns (w : World) (base : Nat) (t ty : TypeId) (ht : Try.prog.underlying t = some (.slice 86)) (v u : Value) (l1 l2 : List Tn) (ho : w.ownsRow base 86 11 v l1.length (tnsV l1)) (hu : TnV w u l2) (hb : base ≤ w.heap.size) (hl : l1.length + l2.length ≤ 1000000) :
    ∃ v' w', (Builtin.append_ #[t, t] ty #[v, u]).run Try.prog w = .ok v' w' ∧ w'.ownsRow base 86 11 v' (l1 ++ l2).length (tnsV (l1 ++ l2)) ∧ Turn (fun q => v.ownBlock = some q) w w' := by
  obtain ⟨i0, hi, hz0, hz1, hz2⟩ := info_parts tn_infop
  have hlen : (l1 ++ l2).length = l1.length + l2.length := by simp
  rcases hu with ⟨rfl, rfl⟩ | hq
  · refine ⟨v, w, ?_, by simpa using ho, Turn.refl _ _⟩
    rcases ho.2 with ⟨rfl, h0⟩ | ⟨g, cap, cur, rfl, _, _, hnc, _⟩
    · simp [Builtin.append_, run_underlying ht, sizeOf, typeInfo, hi, Builtin.lenOf, Builtin.firstCells, h0]
    · simp [Builtin.append_, run_underlying ht, sizeOf, typeInfo, hi, Builtin.lenOf, Builtin.firstCells, hnc, storeCells]
  · have hu : TnV w u l2 := .inr hq
    obtain ⟨g, o, c, rfl, hc, _, h4⟩ := hq
    obtain ⟨v', w', hr, q1, q2, q3⟩ := run_append_own (P := Try.prog) w base t ty 86 i0 _ 11 120 ht hi hz0 hz1 hz2 (by rfl) (by decide) v l1.length _ ho ⟨g, o, none⟩ l2.length c (tnsV l2) (by rw [tnsV_len]; omega) (hu.cells rfl) (tnsV_one l2) (by unfold maxLen; omega) (by omega) hb
    refine ⟨v', w', hr, by rw [hlen, tnsV_app]; exact q1, (Turn.refl (fun q => v.ownBlock = some q) w).grown q2 (fun k h _ => h)⟩
theorem own_slice_tn {w : World} {base : Nat} {v : Value} {n : Nat} {xs : List Value} (h : w.ownsRow base 86 11 v n xs) : ∃ a c, v = .slice a n c := by
  rcases h.2 with ⟨rfl, rfl⟩ | ⟨g, cap', _, rfl, _⟩
  · exact ⟨_, _, rfl⟩
  · exact ⟨_, _, rfl⟩
/-- What turns only one's own row turns nothing old. -/
theorem turn_on_tn {w0 w w' : World} {base : Nat} {v : Value} {n : Nat} {xs : List Value} (h : w.ownsRow base 86 11 v n xs) (hb : w0.heap.size ≤ base) (t : Turn (fun _ => False) w0 w) (t' : Turn (fun q => v.ownBlock = some q) w w') : Turn (fun _ => False) w0 w' :=
  t.trans t' (fun i hi hv => by have := (h.lt i hv).1; omega)
theorem build_one_tn (t : TypeId) (ht : Try.prog.underlying t = some (.slice 86)) (r : Tn) (w : World) : (Instr.buildSlice t 1 #[(0, .agg r.vals.toArray)]).run Try.prog w = .ok (.slice (some ⟨w.heap.size, 0, none⟩) 1 1) (w.alloc (.cells r.vals.toArray 86)) := by
  obtain ⟨i0, hi, hz0, hz1, hz2⟩ := info_parts tn_infop
  refine run_buildSlice (P := Try.prog) w t 86 1 _ _ i0 _ ht hi hz0 (by rw [hz1]; decide) (by rw [hz1]; decide) ?_
  rw [hz1]
  exact fill_one 11 _ _ (by simp [Tn.vlen]) (by simp [tn0, Tn.vlen, Tn.vals, Tn.vlen])
theorem exec_build_one_tn (ev : Operand → Value) (op : Oper) (y : Operand) (t : TypeId) (ht : Try.prog.underlying t = some (.slice 86)) (ho : op.op = .buildSlice t 1 #[(0, y)]) (r : Tn) (hy : ev y = .agg r.vals.toArray) (w : World) : (execOp ev op).run Try.prog w = .ok (.value (.slice (some ⟨w.heap.size, 0, none⟩) 1 1)) (w.alloc (.cells r.vals.toArray 86)) := by
  unfold execOp
  simp only [ho, List.map_toArray, List.map_cons, List.map_nil, hy, Sem.run_bind, Sem.run_pure, build_one_tn t ht r, Result.andThen_ok]
theorem one_tnV {w : World} (r : Tn) : TnV (w.alloc (.cells r.vals.toArray 86)) (.slice (some ⟨w.heap.size, 0, none⟩) 1 1) [r] := by
  have hb := box_alloc w 86 r.vals
  refine .inr ⟨w.heap.size, 0, 1, rfl, Nat.le_refl _, fun _ => by rw [hb.size]; omega, fun k hk => ?_⟩
  obtain rfl : k = 0 := by simpa using hk
  simpa using hb.range
/-- out = append(out, e): all in one. -/
theorem app_one_tn (w : World) (base : Nat) (t ty : TypeId) (ht : Try.prog.underlying t = some (.slice 86)) (v : Value) (l1 : List Tn) (r : Tn) (ho : w.ownsRow base 86 11 v l1.length (tnsV l1)) (hb : base ≤ w.heap.size) (hl : l1.length + 1 ≤ 1000000) :
    ∃ v' w', (Builtin.append_ #[t, t] ty #[v, .slice (some ⟨w.heap.size, 0, none⟩) 1 1]).run Try.prog (w.alloc (.cells r.vals.toArray 86)) = .ok v' w' ∧ w'.ownsRow base 86 11 v' (l1 ++ [r]).length (tnsV (l1 ++ [r])) ∧ Turn (fun q => v.ownBlock = some q) w w' ∧ ∃ a c, v' = .slice a (l1.length + 1) c := by
  have tb := (box_alloc w 86 r.vals).turn
  obtain ⟨v', w', hr, h1, h2⟩ := app_tns _ base t ty ht v _ l1 [r] (tb.owns ho (fun _ _ => id)) (one_tnV (w := w) r) (Nat.le_trans hb tb.size) (by simpa using hl)
  refine ⟨v', w', hr, h1, (tb.mono (fun _ _ h => h.elim)).trans h2 (fun _ _ h => h), ?_⟩
  simpa using own_slice_tn h1
theorem getD_ext_tn {a b : List Tn} (hl : a.length = b.length) (h : ∀ k, k < a.length → a.getD k tn0 = b.getD k tn0) : a = b := by
  apply List.ext_getElem hl
  intro i h1 h2
  have := h i h1
  simpa [List.getD, h1, h2] using this
theorem getD_mem_tn {l : List Tn} {k : Nat} (h : k < l.length) : l.getD k tn0 ∈ l := by
  have : l.getD k tn0 = l[k] := by simp [List.getD, h]
  rw [this]
  exact List.getElem_mem _
theorem take_snoc_tn (l : List Tn) (k : Nat) (h : k < l.length) : l.take (k + 1) = l.take k ++ [l.getD k tn0] := by
  rw [List.take_succ_eq_append_getElem h]
  simp [List.getD, h]
theorem tnE {w : World} {B o : Nat} {x : Tn} (h : w.rangeAt B o x.vals) : w.rangeAt B o x.e.vals := fun j v hj => h j v (by unfold Tn.vals; rw [List.getElem?_append_left (List.getElem?_eq_some_iff.1 hj).1]; exact hj)
theorem tnR {w : World} {B o : Nat} {x : Tn} (h : w.rangeAt B o x.vals) : w.cell? ⟨B, o + 10, none⟩ = some (.int .i64 (x.r : Int)) := h 10 _ rfl
theorem tnI {w : World} {B o : Nat} {x : Tn} (h : w.rangeAt B o x.vals) : w.cell? ⟨B, o, none⟩ = some (.int .i64 x.e.id) := h 0 _ rfl

end Go.Proofs.Ytkciaafkhpjnaaa
namespace Go.Proofs.Ytkciaafkhpjnaaa
set_option maxRecDepth 100000
open Go.RowKit
set_option linter.unusedVariables false
set_option linter.unusedSimpArgs false

theorem elsV_single (x : El) : elsV [x] = x.vals := by simp [elsV]
theorem edsV_single (x : Ed) : edsV [x] = x.vals := by simp [edsV]
theorem made_els (k : Nat) : madeCells (Value.agg el0.vals.toArray).cells (k * 10) = (elsV (List.replicate k el0)).toArray := by
  have h : ∀ k : Nat, (List.range (k * 10)).map (fun i => el0.vals.toArray[i % 10]!) = elsV (List.replicate k el0) := by
    intro k
    induction k with
    | zero => rfl
    | succ k ih =>
      rw [Nat.succ_mul, List.range_add, List.map_append, ih, List.replicate_succ', elsV_app, elsV_single]
      congr 1
      rw [List.map_map]
      have e : ((fun i => el0.vals.toArray[i % 10]!) ∘ fun x => k * 10 + x) = fun i => el0.vals.toArray[i % 10]! := by
        funext j
        simp only [Function.comp]
        rw [show (k * 10 + j) % 10 = j % 10 by omega]
      rw [e]
      rfl
  apply Array.ext'
  unfold madeCells
  simp only [Array.toList_map, Array.toList_range]
  exact h k
theorem run_make_els (k : Int) (hk : 0 ≤ k ∧ k ≤ 1000) (w : World) : (Instr.makeSlice 25 (.int .i64 k) (.int .i64 k)).run Try.prog w = .ok (.slice (some ⟨w.heap.size, 0, none⟩) k.toNat k.toNat) (w.alloc (.cells (elsV (List.replicate k.toNat el0)).toArray 38)) := by
  obtain ⟨i0, hi, hz0, hz1, hz2⟩ := info_parts el_infop
  have h := run_make (P := Try.prog) w 25 38 i0 _ Try.underlying25 hi hz0 .i64 .i64 k k hk.1 (Int.le_refl _) (by rw [hz2]; omega) (by omega)
  rw [h, hz1, made_els]
theorem row_put {ops : Array Oper} {Q : Exit → Act → World → Prop} {a : Act} {o : Oper} {rest : List Oper} (w : World) (R k : Nat) (C : List El) (E : El) (hh : w.heap[R]? = some (.cells (elsV C).toArray 38 (0, 0))) (hk : k < C.length)
    (hgd : o.guard = none) (x y : Operand) (ho : o.op = .store 38 x y) (hx : a.eval x = .pointer (some ⟨R, k * 10, none⟩)) (hy : a.eval y = .agg E.vals.toArray)
    (h : ∀ w', w'.heap[R]? = some (.cells (elsV (C.set k E)).toArray 38 (0, 0)) → Turn (fun q => q = R) w w' → wpList Try.prog ops Q rest (a.put o.dst undef) w') : wpList Try.prog ops Q (o :: rest) a w := by
  have hl := elsV_len C
  refine wpList_store_mid hgd 38 x y ho R (k * 10) E.vals.toArray hx hy ?_ (by rw [el_info]; rfl) (all_oneCell_toArray E.vals_one) (h _ ?_ (turn_setCells R E.vals (k * 10) w))
  · intro j hj
    have hj2 : j < 10 := hj
    refine ⟨?_, frozen_of_row w R _ _ 38 hh⟩
    rw [cell_of_row w R _ _ 38 (0, 0) hh]
    simp
    omega
  · have := heap_setCells R 38 E.vals (k * 10) w _ hh (by rw [E.vlen]; omega)
    rw [this, elsV_set C E k hk]
    rfl
theorem made_eds (k : Nat) : madeCells (Value.agg ed0.vals.toArray).cells (k * 16) = (edsV (List.replicate k ed0)).toArray := by
  have h : ∀ k : Nat, (List.range (k * 16)).map (fun i => ed0.vals.toArray[i % 16]!) = edsV (List.replicate k ed0) := by
    intro k
    induction k with
    | zero => rfl
    | succ k ih =>
      rw [Nat.succ_mul, List.range_add, List.map_append, ih, List.replicate_succ', edsV_app, edsV_single]
      congr 1
      rw [List.map_map]
      have e : ((fun i => ed0.vals.toArray[i % 16]!) ∘ fun x => k * 16 + x) = fun i => ed0.vals.toArray[i % 16]! := by
        funext j
        simp only [Function.comp]
        rw [show (k * 16 + j) % 16 = j % 16 by omega]
      rw [e]
      rfl
  apply Array.ext'
  unfold madeCells
  simp only [Array.toList_map, Array.toList_range]
  exact h k
theorem run_make_eds (k : Int) (hk : 0 ≤ k ∧ k ≤ 1000) (w : World) : (Instr.makeSlice 28 (.int .i64 k) (.int .i64 k)).run Try.prog w = .ok (.slice (some ⟨w.heap.size, 0, none⟩) k.toNat k.toNat) (w.alloc (.cells (edsV (List.replicate k.toNat ed0)).toArray 53)) := by
  obtain ⟨i0, hi, hz0, hz1, hz2⟩ := info_parts ed_infop
  have h := run_make (P := Try.prog) w 28 53 i0 _ Try.underlying28 hi hz0 .i64 .i64 k k hk.1 (Int.le_refl _) (by rw [hz2]; omega) (by omega)
  rw [h, hz1, made_eds]
theorem ed_put {ops : Array Oper} {Q : Exit → Act → World → Prop} {a : Act} {o : Oper} {rest : List Oper} (w : World) (R k : Nat) (C : List Ed) (E : Ed) (hh : w.heap[R]? = some (.cells (edsV C).toArray 53 (0, 0))) (hk : k < C.length)
    (hgd : o.guard = none) (x y : Operand) (ho : o.op = .store 53 x y) (hx : a.eval x = .pointer (some ⟨R, k * 16, none⟩)) (hy : a.eval y = .agg E.vals.toArray)
    (h : ∀ w', w'.heap[R]? = some (.cells (edsV (C.set k E)).toArray 53 (0, 0)) → Turn (fun q => q = R) w w' → wpList Try.prog ops Q rest (a.put o.dst undef) w') : wpList Try.prog ops Q (o :: rest) a w := by
  have hl := edsV_len C
  refine wpList_store_mid hgd 53 x y ho R (k * 16) E.vals.toArray hx hy ?_ (by rw [ed_info]; rfl) (all_oneCell_toArray E.vals_one) (h _ ?_ (turn_setCells R E.vals (k * 16) w))
  · intro j hj
    have hj2 : j < 16 := hj
    refine ⟨?_, frozen_of_row w R _ _ 53 hh⟩
    rw [cell_of_row w R _ _ 53 (0, 0) hh]
    simp
    omega
  · have := heap_setCells R 53 E.vals (k * 16) w _ hh (by rw [E.vlen]; omega)
    rw [this, edsV_set C E k hk]
    rfl
theorem exec_make_els (ev : Operand → Value) (op : Oper) (x : Operand) (ho : op.op = .makeSlice 25 x x) (n : Nat) (hn : n ≤ 1000) (hx : ev x = .int .i64 (n : Int)) (w : World) : (execOp ev op).run Try.prog w = .ok (.value (.slice (some ⟨w.heap.size, 0, none⟩) n n)) (w.alloc (.cells (elsV (List.replicate n el0)).toArray 38)) := by
  have h := run_make_els (n : Int) (by omega) w
  rw [Int.toNat_natCast] at h
  unfold execOp
  simp only [ho, hx, Sem.run_bind, h, Result.andThen_ok]
  rfl
theorem exec_make_eds (ev : Operand → Value) (op : Oper) (x : Operand) (ho : op.op = .makeSlice 28 x x) (n : Nat) (hn : n ≤ 1000) (hx : ev x = .int .i64 (n : Int)) (w : World) : (execOp ev op).run Try.prog w = .ok (.value (.slice (some ⟨w.heap.size, 0, none⟩) n n)) (w.alloc (.cells (edsV (List.replicate n ed0)).toArray 53)) := by
  have h := run_make_eds (n : Int) (by omega) w
  rw [Int.toNat_natCast] at h
  unfold execOp
  simp only [ho, hx, Sem.run_bind, h, Result.andThen_ok]
  rfl
/-- A row of its own, all of it. -/
theorem own_all {w : World} {base R n : Nat} {l : List El} (h : w.heap[R]? = some (.cells (elsV l).toArray 38 (0, 0))) (hb : base ≤ R) (hn : l.length = n) (hm : n ≤ 1000000) : w.ownsRow base 38 10 (.slice (some ⟨R, 0, none⟩) n n) n (elsV l) :=
  ⟨by rw [elsV_len, hn]; omega, .inr ⟨R, n, _, rfl, hb, h, Nat.le_refl _, by unfold maxLen; omega, by rw [List.size_toArray, elsV_len, hn]; omega, by rw [List.take_of_length_le (by rw [elsV_len, hn]; omega)]⟩⟩
theorem own_all_ed {w : World} {base R n : Nat} {l : List Ed} (h : w.heap[R]? = some (.cells (edsV l).toArray 53 (0, 0))) (hb : base ≤ R) (hn : l.length = n) (hm : n ≤ 1000000) : w.ownsRow base 53 16 (.slice (some ⟨R, 0, none⟩) n n) n (edsV l) :=
  ⟨by rw [edsV_len, hn]; omega, .inr ⟨R, n, _, rfl, hb, h, Nat.le_refl _, by unfold maxLen; omega, by rw [List.size_toArray, edsV_len, hn]; omega, by rw [List.take_of_length_le (by rw [edsV_len, hn]; omega)]⟩⟩
/-- A row that is being filled. -/
def fillE {α β : Type} (f : α → β) (z : β) (l : List α) (k n : Nat) : List β := (l.take k).map f ++ List.replicate (n - k) z
theorem fillE_len {α β : Type} (f : α → β) (z : β) (l : List α) (k n : Nat) (hk : k ≤ n) (hn : l.length = n) : (fillE f z l k n).length = n := by
  unfold fillE; rw [List.length_append, List.length_map, List.length_take, List.length_replicate]; omega
theorem fillE_set {α β : Type} (f : α → β) (z : β) (l : List α) (k n : Nat) (d : α) (hk : k < n) (hn : l.length = n) : (fillE f z l k n).set k (f (l.getD k d)) = fillE f z l (k + 1) n := by
  unfold fillE
  have h1 : ((l.take k).map f).length = k := by rw [List.length_map, List.length_take]; omega
  rw [List.set_append_right _ _ (by omega), h1, Nat.sub_self, show n - k = (n - (k + 1)) + 1 by omega, List.replicate_succ, List.set_cons_zero]
  rw [List.take_succ_eq_append_getElem (by omega), List.map_append, List.append_assoc]
  congr 2
  simp [List.getD, show k < l.length by omega]
theorem fillE_full {α β : Type} (f : α → β) (z : β) (l : List α) (n : Nat) (hn : l.length = n) : fillE f z l n n = l.map f := by
  unfold fillE; rw [Nat.sub_self, List.replicate_zero, List.append_nil, List.take_of_length_le (by omega)]
theorem fillE_none {α β : Type} (f : α → β) (z : β) (l : List α) (n : Nat) : fillE f z l 0 n = List.replicate n z := by
  unfold fillE; simp

end Go.Proofs.Ytkciaafkhpjnaaa
namespace Go.Proofs.Ytkciaafkhpjnaaa
set_option maxRecDepth 100000
open Go.RowKit
set_option linter.unusedVariables false
set_option linter.unusedSimpArgs false

def wholeE (n : Int) (e : El) : Ed := ⟨n, e, 0, 0, e0, 0, e0⟩
theorem whole_add : wholeE 1 = addD := rfl
theorem whole_drop : wholeE 2 = dropD := rfl
set_option maxHeartbeats 8000000 in
theorem whole_any (w : World) (op : Int) (vc : Value) (c : List El) (hc : RowV w vc c) (hl : c.length ≤ 1000) : Calls Try.prog 30 #[.int .u8 op, vc] w (NewEds w (c.map (wholeE op))) := by
  obtain ⟨la, lc, rfl⟩ := hc.form
  obtain ⟨n, hn⟩ : ∃ n, c.length = n := ⟨_, rfl⟩
  simp only [hn] at hc hl ⊢
  have HC := Lib.hid hc
  have HN := Lib.hid hn
  have hn1 : n ≤ 1000 := hl
  clear hc hn hl
  obtain ⟨R, hR⟩ : ∃ R, w.heap.size = R := ⟨_, rfl⟩
  obtain ⟨w3, hw3⟩ : ∃ w3, w.alloc (.cells (edsV (List.replicate n ed0)).toArray 53) = w3 := ⟨_, rfl⟩
  have hbx := box_alloc w 53 (edsV (List.replicate n ed0))
  have hx : ∀ ev op x, op.op = .makeSlice 28 x x → ev x = .int .i64 (n : Int) → (execOp ev op).run Try.prog w = .ok (.value (.slice (some ⟨R, 0, none⟩) n n)) w3 := fun ev op x ho h => by rw [← hw3, ← hR]; exact exec_make_eds ev op x ho n (by omega) h w
  rw [hw3] at hbx
  have hh := hbx.heap
  rw [hR] at hh
  have HXM := Lib.hid hx
  have T3 := Lib.hid hbx.turn
  have HH := Lib.hid hh
  have HRS := Lib.hid hR
  clear hx hbx hh hw3 hR
  go_enter Try.func30, Try.ntmps30
  go_wp2_with (with_reducible (show wpList _ _ _ (Oper.mk (some 10) (.makeSlice 28 _ _) _ _ _ _ :: _) _ _); refine still ?_)
  refine list_exec rfl _ _ (HXM.out _ _ (.tmp 9) rfl rfl) ?_
  go_wp2_with fail
  go_loopw [13] (fun iv wr => ∃ k : Nat, k ≤ n ∧ iv = .int .i64 (k : Int) ∧ wr.heap[R]? = some (.cells (edsV (fillE (wholeE op) ed0 c k n)).toArray 53 (0, 0)) ∧ Turn (fun _ => False) w wr) (fun iv _ => n - (intOf iv).toNat)
  case atStart => exact ⟨0, Nat.zero_le _, rfl, by rw [fillE_none]; exact HH.out, T3.out⟩
  case round =>
    obtain ⟨k, hkn, rfl, hh, ht⟩ := hrel
    have HHK := Lib.hid hh
    have HTK := Lib.hid ht
    clear hh ht
    by_cases hlt : k < n
    · have gi : (0 : Int) ≤ (k : Int) ∧ (k : Int) < (n : Int) := by omega
      have dk : decide ((k : Int) < (n : Int)) = true := decide_eq_true (by omega)
      obtain ⟨g, o, rfl, hcc, hs⟩ := (HC.out.turn HTK.out (fun _ _ => id)).one HN.out k hlt
      obtain ⟨x, hx⟩ : ∃ x, c.getD k el0 = x := ⟨_, rfl⟩
      rw [hx] at hs
      have HXE := Lib.hid hx
      have HS := Lib.hid hs
      clear hx hs hcc
      have hbb := box_alloc wr 38 el0.vals
      obtain ⟨X, hE⟩ : ∃ X, wr.heap.size = X := ⟨_, rfl⟩
      obtain ⟨wz, hwz⟩ : ∃ wz, wr.alloc (.cells el0.vals.toArray 38) = wz := ⟨_, rfl⟩
      have hx0 : ∀ ev op, op.op = .alloc 38 → (execOp ev op).run Try.prog wr = .ok (.value (.pointer (some ⟨X, 0, none⟩))) wz := fun ev op ho => by rw [← hwz, ← hE]; exact exec_zero24 ev op ho _
      rw [hwz] at hbb
      have hhh := hbb.heap
      rw [hE] at hhh
      have HX0 := Lib.hid hx0
      have HBB := Lib.hid hbb.turn
      have HHB := Lib.hid hhh
      have HEE := Lib.hid hE
      clear hbb hE hwz hx0 hhh
      go_wp2_with (with_reducible (show wpList _ _ _ (Oper.mk (some 17) (.load 38 (.tmp 16)) _ _ _ _ :: _) _ _); refine still ?_)
      refine wpList_load_mid rfl 38 (.tmp 16) rfl g (o + k * 10) rfl x.vals _ HS.out Try.underlying38 rfl el_info ?_
      go_wp2_with (with_reducible (show wpList _ _ _ (Oper.mk (some 7) (.alloc 38) _ _ _ _ :: _) _ _); refine still ?_)
      refine list_exec rfl _ _ (HX0.out _ _ rfl) ?_
      go_wp2_with (with_reducible (show wpList _ _ _ (Oper.mk none (.store 38 (.tmp 7) (.tmp 17)) _ _ _ _ :: _) _ _); refine still ?_)
      refine list_put wz X 38 el0.vals x.vals HHB.out rfl x.vals_one el_info rfl (.tmp 7) (.tmp 17) rfl rfl rfl (fun wa h2 t2 => ?_)
      have HX := Lib.hid h2
      have Twa := Lib.hid (show Turn (fun _ => False) wr wa from HBB.out.trans t2 (fun q hq e => by have := HEE.out; omega))
      have LX := Lib.hid (show wr.heap.size = X from HEE.out)
      clear h2 t2 HX0 HBB HHB HEE
      have HR4 := Lib.hid ((Twa.out.block R (Array.getElem?_eq_some_iff.1 HHK.out).1 id).trans HHK.out)
      have HST2 := Lib.hid (fillE_set (wholeE op) ed0 c k n el0 hlt HN.out)
      rw [HXE.out] at HST2
      go_wp2_with (with_reducible (show wpList _ _ _ (Oper.mk (some 21) (.load 38 (.tmp 7)) _ _ _ _ :: _) _ _); refine still ?_)
      refine wpList_load_mid rfl 38 (.tmp 7) rfl X 0 rfl x.vals _ (range_of HX.out) Try.underlying38 rfl el_info ?_
      go_wp2_with (with_reducible (show wpList _ _ _ (Oper.mk (some 22) (.build 53 _) _ _ _ _ :: _) _ _); refine still ?_)
      refine list_exec rfl _ _ (exec_edB _ _ _ _ op x rfl rfl rfl _) ?_
      go_wp2_with (with_reducible (show wpList _ _ _ (Oper.mk none (.store 53 (.tmp 23) (.tmp 22)) _ _ _ _ :: _) _ _); refine still ?_)
      refine ed_put wa R k (fillE (wholeE op) ed0 c k n) (wholeE op x) HR4.out (by rw [fillE_len _ _ _ _ _ (by omega) HN.out]; exact hlt) rfl (.tmp 23) (.tmp 22) rfl rfl rfl (fun w5 h5 t5 => ?_)
      rw [HST2.out] at h5
      have H5 := Lib.hid h5
      have T5 := Lib.hid ((HTK.out.trans Twa.out (fun _ _ => id)).trans t5 (fun q hq e => by have := HRS.out; omega))
      clear h5 t5
      go_wp2_with fail
      go_roundw
      case rel => exact ⟨k + 1, by omega, by go_num, H5.out, T5.out⟩
      case measure => simp [intOf]; omega
    · have hke : k = n := by omega
      subst hke
      have HF := Lib.hid (show wr.heap[R]? = some (.cells (edsV (c.map (wholeE op))).toArray 53 (0, 0)) by have := HHK.out; rw [fillE_full _ _ _ _ HN.out] at this; exact this)
      have HLE := Lib.hid (show (c.map (wholeE op)).length = k by rw [List.length_map]; exact HN.out)
      go_wp2_with fail
      go_ret
      refine ⟨_, rfl, ?_, HTK.out⟩
      unfold OwE
      rw [HLE.out]
      exact own_all_ed HF.out (Nat.le_of_eq HRS.out) HLE.out (by omega)

end Go.Proofs.Ytkciaafkhpjnaaa
namespace Go.Proofs.Ytkciaafkhpjnaaa
set_option maxRecDepth 100000
open Go.RowKit
set_option linter.unusedVariables false
set_option linter.unusedSimpArgs false

theorem rfind2 (w : World) (v : Value) (l : List El) (nr : Int) (hv : RowV w v l) (hr : Rises l) (hb : l.length ≤ 1000) : Calls Try.prog 20 #[v, .int .i64 nr] w fun e w' => w = w' ∧ ∃ i : Int, e = .returned (.int .i64 i) ∧ ((∃ k : Nat, k < l.length ∧ i = (k : Int) ∧ getE l nr = some (l.getD k el0)) ∨ (i = -1 ∧ getE l nr = none)) := by
  refine (rfind_any w v l nr hv hb).mono ?_
  rintro e w' ⟨h | h, rfl⟩
  · obtain ⟨k, hk, hid, _, rfl⟩ := h
    exact ⟨rfl, _, rfl, .inl ⟨k, hk, rfl, (getE_iff hr).2 ⟨getD_mem hk, hid⟩⟩⟩
  · obtain ⟨hn, rfl⟩ := h
    refine ⟨rfl, _, rfl, .inr ⟨rfl, getE_none.2 fun x hx => ?_⟩⟩
    obtain ⟨k, hk, rfl⟩ := List.getElem_of_mem hx
    have := hn k hk
    simpa [List.getD, hk] using this
end Go.Proofs.Ytkciaafkhpjnaaa
namespace Go.Proofs.Ytkciaafkhpjnaaa
set_option maxRecDepth 100000
open Go.RowKit
set_option linter.unusedVariables false
set_option linter.unusedSimpArgs false

theorem stands_any (w : World) (v : Value) (l : List El) (nr : Int) (hv : RowV w v l) (hr : Rises l) (hb : l.length ≤ 1000) : Calls Try.prog 65 #[v, .int .i64 nr] w fun e w' => e = .returned (.bool (!lacksB l nr)) ∧ Turn (fun _ => False) w w' := by
  have HV := Lib.hid hv
  have HR := Lib.hid hr
  clear hv hr
  go_enter Try.func65, Try.ntmps65
  go_wp2_with fail
  refine (find2 w v l nr HV.out HR.out hb).mono ?_
  rintro r w1 ⟨o, b, rfl, hc, t1⟩
  have T1 := Lib.hid t1
  have HC := Lib.hid hc
  clear t1 hc
  obtain ⟨B, hB⟩ : ∃ Z, w1.heap.size = Z := ⟨_, rfl⟩
  obtain ⟨wz, hwz⟩ : ∃ wz, w1.alloc (.cells el0.vals.toArray 38) = wz := ⟨_, rfl⟩
  have hx0 : ∀ ev op, op.op = .alloc 38 → (execOp ev op).run Try.prog w1 = .ok (.value (.pointer (some ⟨B, 0, none⟩))) wz := fun ev op ho => by rw [← hwz, ← hB]; exact exec_zero24 ev op ho _
  have hb0 := box_alloc w1 38 el0.vals
  rw [hwz] at hb0
  have hh0 := hb0.heap
  rw [hB] at hh0
  have HXX0 := Lib.hid hx0
  have HB0 := Lib.hid hb0
  have HH0 := Lib.hid hh0
  have HE0 := Lib.hid hB
  clear hb0 hB hwz hx0 hh0
  go_wp2_with (with_reducible (show wpList _ _ _ (Oper.mk (some 5) (.alloc 38) _ _ _ _ :: _) _ _); refine still ?_)
  refine list_exec rfl _ _ (HXX0.out _ _ rfl) ?_
  go_wp2_with (with_reducible (show wpList _ _ _ (Oper.mk none (.store 38 (.tmp 5) (.tmp 11)) _ _ _ _ :: _) _ _); refine still ?_)
  refine list_put wz B 38 el0.vals o.vals HH0.out rfl o.vals_one el_info rfl (.tmp 5) (.tmp 11) rfl rfl rfl (fun w3 h3 t3 => ?_)
  have T3 := Lib.hid ((T1.out.trans HB0.out.turn (fun _ _ => id)).trans t3 (fun q hq e => by have := HE0.out; have := T1.out.size; omega))
  clear h3 t3
  have HL := Lib.hid (show lacksB l nr = (!decide (nr = 0) && !b) from by
    unfold lacksB hasB
    rcases HC.out with ⟨h1, h2⟩ | ⟨h1, h2, _⟩
    · rw [h1, h2]; simp
    · rw [h1, h2]; simp)
  by_cases h0 : nr = 0
  · have q0 : (nr == 0) = true := by simpa using h0
    have HZ := Lib.hid (show decide (nr = 0) = true from decide_eq_true h0)
    clear h0
    go_wp2_with fail
    go_ret
    exact ⟨by rw [HL.out, HZ.out]; rfl, T3.out⟩
  · have q0 : (nr == 0) = false := by simpa using h0
    have HZ := Lib.hid (show decide (nr = 0) = false from decide_eq_false h0)
    clear h0
    go_wp2_with fail
    go_ret
    exact ⟨by rw [HL.out, HZ.out]; cases b <;> rfl, T3.out⟩
def staleE (o : El) (x : Ed) : Bool := if x.op = 2 then !decide (o = x.e) else if x.op = 3 then !decide (getN o x.f = x.on ∧ getS o x.f = x.os) else false
set_option maxHeartbeats 4000000 in
theorem stale_any (o : El) (x : Ed) (hk : 0 ≤ o.kind ∧ o.kind ≤ 255) (w0 : World) : Calls Try.prog 51 #[.agg o.vals.toArray, .agg x.vals.toArray] w0 fun e w' => e = .returned (.bool (staleE o x)) ∧ Turn (fun _ => False) w0 w' := by
  have hby := box_alloc w0 38 o.vals
  obtain ⟨Y, hY⟩ : ∃ Y, w0.heap.size = Y := ⟨_, rfl⟩
  obtain ⟨w, hw⟩ : ∃ w, w0.alloc (.cells o.vals.toArray 38) = w := ⟨_, rfl⟩
  rw [hw] at hby
  have hyr := hby.range
  rw [hY] at hyr
  have hbx := box_alloc w 53 x.vals
  obtain ⟨X, hX⟩ : ∃ X, w.heap.size = X := ⟨_, rfl⟩
  obtain ⟨w1, hw1⟩ : ∃ w1, w.alloc (.cells x.vals.toArray 53) = w1 := ⟨_, rfl⟩
  rw [hw1] at hbx
  have hh := hbx.heap
  rw [hX] at hh
  have hr := hbx.range
  rw [hX] at hr
  obtain ⟨c0, c1, c3, c11, c12, c14⟩ := edC hr
  simp only [Nat.zero_add] at c0 c1 c3 c11 c12 c14
  have T1 := Lib.hid hbx.turn
  have HR := Lib.hid hr
  have HX := Lib.hid hh
  have HXS := Lib.hid hX
  have HSZ := Lib.hid hbx.size
  clear hbx hr hh
  clear HX HXS HSZ
  have HYR := Lib.hid (rangeAt_turn hyr T1.out id)
  have T0 := Lib.hid (hby.turn.trans T1.out (fun _ _ => id))
  clear hyr hby T1
  by_cases ho : x.op = 2
  · have HS := Lib.hid (show staleE o x = !decide (o = x.e) by unfold staleE; rw [if_pos ho])
    have q2 : (x.op == 2) = true := by rw [ho]; rfl
    clear ho
    go_enter Try.func51, Try.ntmps51
    go_wp2_with (with_reducible (show wpList _ _ _ (Oper.mk (some 9) (.load 38 (.tmp 2)) _ _ _ _ :: _) _ _); refine still ?_)
    refine wpList_load_mid rfl 38 (.tmp 2) rfl Y 0 rfl o.vals _ HYR.out Try.underlying38 rfl el_info ?_
    go_wp2_with (with_reducible (show wpList _ _ _ (Oper.mk (some 11) (.load 38 (.tmp 10)) _ _ _ _ :: _) _ _); refine still ?_)
    refine wpList_load_mid rfl 38 (.tmp 10) rfl X 1 rfl x.e.vals _ (by have := edE HR.out; rwa [Nat.zero_add] at this) Try.underlying38 rfl el_info ?_
    go_wp2_with (with_reducible (show wpList _ _ _ (Oper.mk (some 12) (_) _ _ _ _ :: _) _ _); refine still ?_)
    refine list_exec rfl _ _ (exec_neq_el _ _ rfl o x.e _ rfl rfl) ?_
    go_wp2_with fail
    go_ret
    exact ⟨by rw [HS.out]; rfl, T0.out⟩
  · by_cases h2 : x.op = 3
    · have ho := h2
      clear h2
      have HS := Lib.hid (show staleE o x = !decide (getN o x.f = x.on ∧ getS o x.f = x.os) by unfold staleE; rw [if_neg (by omega), if_pos ho])
      have q2 : (x.op == 2) = false := by rw [ho]; rfl
      have q3 : (x.op == 3) = true := by rw [ho]; rfl
      clear ho
      go_enter Try.func51, Try.ntmps51
      go_wp2_with fail
      refine wp_region_held_drew (S := fun wq => wq.rangeAt Y 0 o.vals ∧ wq.rangeAt X 0 x.vals) (by kernel_rfl) ⟨HYR.out, HR.out⟩ (fun hHeld => ?_)
      refine wpAnyH_take (i := 0) (v := .agg o.vals.toArray) rfl (by kernel_rfl) (by kernel_rfl) (by kernel_rfl) (fun _ _ _ h => h) (Or.inl ⟨by rfl, ?yq1⟩) (by assumption) ?rq1
      case yq1 => (intro wq hSw; exact exec_load_mid _ _ 38 (.tmp 2) rfl Y 0 rfl o.vals _ _ hSw.1 Try.underlying38 rfl el_info)
      case rq1 =>
      try simp only [Act.put, List.setIfInBounds_toArray, List.set_cons_zero, List.set_cons_succ, List.getElem_toArray, List.getElem_cons_zero, List.getElem_cons_succ]
      refine wpAnyH_take (i := 1) (v := .pointer (some ⟨X, 11, none⟩)) rfl (by kernel_rfl) (by kernel_rfl) (by kernel_rfl) (fun _ _ _ h => h) (Or.inl ⟨by rfl, ?yq2⟩) (by assumption) ?rq2
      case yq2 => (intro wq hSw; (try simp only [List.getElem_toArray, List.getElem_cons_zero, List.getElem_cons_succ]); go_simp; (try with_reducible rfl); all_goals (try omega))
      case rq2 =>
      try simp only [Act.put, List.setIfInBounds_toArray, List.set_cons_zero, List.set_cons_succ, List.getElem_toArray, List.getElem_cons_zero, List.getElem_cons_succ]
      refine wpAnyH_take (i := 2) (v := .int .i64 x.f) rfl (by kernel_rfl) (by kernel_rfl) (by kernel_rfl) (fun _ _ _ h => h) (Or.inl ⟨by rfl, ?yq3⟩) (by assumption) ?rq3
      case yq3 => (intro wq hSw; obtain ⟨_, _, _, z, _, _⟩ := edC hSw.2; simp only [Nat.zero_add] at z; (try simp only [List.getElem_toArray, List.getElem_cons_zero, List.getElem_cons_succ]); go_simp)
      case rq3 =>
      try simp only [Act.put, List.setIfInBounds_toArray, List.set_cons_zero, List.set_cons_succ, List.getElem_toArray, List.getElem_cons_zero, List.getElem_cons_succ]
      refine wpAnyH_take (i := 4) (v := .pointer (some ⟨X, 12, none⟩)) rfl (by kernel_rfl) (by kernel_rfl) (by kernel_rfl) (fun _ _ _ h => h) (Or.inl ⟨by rfl, ?yq4⟩) (by assumption) ?rq4
      case yq4 => (intro wq hSw; (try simp only [List.getElem_toArray, List.getElem_cons_zero, List.getElem_cons_succ]); go_simp; (try with_reducible rfl); all_goals (try omega))
      case rq4 =>
      try simp only [Act.put, List.setIfInBounds_toArray, List.set_cons_zero, List.set_cons_succ, List.getElem_toArray, List.getElem_cons_zero, List.getElem_cons_succ]
      refine wpAnyH_take (i := 5) (v := .agg (vl x.on x.os).toArray) rfl (by kernel_rfl) (by kernel_rfl) (by kernel_rfl) (fun _ _ _ h => h) (Or.inl ⟨by rfl, ?yq5⟩) (by assumption) ?rq5
      case yq5 => (intro wq hSw; exact exec_load_mid _ _ 51 (.tmp 19) rfl X 12 rfl (vl x.on x.os) _ _ (by have := edO hSw.2; rwa [Nat.zero_add] at this) Try.underlying51 rfl vl_info)
      case rq5 =>
      try simp only [Act.put, List.setIfInBounds_toArray, List.set_cons_zero, List.set_cons_succ, List.getElem_toArray, List.getElem_cons_zero, List.getElem_cons_succ]
      refine wpAnyH_ready (rs := [3]) (by kernel_rfl) (by simp) ?_
      refine AllReadyH.cons rfl (fun K hK => ?_) AllReadyH.nil
      go_simp
      refine (get_any w1.drew o x.f hk).mono ?_
      rintro r w2 ⟨rfl, t2⟩
      have T2 := Lib.hid (show Turn (fun _ => False) w1 w2 from (Turn.refl (fun _ => False) w1).drew.trans t2 (fun _ _ => id))
      clear t2
      refine hK.out _ _ ⟨rangeAt_turn HYR.out T2.out id, rangeAt_turn HR.out T2.out id⟩ (fun _ => ?_)
      clear hK K
      try simp only [Act.put, List.setIfInBounds_toArray, List.set_cons_zero, List.set_cons_succ, List.getElem_toArray, List.getElem_cons_zero, List.getElem_cons_succ]
      refine wpAnyH_take (i := 6) (v := .bool (!decide (getN o x.f = x.on ∧ getS o x.f = x.os))) rfl (by kernel_rfl) (by kernel_rfl) (by kernel_rfl) (fun _ _ _ h => h) (Or.inl ⟨by rfl, ?yq6⟩) (by assumption) ?rq6
      case yq6 => (intro wq hSw; exact exec_neq_vl _ _ rfl _ _ _ _ wq rfl rfl)
      case rq6 =>
      try simp only [Act.put, List.setIfInBounds_toArray, List.set_cons_zero, List.set_cons_succ, List.getElem_toArray, List.getElem_cons_zero, List.getElem_cons_succ]
      refine wpAnyH_take (i := 7) (v := .bool (!decide (getN o x.f = x.on ∧ getS o x.f = x.os))) rfl (by kernel_rfl) (by kernel_rfl) (by kernel_rfl) (fun _ _ _ h => h) (Or.inl ⟨by rfl, ?yq7⟩) (by assumption) ?rq7
      case yq7 => (intro wq hSw; (try simp only [List.getElem_toArray, List.getElem_cons_zero, List.getElem_cons_succ]); go_simp; (try with_reducible rfl); all_goals (try omega))
      case rq7 =>
      try simp only [Act.put, List.setIfInBounds_toArray, List.set_cons_zero, List.set_cons_succ, List.getElem_toArray, List.getElem_cons_zero, List.getElem_cons_succ]
      refine wpAnyH_done (by kernel_rfl) ?_ _
      clear hHeld
      rw [← HS.out]
      go_wp2_with fail
      go_ret
      exact ⟨rfl, T0.out.trans T2.out (fun _ _ => id)⟩
    · have HS := Lib.hid (show staleE o x = false by unfold staleE; rw [if_neg ho, if_neg h2])
      have q2 : (x.op == 2) = false := by simpa using ho
      have q3 : (x.op == 3) = false := by simpa using h2
      clear ho h2
      go_enter Try.func51, Try.ntmps51
      go_wp2_with fail
      go_ret
      exact ⟨by rw [HS.out]; rfl, T0.out⟩
def cutC (l : List El) (x : Ed) : Bool := if x.op = 3 then decide (x.f = 1) && (lacksB l x.on || lacksB l x.nn) else lacksB l x.e.par || parB l x.e.id
theorem child_par (l : List El) (nr : Int) : decide (0 < (childE l nr).length) = parB l nr := by
  unfold childE parB
  rw [List.length_map]
  induction l with
  | nil => rfl
  | cons a l ih =>
    rw [List.filter_cons, List.any_cons]
    by_cases h : a.par = nr
    · simp [h]
    · simp only [h, decide_false, Bool.false_or, Bool.false_eq_true, if_false]
      simpa using ih
set_option maxHeartbeats 4000000 in
theorem cut_any (w : World) (v : Value) (l : List El) (x : Ed) (hv : RowV w v l) (hrs : Rises l) (hb : l.length ≤ 1000) : Calls Try.prog 52 #[v, .agg x.vals.toArray] w fun e w' => e = .returned (.bool (cutC l x)) ∧ Turn (fun _ => False) w w' := by
  have hbx := box_alloc w 53 x.vals
  obtain ⟨X, hX⟩ : ∃ X, w.heap.size = X := ⟨_, rfl⟩
  obtain ⟨w1, hw1⟩ : ∃ w1, w.alloc (.cells x.vals.toArray 53) = w1 := ⟨_, rfl⟩
  rw [hw1] at hbx
  have hh := hbx.heap
  rw [hX] at hh
  have hr := hbx.range
  rw [hX] at hr
  obtain ⟨c0, c1, c3, c11, c12, c14⟩ := edC hr
  simp only [Nat.zero_add] at c0 c1 c3 c11 c12 c14
  have T1 := Lib.hid hbx.turn
  have HR := Lib.hid hr
  have HX := Lib.hid hh
  have HXS := Lib.hid hX
  have HSZ := Lib.hid hbx.size
  clear hbx hr hh
  clear HX HXS HSZ
  have HV := Lib.hid (hv.turn T1.out (fun _ _ => id))
  have HRS := Lib.hid hrs
  clear hv hrs
  have HST := Lib.hid (fun (wa : World) (hva : RowV wa v l) (nr : Int) => stands_any wa v l nr hva HRS.out hb)
  by_cases ho : x.op = 3
  · have q3 : (x.op == 3) = true := by rw [ho]; rfl
    have HS := Lib.hid (show cutC l x = (decide (x.f = 1) && (lacksB l x.on || lacksB l x.nn)) by unfold cutC; rw [if_pos ho])
    clear ho
    by_cases h1 : x.f = 1
    · have q1 : (x.f == 1) = true := by rw [h1]; rfl
      have HF := Lib.hid (show decide (x.f = 1) = true from decide_eq_true h1)
      clear h1
      obtain ⟨L1, hL1⟩ : ∃ B, lacksB l x.on = B := ⟨_, rfl⟩
      obtain ⟨L2, hL2⟩ : ∃ B, lacksB l x.nn = B := ⟨_, rfl⟩
      have HL1 := Lib.hid hL1
      have HL2 := Lib.hid hL2
      clear hL1 hL2
      cases L1
      · go_enter Try.func52, Try.ntmps52
        go_wp2_with (go_at_call 65; refine (HST.out w1 HV.out x.on).mono ?_; rintro r w2 ⟨rfl, t2⟩; rw [HL1.out]; have T2 := Lib.hid (T1.out.trans t2 (fun _ _ => id)); have HV2 := Lib.hid (HV.out.turn t2 (fun _ _ => id)); have HR2 := Lib.hid (rangeAt_turn HR.out t2 id); clear t2 c0 c1 c3 c11 c12 c14; obtain ⟨c0, c1, c3, c11, c12, c14⟩ := edC HR2.out; simp only [Nat.zero_add] at c0 c1 c3 c11 c12 c14; refine still ?_)
        unfold Still
        go_wp2_with (go_at_call 65; refine (HST.out w2 HV2.out x.nn).mono ?_; rintro r w3 ⟨rfl, t3⟩; rw [HL2.out]; have T3 := Lib.hid (T2.out.trans t3 (fun _ _ => id)); clear t3)
        go_ret
        exact ⟨by rw [HS.out, HF.out, HL1.out, HL2.out]; cases L2 <;> rfl, T3.out⟩
      · go_enter Try.func52, Try.ntmps52
        go_wp2_with (go_at_call 65; refine (HST.out w1 HV.out x.on).mono ?_; rintro r w2 ⟨rfl, t2⟩; rw [HL1.out]; have T2 := Lib.hid (T1.out.trans t2 (fun _ _ => id)); have HV2 := Lib.hid (HV.out.turn t2 (fun _ _ => id)); have HR2 := Lib.hid (rangeAt_turn HR.out t2 id); clear t2 c0 c1 c3 c11 c12 c14; obtain ⟨c0, c1, c3, c11, c12, c14⟩ := edC HR2.out; simp only [Nat.zero_add] at c0 c1 c3 c11 c12 c14; refine still ?_)
        unfold Still
        go_wp2_with fail
        go_ret
        exact ⟨by rw [HS.out, HF.out, HL1.out]; rfl, T2.out⟩
    · have q1 : (x.f == 1) = false := by simpa using h1
      have HF := Lib.hid (show decide (x.f = 1) = false from decide_eq_false h1)
      clear h1
      go_enter Try.func52, Try.ntmps52
      go_wp2_with fail
      go_ret
      exact ⟨by rw [HS.out, HF.out]; rfl, T1.out⟩
  · have q3 : (x.op == 3) = false := by simpa using ho
    have HS := Lib.hid (show cutC l x = (lacksB l x.e.par || parB l x.e.id) by unfold cutC; rw [if_neg ho])
    clear ho
    obtain ⟨L1, hL1⟩ : ∃ B, lacksB l x.e.par = B := ⟨_, rfl⟩
    have HL1 := Lib.hid hL1
    clear hL1
    cases L1
    · go_enter Try.func52, Try.ntmps52
      go_wp2_with (go_at_call 65; refine (HST.out w1 HV.out x.e.par).mono ?_; rintro r w2 ⟨rfl, t2⟩; rw [HL1.out]; have T2 := Lib.hid (T1.out.trans t2 (fun _ _ => id)); have HV2 := Lib.hid (HV.out.turn t2 (fun _ _ => id)); have HR2 := Lib.hid (rangeAt_turn HR.out t2 id); clear t2 c0 c1 c3 c11 c12 c14; obtain ⟨c0, c1, c3, c11, c12, c14⟩ := edC HR2.out; simp only [Nat.zero_add] at c0 c1 c3 c11 c12 c14; refine still ?_)
      unfold Still
      go_wp2_with fail
      refine (children_any w2 v l x.e.id HV2.out hb).mono ?_
      rintro r w3 ⟨v3, rfl, o3, t3⟩
      have T3 := Lib.hid (T2.out.trans t3 (fun _ _ => id))
      obtain ⟨a3, k3, rfl⟩ := own_slice3 o3
      have HCP := Lib.hid (child_par l x.e.id)
      clear t3 o3
      obtain ⟨n3, hn3⟩ : ∃ n3, (childE l x.e.id).length = n3 := ⟨_, rfl⟩
      rw [hn3] at HCP ⊢
      clear hn3
      go_wp2_with fail
      go_ret
      exact ⟨by rw [HS.out, HL1.out, ← HCP.out]; rfl, T3.out⟩
    · go_enter Try.func52, Try.ntmps52
      go_wp2_with (go_at_call 65; refine (HST.out w1 HV.out x.e.par).mono ?_; rintro r w2 ⟨rfl, t2⟩; rw [HL1.out]; have T2 := Lib.hid (T1.out.trans t2 (fun _ _ => id)); have HV2 := Lib.hid (HV.out.turn t2 (fun _ _ => id)); have HR2 := Lib.hid (rangeAt_turn HR.out t2 id); clear t2 c0 c1 c3 c11 c12 c14; obtain ⟨c0, c1, c3, c11, c12, c14⟩ := edC HR2.out; simp only [Nat.zero_add] at c0 c1 c3 c11 c12 c14; refine still ?_)
      unfold Still
      go_wp2_with fail
      go_ret
      exact ⟨by rw [HS.out, HL1.out]; rfl, T2.out⟩

end Go.Proofs.Ytkciaafkhpjnaaa
namespace Go.Proofs.Ytkciaafkhpjnaaa
set_option maxRecDepth 100000
open Go.RowKit
set_option linter.unusedVariables false
set_option linter.unusedSimpArgs false

/-- A row that lies in a block of elements. -/
def Ty24 (w : World) (v : Value) : Prop := ∀ q, v.ownBlock = some q → ∃ cs, w.heap[q]? = some (.cells cs 38 (0, 0))
theorem ty24_nil (w : World) : Ty24 w (.slice none 0 0) := fun q h => by cases h
/-- What an edit makes of a chart, as a pair. -/
def OneP (w : World) (r : List El × Int) (e : Ending) (w' : World) : Prop := ∃ v, e = .returned (.tuple #[v, .int .i64 r.2]) ∧ RowV w' v r.1 ∧ Turn (fun _ => False) w w' ∧ Ty24 w' v
theorem newEls_row {w w' : World} {l : List El} {e : Ending} (h : NewEls w l e w') : ∃ v, e = .returned v ∧ RowV w' v l ∧ Turn (fun _ => False) w w' ∧ Ty24 w' v := by
  obtain ⟨v, h1, h2, h3⟩ := h
  refine ⟨v, h1, own_rowV h2, h3, fun q hq => ?_⟩
  rcases h2.2 with ⟨rfl, _⟩ | ⟨g, cap, cur, rfl, _, hg, _⟩
  · cases hq
  · injection hq with hq
    exact ⟨cur, by rw [← hq]; exact hg⟩
theorem may_op {x : Ed} (h : mayB x = true) : x.op = 1 ∨ x.op = 2 ∨ x.op = 3 :=
  Classical.byContradiction fun hn => by rw [may_0 (by omega)] at h; cases h
set_option maxHeartbeats 8000000 in
theorem one_any (w : World) (v : Value) (l : List El) (x : Ed) (hv : RowV w v l) (hb : l.length ≤ 1000) (hk : KOk l) : Calls Try.prog 33 #[v, .agg x.vals.toArray] w (OneP w (oneE l x)) := by
  have hbx := box_alloc w 53 x.vals
  obtain ⟨X, hX⟩ : ∃ X, w.heap.size = X := ⟨_, rfl⟩
  obtain ⟨w1, hw1⟩ : ∃ w1, w.alloc (.cells x.vals.toArray 53) = w1 := ⟨_, rfl⟩
  rw [hw1] at hbx
  have hh := hbx.heap
  rw [hX] at hh
  have hr := hbx.range
  rw [hX] at hr
  obtain ⟨c0, c1, c3, c11, c12, c14⟩ := edC hr
  simp only [Nat.zero_add] at c0 c1 c3 c11 c12 c14
  have T1 := Lib.hid hbx.turn
  have HR := Lib.hid hr
  have HX := Lib.hid hh
  have HXS := Lib.hid hX
  have HSZ := Lib.hid hbx.size
  clear hbx hr hh
  clear HX HXS HSZ
  have HV1 := Lib.hid (hv.turn T1.out (fun _ _ => id))
  have HKO := Lib.hid hk
  clear hv hk
  have HR1 := HR
  go_enter Try.func33, Try.ntmps33
  go_wp2_with fail
  refine (rises_any w1 v l HV1.out (by omega)).mono ?_
  rintro r w2 ⟨rfl, t2⟩
  have T2 := Lib.hid (T1.out.trans t2 (fun _ _ => id))
  have HV2 := Lib.hid (HV1.out.turn t2 (fun _ _ => id))
  have HR2 := Lib.hid (rangeAt_turn HR1.out t2 id)
  clear t2 c0 c1 c3 c11 c12 c14
  obtain ⟨c0, c1, c3, c11, c12, c14⟩ := edC HR2.out
  simp only [Nat.zero_add] at c0 c1 c3 c11 c12 c14
  cases hrs : risesB l
  · have HOE := Lib.hid (show oneE l x = ([], 7) by unfold oneE; simp [hrs])
    go_wp2_with fail
    go_ret2
    refine ⟨_, by rw [HOE.out]; rfl, by rw [HOE.out]; exact .inl ⟨rfl, rfl⟩, T2.out, ty24_nil _⟩
  · have HRS := Lib.hid ((risesB_iff l).1 hrs)
    go_wp2_with (with_reducible (show wpList _ _ _ (Oper.mk (some 11) (.load 53 (.tmp 3)) _ _ _ _ :: _) _ _); refine still ?_)
    refine wpList_load_mid rfl 53 (.tmp 3) rfl X 0 rfl x.vals _ HR2.out Try.underlying53 rfl ed_info ?_
    go_wp2_with fail
    refine (may_any x w2).mono ?_
    rintro r w3 ⟨rfl, t3⟩
    have T3 := Lib.hid (T2.out.trans t3 (fun _ _ => id))
    have HV3 := Lib.hid (HV2.out.turn t3 (fun _ _ => id))
    have HR3 := Lib.hid (rangeAt_turn HR2.out t3 id)
    clear t3 c0 c1 c3 c11 c12 c14
    obtain ⟨c0, c1, c3, c11, c12, c14⟩ := edC HR3.out
    simp only [Nat.zero_add] at c0 c1 c3 c11 c12 c14
    cases hm : mayB x
    · have HOE := Lib.hid (show oneE l x = ([], 1) by unfold oneE; simp [hrs, hm])
      go_wp2_with fail
      go_ret2
      refine ⟨_, by rw [HOE.out]; rfl, by rw [HOE.out]; exact .inl ⟨rfl, rfl⟩, T3.out, ty24_nil _⟩
    · go_wp2_with fail
      refine (find2 w3 v l x.e.id HV3.out HRS.out hb).mono ?_
      rintro r w4 ⟨o, bb, rfl, hc, t4⟩
      have T4 := Lib.hid (T3.out.trans t4 (fun _ _ => id))
      have HV4 := Lib.hid (HV3.out.turn t4 (fun _ _ => id))
      have HR4 := Lib.hid (rangeAt_turn HR3.out t4 id)
      clear t4 c0 c1 c3 c11 c12 c14
      obtain ⟨c0, c1, c3, c11, c12, c14⟩ := edC HR4.out
      simp only [Nat.zero_add] at c0 c1 c3 c11 c12 c14
      obtain ⟨Z, hZ⟩ : ∃ Z, w4.heap.size = Z := ⟨_, rfl⟩
      obtain ⟨w5, hw5⟩ : ∃ wz, w4.alloc (.cells el0.vals.toArray 38) = wz := ⟨_, rfl⟩
      have hx0 : ∀ ev op, op.op = .alloc 38 → (execOp ev op).run Try.prog w4 = .ok (.value (.pointer (some ⟨Z, 0, none⟩))) w5 := fun ev op ho => by rw [← hw5, ← hZ]; exact exec_zero24 ev op ho _
      have hb0 := box_alloc w4 38 el0.vals
      rw [hw5] at hb0
      have hh0 := hb0.heap
      rw [hZ] at hh0
      have HXX0 := Lib.hid hx0
      have HB0 := Lib.hid hb0
      have HH0 := Lib.hid hh0
      have HE0 := Lib.hid hZ
      clear hb0 hZ hw5 hx0 hh0
      go_wp2_with (with_reducible (show wpList _ _ _ (Oper.mk (some 6) (.alloc 38) _ _ _ _ :: _) _ _); refine still ?_)
      refine list_exec rfl _ _ (HXX0.out _ _ rfl) ?_
      go_wp2_with (with_reducible (show wpList _ _ _ (Oper.mk none (.store 38 (.tmp 6) (.tmp 20)) _ _ _ _ :: _) _ _); refine still ?_)
      refine list_put w5 Z 38 el0.vals o.vals HH0.out rfl o.vals_one el_info rfl (.tmp 6) (.tmp 20) rfl rfl rfl (fun w6 h6 t6 => ?_)
      have t6' := HB0.out.turn.trans t6 (fun q hq e => by have := HE0.out; omega)
      have HZ6 := Lib.hid h6
      clear h6 t6
      have T6 := Lib.hid (T4.out.trans t6' (fun _ _ => id))
      have HV6 := Lib.hid (HV4.out.turn t6' (fun _ _ => id))
      have HR6 := Lib.hid (rangeAt_turn HR4.out t6' id)
      clear t6' c0 c1 c3 c11 c12 c14
      obtain ⟨c0, c1, c3, c11, c12, c14⟩ := edC HR6.out
      simp only [Nat.zero_add] at c0 c1 c3 c11 c12 c14
      have hop := may_op hm
      have hcf := find_any
      clear hcf
      rcases hc with ⟨rfl, hg⟩ | ⟨rfl, hg, rfl⟩
      · have HG := Lib.hid hg
        have hko : 0 ≤ o.kind ∧ o.kind ≤ 255 := HKO.out o (getE_some hg).1
        rcases hop with ho | ho | ho
        · rw [ho] at c0
          have HOE := Lib.hid (show oneE l x = ([], 3) by unfold oneE; simp [hrs, hm, hg, ho])
          go_wp2_with fail
          go_ret2
          refine ⟨_, by rw [HOE.out]; rfl, by rw [HOE.out]; exact .inl ⟨rfl, rfl⟩, T6.out, ty24_nil _⟩
        · rw [ho] at c0
          have hce : cutC l x = cutB l x := by unfold cutC cutB; rw [if_neg (by omega)]
          have hse : staleE o x = !decide (o = x.e) := by unfold staleE; rw [if_pos ho]
          go_wp2_with (with_reducible (show wpList _ _ _ (Oper.mk (some 38) (.load 38 (.tmp 6)) _ _ _ _ :: _) _ _); refine still ?_)
          refine wpList_load_mid rfl 38 (.tmp 6) rfl Z 0 rfl o.vals _ (range_of HZ6.out) Try.underlying38 rfl el_info ?_
          go_wp2_with (with_reducible (show wpList _ _ _ (Oper.mk (some 39) (.load 53 (.tmp 3)) _ _ _ _ :: _) _ _); refine still ?_)
          refine wpList_load_mid rfl 53 (.tmp 3) rfl X 0 rfl x.vals _ HR6.out Try.underlying53 rfl ed_info ?_
          go_wp2_with fail
          refine (stale_any o x hko w6).mono ?_
          rintro r w7 ⟨rfl, t7⟩
          have HZ7 := Lib.hid (rangeAt_turn (range_of HZ6.out) t7 id)
          have T7 := Lib.hid (T6.out.trans t7 (fun _ _ => id))
          have HV7 := Lib.hid (HV6.out.turn t7 (fun _ _ => id))
          have HR7 := Lib.hid (rangeAt_turn HR6.out t7 id)
          clear t7 c0 c1 c3 c11 c12 c14
          obtain ⟨c0, c1, c3, c11, c12, c14⟩ := edC HR7.out
          simp only [Nat.zero_add] at c0 c1 c3 c11 c12 c14
          rw [hse]
          rw [ho] at c0
          by_cases he : o = x.e
          · have d1 : decide (o = x.e) = true := decide_eq_true he
            rw [d1]
            go_wp2_with (with_reducible (show wpList _ _ _ (Oper.mk (some 43) (.load 53 (.tmp 3)) _ _ _ _ :: _) _ _); refine still ?_)
            refine wpList_load_mid rfl 53 (.tmp 3) rfl X 0 rfl x.vals _ HR7.out Try.underlying53 rfl ed_info ?_
            go_wp2_with fail
            refine (cut_any w7 v l x HV7.out HRS.out hb).mono ?_
            rintro r w8 ⟨rfl, t8⟩
            have HZ8 := Lib.hid (rangeAt_turn HZ7.out t8 id)
            have T8 := Lib.hid (T7.out.trans t8 (fun _ _ => id))
            have HV8 := Lib.hid (HV7.out.turn t8 (fun _ _ => id))
            have HR8 := Lib.hid (rangeAt_turn HR7.out t8 id)
            clear t8 c0 c1 c3 c11 c12 c14
            obtain ⟨c0, c1, c3, c11, c12, c14⟩ := edC HR8.out
            simp only [Nat.zero_add] at c0 c1 c3 c11 c12 c14
            rw [hce]
            rw [ho] at c0
            cases hcu : cutB l x
            · have HOE := Lib.hid (show oneE l x = (dropE l x.e.id, 0) by unfold oneE; simp [hrs, hm, hg, ho, he, hcu])
              clear hg hse hce he
              go_wp2_with fail
              refine (drop_any w8 v l x.e.id HV8.out HRS.out hb).mono ?_
              rintro r w9 hne
              obtain ⟨v9, rfl, hv9, t9, ty9⟩ := newEls_row hne
              go_wp2_with fail
              go_ret2
              refine ⟨_, by rw [HOE.out]; rfl, by rw [HOE.out]; exact hv9, T8.out.trans t9 (fun _ _ => id), ty9⟩
            · have HOE := Lib.hid (show oneE l x = ([], 14) by unfold oneE; simp [hrs, hm, hg, ho, he, hcu])
              clear hg hse hce he
              go_wp2_with fail
              go_ret2
              refine ⟨_, by rw [HOE.out]; rfl, by rw [HOE.out]; exact .inl ⟨rfl, rfl⟩, T8.out, ty24_nil _⟩
          · have d1 : decide (o = x.e) = false := decide_eq_false he
            rw [d1]
            have HOE := Lib.hid (show oneE l x = ([], 11) by unfold oneE; simp [hrs, hm, hg, ho, he])
            clear hg hse hce he
            go_wp2_with fail
            go_ret2
            refine ⟨_, by rw [HOE.out]; rfl, by rw [HOE.out]; exact .inl ⟨rfl, rfl⟩, T7.out, ty24_nil _⟩
        · rw [ho] at c0
          have hce : cutC l x = (decide (x.f = 1) && (lacksB l x.on || lacksB l x.nn)) := by unfold cutC; rw [if_pos ho]
          have hse : staleE o x = !decide (getN o x.f = x.on ∧ getS o x.f = x.os) := by unfold staleE; rw [if_neg (by omega), if_pos ho]
          go_wp2_with (with_reducible (show wpList _ _ _ (Oper.mk (some 38) (.load 38 (.tmp 6)) _ _ _ _ :: _) _ _); refine still ?_)
          refine wpList_load_mid rfl 38 (.tmp 6) rfl Z 0 rfl o.vals _ (range_of HZ6.out) Try.underlying38 rfl el_info ?_
          go_wp2_with (with_reducible (show wpList _ _ _ (Oper.mk (some 39) (.load 53 (.tmp 3)) _ _ _ _ :: _) _ _); refine still ?_)
          refine wpList_load_mid rfl 53 (.tmp 3) rfl X 0 rfl x.vals _ HR6.out Try.underlying53 rfl ed_info ?_
          go_wp2_with fail
          refine (stale_any o x hko w6).mono ?_
          rintro r w7 ⟨rfl, t7⟩
          have HZ7 := Lib.hid (rangeAt_turn (range_of HZ6.out) t7 id)
          have T7 := Lib.hid (T6.out.trans t7 (fun _ _ => id))
          have HV7 := Lib.hid (HV6.out.turn t7 (fun _ _ => id))
          have HR7 := Lib.hid (rangeAt_turn HR6.out t7 id)
          clear t7 c0 c1 c3 c11 c12 c14
          obtain ⟨c0, c1, c3, c11, c12, c14⟩ := edC HR7.out
          simp only [Nat.zero_add] at c0 c1 c3 c11 c12 c14
          rw [hse]
          rw [ho] at c0
          by_cases he : getN o x.f = x.on ∧ getS o x.f = x.os
          · have d1 : decide (getN o x.f = x.on ∧ getS o x.f = x.os) = true := decide_eq_true he
            rw [d1]
            go_wp2_with (with_reducible (show wpList _ _ _ (Oper.mk (some 43) (.load 53 (.tmp 3)) _ _ _ _ :: _) _ _); refine still ?_)
            refine wpList_load_mid rfl 53 (.tmp 3) rfl X 0 rfl x.vals _ HR7.out Try.underlying53 rfl ed_info ?_
            go_wp2_with fail
            refine (cut_any w7 v l x HV7.out HRS.out hb).mono ?_
            rintro r w8 ⟨rfl, t8⟩
            have HZ8 := Lib.hid (rangeAt_turn HZ7.out t8 id)
            have T8 := Lib.hid (T7.out.trans t8 (fun _ _ => id))
            have HV8 := Lib.hid (HV7.out.turn t8 (fun _ _ => id))
            have HR8 := Lib.hid (rangeAt_turn HR7.out t8 id)
            clear t8 c0 c1 c3 c11 c12 c14
            obtain ⟨c0, c1, c3, c11, c12, c14⟩ := edC HR8.out
            simp only [Nat.zero_add] at c0 c1 c3 c11 c12 c14
            rw [hce]
            rw [ho] at c0
            cases hcu : (decide (x.f = 1) && (lacksB l x.on || lacksB l x.nn))
            · have hn : ¬ (x.f = 1 ∧ (lacksB l x.on || lacksB l x.nn) = true) := fun h => by rw [decide_eq_true h.1, h.2] at hcu; cases hcu
              have HOE := Lib.hid (show oneE l x = (putE l (setV o x.f x.nn x.ns), 0) by unfold oneE; rw [if_neg (by simp [hrs]), if_neg (by simp [hm]), hg]; simp only []; rw [if_neg (by omega), if_neg (by omega), if_pos he, if_neg hn])
              clear hg hse hce he hn hcu
              go_wp2_with (with_reducible (show wpList _ _ _ (Oper.mk (some 61) (.load 38 (.tmp 6)) _ _ _ _ :: _) _ _); refine still ?_)
              refine wpList_load_mid rfl 38 (.tmp 6) rfl Z 0 rfl o.vals _ HZ8.out Try.underlying38 rfl el_info ?_
              go_wp2_with (with_reducible (show wpList _ _ _ (Oper.mk (some 65) (.load 51 (.tmp 64)) _ _ _ _ :: _) _ _); refine still ?_)
              refine wpList_load_mid rfl 51 (.tmp 64) rfl X 14 rfl (vl x.nn x.ns) _ (by have := edN HR8.out; rwa [Nat.zero_add] at this) Try.underlying51 rfl vl_info ?_
              go_wp2_with fail
              refine (with_any w8 o x.f x.nn x.ns).mono ?_
              rintro r w8b ⟨rfl, t8b⟩
              have HV8b := Lib.hid (HV8.out.turn t8b (fun _ _ => id))
              have T8b := Lib.hid (T8.out.trans t8b (fun _ _ => id))
              clear t8b
              go_wp2_with fail
              refine (put_any w8b v l (setV o x.f x.nn x.ns) HV8b.out HRS.out hb).mono ?_
              rintro r w9 hne
              obtain ⟨v9, rfl, hv9, t9, ty9⟩ := newEls_row hne
              go_wp2_with fail
              go_ret2
              refine ⟨_, by rw [HOE.out]; rfl, by rw [HOE.out]; exact hv9, T8b.out.trans t9 (fun _ _ => id), ty9⟩
            · have hn : (x.f = 1 ∧ (lacksB l x.on || lacksB l x.nn) = true) := by rw [Bool.and_eq_true, decide_eq_true_eq] at hcu; exact hcu
              have HOE := Lib.hid (show oneE l x = ([], 14) by unfold oneE; rw [if_neg (by simp [hrs]), if_neg (by simp [hm]), hg]; simp only []; rw [if_neg (by omega), if_neg (by omega), if_pos he, if_pos hn])
              clear hg hse hce he hn hcu
              go_wp2_with fail
              go_ret2
              refine ⟨_, by rw [HOE.out]; rfl, by rw [HOE.out]; exact .inl ⟨rfl, rfl⟩, T8.out, ty24_nil _⟩
          · have d1 : decide (getN o x.f = x.on ∧ getS o x.f = x.os) = false := decide_eq_false he
            rw [d1]
            have HOE := Lib.hid (show oneE l x = ([], 11) by unfold oneE; rw [if_neg (by simp [hrs]), if_neg (by simp [hm]), hg]; simp only []; rw [if_neg (by omega), if_neg (by omega), if_neg he])
            clear hg hse hce he
            go_wp2_with fail
            go_ret2
            refine ⟨_, by rw [HOE.out]; rfl, by rw [HOE.out]; exact .inl ⟨rfl, rfl⟩, T7.out, ty24_nil _⟩
      · have HG := Lib.hid hg
        rcases hop with ho | ho | ho
        · rw [ho] at c0
          have hce : cutC l x = cutB l x := by unfold cutC cutB; rw [if_neg (by omega)]
          have hse : staleE el0 x = false := by unfold staleE; rw [if_neg (by omega), if_neg (by omega)]
          go_wp2_with (with_reducible (show wpList _ _ _ (Oper.mk (some 38) (.load 38 (.tmp 6)) _ _ _ _ :: _) _ _); refine still ?_)
          refine wpList_load_mid rfl 38 (.tmp 6) rfl Z 0 rfl el0.vals _ (range_of HZ6.out) Try.underlying38 rfl el_info ?_
          go_wp2_with (with_reducible (show wpList _ _ _ (Oper.mk (some 39) (.load 53 (.tmp 3)) _ _ _ _ :: _) _ _); refine still ?_)
          refine wpList_load_mid rfl 53 (.tmp 3) rfl X 0 rfl x.vals _ HR6.out Try.underlying53 rfl ed_info ?_
          go_wp2_with fail
          refine (stale_any el0 x (by decide) w6).mono ?_
          rintro r w7 ⟨rfl, t7⟩
          have HZ7 := Lib.hid (rangeAt_turn (range_of HZ6.out) t7 id)
          have T7 := Lib.hid (T6.out.trans t7 (fun _ _ => id))
          have HV7 := Lib.hid (HV6.out.turn t7 (fun _ _ => id))
          have HR7 := Lib.hid (rangeAt_turn HR6.out t7 id)
          clear t7 c0 c1 c3 c11 c12 c14
          obtain ⟨c0, c1, c3, c11, c12, c14⟩ := edC HR7.out
          simp only [Nat.zero_add] at c0 c1 c3 c11 c12 c14
          rw [hse]
          rw [ho] at c0
          go_wp2_with (with_reducible (show wpList _ _ _ (Oper.mk (some 43) (.load 53 (.tmp 3)) _ _ _ _ :: _) _ _); refine still ?_)
          refine wpList_load_mid rfl 53 (.tmp 3) rfl X 0 rfl x.vals _ HR7.out Try.underlying53 rfl ed_info ?_
          go_wp2_with fail
          refine (cut_any w7 v l x HV7.out HRS.out hb).mono ?_
          rintro r w8 ⟨rfl, t8⟩
          have HZ8 := Lib.hid (rangeAt_turn HZ7.out t8 id)
          have T8 := Lib.hid (T7.out.trans t8 (fun _ _ => id))
          have HV8 := Lib.hid (HV7.out.turn t8 (fun _ _ => id))
          have HR8 := Lib.hid (rangeAt_turn HR7.out t8 id)
          clear t8 c0 c1 c3 c11 c12 c14
          obtain ⟨c0, c1, c3, c11, c12, c14⟩ := edC HR8.out
          simp only [Nat.zero_add] at c0 c1 c3 c11 c12 c14
          rw [hce]
          rw [ho] at c0
          cases hcu : cutB l x
          · have HOE := Lib.hid (show oneE l x = (putE l x.e, 0) by unfold oneE; simp [hrs, hm, hg, ho, hcu])
            clear hg hse hce
            go_wp2_with (with_reducible (show wpList _ _ _ (Oper.mk (some 51) (.load 38 (.tmp 50)) _ _ _ _ :: _) _ _); refine still ?_)
            refine wpList_load_mid rfl 38 (.tmp 50) rfl X 1 rfl x.e.vals _ (by have := edE HR8.out; rwa [Nat.zero_add] at this) Try.underlying38 rfl el_info ?_
            go_wp2_with fail
            refine (put_any w8 v l x.e HV8.out HRS.out hb).mono ?_
            rintro r w9 hne
            obtain ⟨v9, rfl, hv9, t9, ty9⟩ := newEls_row hne
            go_wp2_with fail
            go_ret2
            refine ⟨_, by rw [HOE.out]; rfl, by rw [HOE.out]; exact hv9, T8.out.trans t9 (fun _ _ => id), ty9⟩
          · have HOE := Lib.hid (show oneE l x = ([], 14) by unfold oneE; simp [hrs, hm, hg, ho, hcu])
            clear hg hse hce
            go_wp2_with fail
            go_ret2
            refine ⟨_, by rw [HOE.out]; rfl, by rw [HOE.out]; exact .inl ⟨rfl, rfl⟩, T8.out, ty24_nil _⟩
        · rw [ho] at c0
          have HOE := Lib.hid (show oneE l x = ([], 2) by unfold oneE; simp [hrs, hm, hg, ho])
          go_wp2_with fail
          go_ret2
          refine ⟨_, by rw [HOE.out]; rfl, by rw [HOE.out]; exact .inl ⟨rfl, rfl⟩, T6.out, ty24_nil _⟩
        · rw [ho] at c0
          have HOE := Lib.hid (show oneE l x = ([], 2) by unfold oneE; simp [hrs, hm, hg, ho])
          go_wp2_with fail
          go_ret2
          refine ⟨_, by rw [HOE.out]; rfl, by rw [HOE.out]; exact .inl ⟨rfl, rfl⟩, T6.out, ty24_nil _⟩

end Go.Proofs.Ytkciaafkhpjnaaa
namespace Go.Proofs.Ytkciaafkhpjnaaa
set_option maxRecDepth 100000
open Go.RowKit
set_option linter.unusedVariables false
set_option linter.unusedSimpArgs false

theorem drop_cons_ed (l : List Ed) (k : Nat) (h : k < l.length) : l.drop k = l.getD k ed0 :: l.drop (k + 1) := by
  rw [List.drop_eq_getElem_cons h]
  simp [List.getD, h]
/-- A chart behind some edits, or the first error and its place, as a triple. -/
def AppP (w : World) (r : List El × Nat × Int) (e : Ending) (w' : World) : Prop := ∃ v, e = .returned (.tuple #[v, .int .i64 (r.2.1 : Int), .int .i64 r.2.2]) ∧ RowV w' v r.1 ∧ Turn (fun _ => False) w w'
set_option maxHeartbeats 4000000 in
theorem apply_any (w : World) (v u : Value) (l : List El) (xs : List Ed) (hv : RowV w v l) (hu : EdV w u xs) (hb : l.length + xs.length ≤ 900) (hk : KOk l) (hx : ∀ x ∈ xs, EdOk x) : Calls Try.prog 12 #[v, u] w (AppP w (applyE l xs)) := by
  obtain ⟨la, lc, rfl⟩ := hu.form
  obtain ⟨n, hn⟩ : ∃ n, xs.length = n := ⟨_, rfl⟩
  simp only [hn] at hu hb ⊢
  have hn9 : n ≤ 900 := by omega
  have HV := Lib.hid hv
  have HU := Lib.hid hu
  have HN := Lib.hid hn
  have HB := Lib.hid hb
  have HK := Lib.hid hk
  have HX := Lib.hid hx
  clear hv hu hn hb hk hx
  go_enter Try.func12, Try.ntmps12
  go_wp2_with fail
  refine (rises_any w v l HV.out (by have := HB.out; omega)).mono ?_
  rintro r w1 ⟨rfl, t1⟩
  have HV1 := Lib.hid (HV.out.turn t1 (fun _ _ => id))
  have T1 := Lib.hid t1
  clear t1
  cases hrs : risesB l
  · have HA := Lib.hid (show applyE l xs = ([], 0, 7) by unfold applyE; rw [if_pos hrs])
    clear hrs
    go_wp2_with fail
    go_ret3
    refine ⟨_, by rw [HA.out]; rfl, by rw [HA.out]; exact .inl ⟨rfl, rfl⟩, T1.out⟩
  · have HA := Lib.hid (show applyE l xs = applyFrom l xs 0 by unfold applyE; rw [if_neg (by simp [hrs])])
    clear hrs
    go_wp2_with fail
    refine (clone_els w1 v l HV1.out (by have := HB.out; omega)).mono ?_
    rintro r w2 hne
    obtain ⟨v2, rfl, hv2, t2, _⟩ := newEls_row hne
    have HV2 := Lib.hid hv2
    have T2 := Lib.hid (T1.out.trans t2 (fun _ _ => id))
    clear hv2 t2 hne
    go_wp2_with fail
    go_loopw [0, 18] (fun cv iv wr => ∃ (k : Nat) (c : List El), k ≤ n ∧ iv = .int .i64 (k : Int) ∧ RowV wr cv c ∧ KOk c ∧ c.length ≤ l.length + k ∧ applyFrom l xs 0 = applyFrom c (xs.drop k) k ∧ Turn (fun _ => False) w wr) (fun _ iv _ => n - (intOf iv).toNat)
    case atStart => exact ⟨0, l, Nat.zero_le _, rfl, HV2.out, HK.out, Nat.le_refl _, rfl, T2.out⟩
    case round =>
      obtain ⟨k, c, hkn, rfl, hcv, hkc, hlc, hap, htr⟩ := hrel
      have HCV := Lib.hid hcv
      have HKC := Lib.hid hkc
      have HLC := Lib.hid hlc
      have HAP := Lib.hid hap
      have HT := Lib.hid htr
      clear hcv hkc hlc hap htr
      by_cases hlt : k < n
      · have gi : (0 : Int) ≤ (k : Int) ∧ (k : Int) < (n : Int) := by omega
        have dk : decide ((k : Int) < (n : Int)) = true := decide_eq_true (by omega)
        obtain ⟨g, o, rfl, hc, hs⟩ := (HU.out.turn HT.out (fun _ _ => id)).one HN.out k hlt
        have hxo := HX.out (xs.getD k ed0) (getD_mem_ed (by rw [HN.out]; exact hlt))
        have hdr := drop_cons_ed xs k (by rw [HN.out]; exact hlt)
        obtain ⟨x, hx⟩ : ∃ x, xs.getD k ed0 = x := ⟨_, rfl⟩
        rw [hx] at hs hxo hdr
        have hap2 : applyFrom l xs 0 = if (oneE c x).2 = 0 then applyFrom (oneE c x).1 (xs.drop (k + 1)) (k + 1) else ([], k, (oneE c x).2) := by rw [HAP.out, hdr]; rfl
        have HS := Lib.hid hs
        have HXO := Lib.hid hxo
        have HA2 := Lib.hid hap2
        clear hs hxo hdr hap2 hx hc
        obtain ⟨B, hB⟩ : ∃ Z, wr.heap.size = Z := ⟨_, rfl⟩
        obtain ⟨wz, hwz⟩ : ∃ wz, wr.alloc (.cells ed0.vals.toArray 53) = wz := ⟨_, rfl⟩
        have hx0 : ∀ ev op, op.op = .alloc 53 → (execOp ev op).run Try.prog wr = .ok (.value (.pointer (some ⟨B, 0, none⟩))) wz := fun ev op ho => by rw [← hwz, ← hB]; exact exec_zero_ed ev op ho _
        have hb0 := box_alloc wr 53 ed0.vals
        rw [hwz] at hb0
        have hh0 := hb0.heap
        rw [hB] at hh0
        have HXX0 := Lib.hid hx0
        have HB0 := Lib.hid hb0
        have HH0 := Lib.hid hh0
        have HE0 := Lib.hid hB
        clear hb0 hB hwz hx0 hh0
        go_wp2_with (with_reducible (show wpList _ _ _ (Oper.mk (some 22) (.load 53 (.tmp 21)) _ _ _ _ :: _) _ _); refine still ?_)
        refine wpList_load_mid rfl 53 (.tmp 21) rfl g (o + k * 16) rfl x.vals _ HS.out Try.underlying53 rfl ed_info ?_
        go_wp2_with (with_reducible (show wpList _ _ _ (Oper.mk (some 8) (.alloc 53) _ _ _ _ :: _) _ _); refine still ?_)
        refine list_exec rfl _ _ (HXX0.out _ _ rfl) ?_
        go_wp2_with (with_reducible (show wpList _ _ _ (Oper.mk none (.store 53 (.tmp 8) (.tmp 22)) _ _ _ _ :: _) _ _); refine still ?_)
        refine list_put wz B 53 ed0.vals x.vals HH0.out rfl x.vals_one ed_info rfl (.tmp 8) (.tmp 22) rfl rfl rfl (fun w4 h4 t4 => ?_)
        have H4 := Lib.hid h4
        have t4' := HB0.out.turn.trans t4 (fun q hq e => by have := HE0.out; omega)
        have T4 := Lib.hid (HT.out.trans t4' (fun _ _ => id))
        have HCV4 := Lib.hid (HCV.out.turn t4' (fun _ _ => id))
        clear h4 t4 t4'
        go_wp2_with (with_reducible (show wpList _ _ _ (Oper.mk (some 25) (.load 53 (.tmp 8)) _ _ _ _ :: _) _ _); refine still ?_)
        refine wpList_load_mid rfl 53 (.tmp 8) rfl B 0 rfl x.vals _ (range_of H4.out) Try.underlying53 rfl ed_info ?_
        go_wp2_with fail
        refine (one_any w4 _ c x HCV4.out (by have := HLC.out; have := HB.out; omega) HKC.out).mono ?_
        rintro r w5 ⟨v5, rfl, hv5, t5, _⟩
        have HV5 := Lib.hid hv5
        have T5 := Lib.hid (T4.out.trans t5 (fun _ _ => id))
        clear hv5 t5
        obtain ⟨d, hd⟩ : ∃ d, (oneE c x).2 = d := ⟨_, rfl⟩
        rw [hd] at HA2 ⊢
        have HD := Lib.hid hd
        clear hd
        by_cases h0 : d = 0
        · have q0 : (d != 0) = false := by simpa using h0
          have hA := HA2.out
          rw [if_pos h0] at hA
          have HA3 := Lib.hid hA
          have hkd := oneE_ok HKC.out HXO.out (show oneE c x = ((oneE c x).1, (oneE c x).2) from rfl)
          have hld := oneE_len (l := c) (x := x)
          have HKD := Lib.hid hkd
          have HLD := Lib.hid (show (oneE c x).1.length ≤ l.length + (k + 1) by have := HLC.out; omega)
          clear hA h0 hkd hld
          go_wp2_with fail
          go_roundw
          case rel => exact ⟨k + 1, _, by omega, by go_num, HV5.out, HKD.out, HLD.out, HA3.out, T5.out⟩
          case measure => simp [intOf]; omega
        · have q0 : (d != 0) = true := by simpa using h0
          have hA := HA2.out
          rw [if_neg h0] at hA
          have HA3 := Lib.hid (HA.out.trans hA)
          clear hA h0
          go_wp2_with fail
          go_ret3
          refine ⟨_, by rw [HA3.out]; rfl, by rw [HA3.out]; exact .inl ⟨rfl, rfl⟩, T5.out⟩
      · have hke : k = n := by omega
        subst hke
        have HA3 := Lib.hid (show applyE l xs = (c, 0, 0) by rw [HA.out, HAP.out, List.drop_of_length_le (by rw [HN.out]; omega)]; rfl)
        go_wp2_with fail
        go_ret3
        refine ⟨_, by rw [HA3.out]; rfl, by rw [HA3.out]; exact HCV.out, HT.out⟩
end Go.Proofs.Ytkciaafkhpjnaaa
namespace Go.Proofs.Ytkciaafkhpjnaaa
set_option maxRecDepth 100000
open Go.RowKit
set_option linter.unusedVariables false
set_option linter.unusedSimpArgs false

theorem ex_par {w : World} {B : Nat} {x : El} {E : Int} (h : w.heap[B]? = some (.cells (x.vals.set 2 (.int .i64 E)).toArray 38 (0, 0))) : ∃ y : El, w.heap[B]? = some (.cells y.vals.toArray 38 (0, 0)) ∧ y.kind = x.kind := ⟨{ x with par := E }, h, rfl⟩
end Go.Proofs.Ytkciaafkhpjnaaa
