/- Own contracts: edits, purely; the way back. No statement is proved here. -/
import Derived.Test.YtbokdgcdkmnldaaFt
namespace Go.Proofs.Ytbokdgcdkmnldaa
set_option maxRecDepth 100000
open Go.RowKit
set_option linter.unusedVariables false
set_option linter.unusedSimpArgs false

/-- What an edit is. -/
structure Ed where
  op : Int
  e : El
  f : Int
  on : Int
  os : ByteArray
  nn : Int
  ns : ByteArray
deriving DecidableEq
def mayB (x : Ed) : Bool := decide (x.e.id ≠ 0) && (decide ((x.op = 1 ∨ x.op = 2) ∧ x.f = 0 ∧ (x.on = 0 ∧ x.os = e0) ∧ (x.nn = 0 ∧ x.ns = e0)) || decide (x.op = 3 ∧ x.e = El.at x.e.id) && (fitsB x.f x.on x.os && fitsB x.f x.nn x.ns))
def getE (l : List El) (nr : Int) : Option El := l.find? (fun x => decide (x.id = nr))
def hasB (l : List El) (nr : Int) : Bool := (getE l nr).isSome
def lacksB (l : List El) (nr : Int) : Bool := decide (nr ≠ 0) && !(hasB l nr)
def parB (l : List El) (nr : Int) : Bool := l.any (fun x => decide (x.par = nr))
def cutB (l : List El) (x : Ed) : Bool := lacksB l x.e.par || parB l x.e.id
def oneE (l : List El) (x : Ed) : List El × Int :=
  if risesB l = false then ([], 7) else if mayB x = false then ([], 1) else
  match getE l x.e.id with
  | none => if x.op = 1 then (if cutB l x = true then ([], 14) else (putE l x.e, 0)) else ([], 2)
  | some o => if x.op = 1 then ([], 3) else if x.op = 2 then (if o = x.e then (if cutB l x = true then ([], 14) else (dropE l x.e.id, 0)) else ([], 11))
    else if getN o x.f = x.on ∧ getS o x.f = x.os then (if x.f = 1 ∧ (lacksB l x.on || lacksB l x.nn) = true then ([], 14) else (putE l (setV o x.f x.nn x.ns), 0)) else ([], 11)
def applyFrom (l : List El) : List Ed → Nat → List El × Nat × Int
  | [], _ => (l, 0, 0)
  | x :: xs, k => if (oneE l x).2 = 0 then applyFrom (oneE l x).1 xs (k + 1) else ([], k, (oneE l x).2)
def applyE (l : List El) (xs : List Ed) : List El × Nat × Int := if risesB l = false then ([], 0, 7) else applyFrom l xs 0
def turnE (x : Ed) : Ed := if x.op = 1 then { x with op := 2 } else if x.op = 2 then { x with op := 1 } else { x with on := x.nn, os := x.ns, nn := x.on, ns := x.os }
def invE (xs : List Ed) : List Ed := xs.reverse.map turnE
def KOk (l : List El) : Prop := ∀ y ∈ l, 0 ≤ y.kind ∧ y.kind ≤ 255
def EdOk (x : Ed) : Prop := 0 ≤ x.e.kind ∧ x.e.kind ≤ 255

theorem getE_some {l : List El} {nr : Int} {o : El} (h : getE l nr = some o) : o ∈ l ∧ o.id = nr := by
  unfold getE at h
  exact ⟨List.mem_of_find?_eq_some h, by simpa using List.find?_some h⟩
theorem getE_none {l : List El} {nr : Int} : getE l nr = none ↔ ∀ x ∈ l, x.id ≠ nr := by
  unfold getE; simp
theorem getE_mem {l : List El} (hr : Rises l) {o : El} (h : o ∈ l) : getE l o.id = some o := by
  induction l with
  | nil => cases h
  | cons a l ih =>
    unfold getE
    rw [List.find?_cons]
    have hp := List.pairwise_cons.1 hr
    rcases List.mem_cons.1 h with rfl | h
    · simp
    · have := hp.1 _ h
      rw [show decide (a.id = o.id) = false from decide_eq_false (by omega)]
      exact ih hp.2 h
theorem getE_iff {l : List El} (hr : Rises l) {nr : Int} {o : El} : getE l nr = some o ↔ o ∈ l ∧ o.id = nr :=
  ⟨getE_some, fun h => h.2 ▸ getE_mem hr h.1⟩
theorem rises_ext : ∀ {l m : List El} (hl : Rises l) (hm : Rises m) (h : ∀ x, x ∈ l ↔ x ∈ m), l = m := by
  intro l
  induction l with
  | nil =>
    intro m _ _ h
    cases m with
    | nil => rfl
    | cons b m => exact absurd ((h b).2 (by simp)) (by simp)
  | cons a l ih =>
    intro m hl hm h
    cases m with
    | nil => exact absurd ((h a).1 (by simp)) (by simp)
    | cons b m =>
      have pl := List.pairwise_cons.1 hl
      have pm := List.pairwise_cons.1 hm
      have e : a = b := by
        rcases List.mem_cons.1 ((h a).1 (by simp)) with e | e
        · exact e
        · rcases List.mem_cons.1 ((h b).2 (by simp)) with e2 | e2
          · exact e2.symm
          · have := pm.1 _ e; have := pl.1 _ e2; omega
      subst e
      rw [ih pl.2 pm.2 (fun x => ?_)]
      constructor
      · intro hx
        rcases List.mem_cons.1 ((h x).1 (by simp [hx])) with e | e
        · have := pl.1 _ hx; subst e; omega
        · exact e
      · intro hx
        rcases List.mem_cons.1 ((h x).2 (by simp [hx])) with e | e
        · have := pm.1 _ hx; subst e; omega
        · exact e
theorem mem_put {l : List El} {e x : El} : x ∈ putE l e ↔ x = e ∨ (x ∈ l ∧ x.id ≠ e.id) := by
  unfold putE
  simp only [List.mem_append, List.mem_filter, List.mem_cons, decide_eq_true_eq]
  constructor
  · rintro (⟨h1, h2⟩ | h | ⟨h1, h2⟩)
    · exact .inr ⟨h1, by omega⟩
    · exact .inl h
    · exact .inr ⟨h1, by omega⟩
  · rintro (h | ⟨h1, h2⟩)
    · exact .inr (.inl h)
    · rcases (by omega : x.id < e.id ∨ e.id < x.id) with h | h
      · exact .inl ⟨h1, h⟩
      · exact .inr (.inr ⟨h1, h⟩)
theorem mem_drop {l : List El} {nr : Int} {x : El} : x ∈ dropE l nr ↔ x ∈ l ∧ x.id ≠ nr := by
  unfold dropE; simp
theorem rises_putE {l : List El} (hr : Rises l) (e : El) : Rises (putE l e) := by
  unfold putE Rises
  rw [List.pairwise_append]
  refine ⟨hr.filter _, List.pairwise_cons.2 ⟨fun x hx => ?_, hr.filter _⟩, fun x hx y hy => ?_⟩
  · simpa using (List.mem_filter.1 hx).2
  · have h1 : x.id < e.id := by simpa using (List.mem_filter.1 hx).2
    rcases List.mem_cons.1 hy with rfl | hy
    · exact h1
    · have : e.id < y.id := by simpa using (List.mem_filter.1 hy).2
      omega
theorem rises_dropE {l : List El} (hr : Rises l) (nr : Int) : Rises (dropE l nr) := by
  unfold dropE; exact List.Pairwise.filter _ hr
theorem lacksB_iff {l : List El} {nr : Int} : lacksB l nr = true ↔ nr ≠ 0 ∧ ∀ x ∈ l, x.id ≠ nr := by
  unfold lacksB hasB
  simp only [Bool.and_eq_true, decide_eq_true_eq, Bool.not_eq_true', Option.isSome_eq_false_iff, Option.isNone_iff_eq_none, getE_none]
theorem lacksB_no {l : List El} {nr : Int} : lacksB l nr = false ↔ nr = 0 ∨ ∃ x ∈ l, x.id = nr := by
  rw [← Bool.not_eq_true, lacksB_iff]
  constructor
  · intro h
    by_cases h0 : nr = 0
    · exact .inl h0
    · refine .inr (Classical.byContradiction fun h2 => h ⟨h0, fun x hx e => h2 ⟨x, hx, e⟩⟩)
  · rintro (h | ⟨x, hx, e⟩) ⟨h1, h2⟩
    · exact h1 h
    · exact h2 x hx e
theorem parB_no {l : List El} {nr : Int} : parB l nr = false ↔ ∀ x ∈ l, x.par ≠ nr := by
  unfold parB; simp
theorem set_id (o : El) (f n : Int) (s : ByteArray) : (setV o f n s).id = o.id := by
  unfold setV
  repeat' split
  all_goals rfl
theorem oneE_rises {l d : List El} {x : Ed} (h : oneE l x = (d, 0)) : Rises l ∧ Rises d := by
  unfold oneE at h
  cases hr : risesB l
  · rw [if_pos hr] at h; exact absurd (congrArg (·.2) h) (by simp)
  · have hR := (risesB_iff l).1 hr
    refine ⟨hR, ?_⟩
    rw [if_neg (by simp [hr])] at h
    repeat' split at h
    all_goals first
      | (have e := congrArg (·.1) h; subst e; first | exact rises_putE hR _ | exact rises_dropE hR _)
      | exact absurd (congrArg (·.2) h) (by simp)
theorem putE_ok {l : List El} {e : El} (h : KOk l) (he : 0 ≤ e.kind ∧ e.kind ≤ 255) : KOk (putE l e) := fun y hy => by
  rcases mem_put.1 hy with rfl | ⟨h1, _⟩
  · exact he
  · exact h y h1
theorem dropE_ok {l : List El} {nr : Int} (h : KOk l) : KOk (dropE l nr) := fun y hy => h y (mem_drop.1 hy).1
theorem oneE_ok {l d : List El} {x : Ed} {n : Int} (hk : KOk l) (hx : EdOk x) (h : oneE l x = (d, n)) : KOk d := by
  have nil : KOk [] := fun y hy => by cases hy
  unfold oneE at h
  repeat' split at h
  all_goals (have e := congrArg (·.1) h; subst e)
  all_goals first
    | exact nil
    | exact putE_ok hk hx
    | exact dropE_ok hk
    | (rename_i o ho _ _ _ _; exact putE_ok hk (setV_kind o (hk _ (getE_some ho).1) _ _ _))
theorem putE_len (l : List El) (e : El) : (putE l e).length ≤ l.length + 1 := by
  unfold putE
  simp only [List.length_append, List.length_cons]
  have : ∀ l : List El, (l.filter (fun x => decide (x.id < e.id))).length + (l.filter (fun x => decide (e.id < x.id))).length ≤ l.length := by
    intro l
    induction l with
    | nil => simp
    | cons a l ih =>
      simp only [List.filter_cons, List.length_cons]
      repeat' split
      all_goals (simp only [List.length_cons, decide_eq_true_eq] at *; omega)
  have := this l
  omega
theorem oneE_len {l : List El} {x : Ed} : (oneE l x).1.length ≤ l.length + 1 := by
  unfold oneE
  repeat' split
  all_goals first
    | exact Nat.zero_le _
    | exact putE_len _ _
    | exact Nat.le_succ_of_le (List.length_filter_le _ _)
theorem fits_get {f n : Int} {s : ByteArray} (h : fitsB f n s = true) (o : El) : getN (setV o f n s) f = n ∧ getS (setV o f n s) f = s := by
  unfold fitsB at h
  simp only [Bool.and_eq_true, decide_eq_true_eq] at h
  obtain ⟨hf, h1, h2⟩ := h
  rcases (by omega : f = 0 ∨ f = 1 ∨ f = 2 ∨ f = 3 ∨ f = 4 ∨ f = 5 ∨ f = 6 ∨ f = 7 ∨ f = 8) with rfl | rfl | rfl | rfl | rfl | rfl | rfl | rfl | rfl
  all_goals exact ⟨h1, h2⟩
theorem set_back {o : El} (hk : 0 ≤ o.kind ∧ o.kind ≤ 255) (f n : Int) (s : ByteArray) : setV (setV o f n s) f (getN o f) (getS o f) = o := by
  by_cases hf : 0 ≤ f ∧ f < 9
  · obtain ⟨a0, a1, a2, a3, a4, a5, a6, a7, a8, a9⟩ := o
    rcases (by omega : f = 0 ∨ f = 1 ∨ f = 2 ∨ f = 3 ∨ f = 4 ∨ f = 5 ∨ f = 6 ∨ f = 7 ∨ f = 8) with rfl | rfl | rfl | rfl | rfl | rfl | rfl | rfl | rfl
    · have : a1 % 256 = a1 := by have := hk.1; have := hk.2; simp only at *; omega
      simp [setV, getN, this]
    all_goals simp [setV, getN, getS]
  · unfold setV
    rw [if_neg (by omega), if_neg (by omega), if_neg (by omega), if_neg (by omega), if_neg (by omega), if_neg (by omega), if_neg (by omega), if_neg (by omega), if_neg (by omega)]
    rw [if_neg (by omega), if_neg (by omega), if_neg (by omega), if_neg (by omega), if_neg (by omega), if_neg (by omega), if_neg (by omega), if_neg (by omega), if_neg (by omega)]
theorem may_turn {x : Ed} (h : mayB x = true) : mayB (turnE x) = true := by
  unfold mayB turnE at *
  simp only [Bool.and_eq_true, Bool.or_eq_true, decide_eq_true_eq] at *
  obtain ⟨h0, h | ⟨⟨h1, h2⟩, h3, h4⟩⟩ := h
  · obtain ⟨h1 | h1, h2⟩ := h
    · rw [if_pos h1]; exact ⟨h0, .inl ⟨.inr rfl, h2⟩⟩
    · rw [if_neg (by omega), if_pos h1]; exact ⟨h0, .inl ⟨.inl rfl, h2⟩⟩
  · rw [if_neg (by omega), if_neg (by omega)]; exact ⟨h0, .inr ⟨⟨h1, h2⟩, h4, h3⟩⟩
theorem turn_id (x : Ed) : (turnE x).e = x.e := by
  unfold turnE; split
  · rfl
  · split <;> rfl
theorem turn_ok {x : Ed} (h : EdOk x) : EdOk (turnE x) := by unfold EdOk; rw [turn_id]; exact h
/-- The way back of one edit. -/
theorem one_back {l d : List El} {x : Ed} (hk : KOk l) (h : oneE l x = (d, 0)) : oneE d (turnE x) = (l, 0) := by
  obtain ⟨hR, hD⟩ := oneE_rises h
  have hm : mayB x = true := by
    cases hm : mayB x
    · unfold oneE at h
      rw [if_neg (by simp [(risesB_iff l).2 hR]), if_pos hm] at h
      exact absurd (congrArg (·.2) h) (by simp)
    · rfl
  have ht := may_turn hm
  have hid : x.e.id ≠ 0 := by unfold mayB at hm; simp only [Bool.and_eq_true, decide_eq_true_eq] at hm; exact hm.1
  have hop : x.op = 1 ∨ x.op = 2 ∨ x.op = 3 := by
    unfold mayB at hm; simp only [Bool.and_eq_true, Bool.or_eq_true, decide_eq_true_eq] at hm
    rcases hm.2 with h | h
    · rcases h.1 with h | h
      · exact .inl h
      · exact .inr (.inl h)
    · exact .inr (.inr h.1.1)
  unfold oneE at h ⊢
  rw [if_neg (by simp [(risesB_iff l).2 hR]), if_neg (by simp [hm])] at h
  rw [if_neg (by simp [(risesB_iff d).2 hD]), if_neg (by simp [ht]), turn_id]
  rcases hop with ho | ho | ho
  · have to : (turnE x).op = 2 := by unfold turnE; rw [if_pos ho]
    cases hg : getE l x.e.id with
    | some o => rw [hg] at h; simp only [ho] at h; exact absurd (congrArg (·.2) h) (by simp)
    | none =>
      rw [hg] at h
      simp only [ho] at h
      cases hc : cutB l x
      · rw [if_pos trivial, if_neg (by simp [hc])] at h
        have e : putE l x.e = d := congrArg (·.1) h
        subst e
        unfold cutB at hc
        simp only [Bool.or_eq_false_iff] at hc
        have hn := getE_none.1 hg
        have g : getE (putE l x.e) x.e.id = some x.e := (getE_iff hD).2 ⟨mem_put.2 (.inl rfl), rfl⟩
        rw [g]
        have c2 : cutB (putE l x.e) (turnE x) = false := by
          unfold cutB
          rw [turn_id]
          simp only [Bool.or_eq_false_iff]
          constructor
          · rcases lacksB_no.1 hc.1 with h0 | ⟨y, hy, hi⟩
            · exact lacksB_no.2 (.inl h0)
            · exact lacksB_no.2 (.inr ⟨y, mem_put.2 (.inr ⟨hy, hn y hy⟩), hi⟩)
          · refine parB_no.2 fun y hy => ?_
            rcases mem_put.1 hy with rfl | ⟨hy, _⟩
            · rcases lacksB_no.1 hc.1 with h0 | ⟨y, hy, hi⟩
              · omega
              · have := hn y hy; omega
            · exact parB_no.1 hc.2 y hy
        simp only [to, c2]
        rw [if_neg (by decide), if_pos trivial, if_pos trivial, if_neg (by decide)]
        refine Prod.ext (rises_ext (rises_dropE hD _) hR fun y => ?_) rfl
        rw [mem_drop, mem_put]
        constructor
        · rintro ⟨rfl | h1, h2⟩
          · exact absurd rfl h2
          · exact h1.1
        · intro hy; exact ⟨.inr ⟨hy, hn y hy⟩, hn y hy⟩
      · rw [if_pos trivial, if_pos hc] at h; exact absurd (congrArg (·.2) h) (by simp)
  · have to : (turnE x).op = 1 := by unfold turnE; rw [if_neg (by omega), if_pos ho]
    cases hg : getE l x.e.id with
    | none => rw [hg] at h; simp only [ho] at h; exact absurd (congrArg (·.2) h) (by simp)
    | some o =>
      rw [hg] at h
      simp only [ho] at h
      rw [if_neg (by decide), if_pos trivial] at h
      by_cases he : o = x.e
      · subst he
        cases hc : cutB l x
        · rw [if_pos rfl, if_neg (by simp [hc])] at h
          have e : dropE l x.e.id = d := congrArg (·.1) h
          subst e
          unfold cutB at hc
          simp only [Bool.or_eq_false_iff] at hc
          have g : getE (dropE l x.e.id) x.e.id = none := getE_none.2 fun y hy => (mem_drop.1 hy).2
          rw [g]
          have hp : x.e.par ≠ x.e.id := parB_no.1 hc.2 _ (getE_some hg).1
          have c2 : cutB (dropE l x.e.id) (turnE x) = false := by
            unfold cutB
            rw [turn_id]
            simp only [Bool.or_eq_false_iff]
            constructor
            · rcases lacksB_no.1 hc.1 with h0 | ⟨y, hy, hi⟩
              · exact lacksB_no.2 (.inl h0)
              · exact lacksB_no.2 (.inr ⟨y, mem_drop.2 ⟨hy, by omega⟩, hi⟩)
            · exact parB_no.2 fun y hy => parB_no.1 hc.2 y (mem_drop.1 hy).1
          simp only [to, c2]
          rw [if_pos trivial, if_neg (by decide)]
          refine Prod.ext (rises_ext (rises_putE hD _) hR fun y => ?_) rfl
          rw [mem_put, mem_drop]
          constructor
          · rintro (rfl | h1)
            · exact (getE_some hg).1
            · exact h1.1.1
          · intro hy
            by_cases e : y.id = x.e.id
            · refine .inl ?_
              have h1 := getE_mem hR hy
              rw [e, hg] at h1
              exact (Option.some.inj h1).symm
            · exact .inr ⟨⟨hy, e⟩, e⟩
        · rw [if_pos rfl, if_pos hc] at h; exact absurd (congrArg (·.2) h) (by simp)
      · rw [if_neg he] at h; exact absurd (congrArg (·.2) h) (by simp)
  · have te : turnE x = { x with on := x.nn, os := x.ns, nn := x.on, ns := x.os } := by unfold turnE; rw [if_neg (by omega), if_neg (by omega)]
    rw [te]
    have hft : fitsB x.f x.nn x.ns = true := by
      unfold mayB at hm; simp only [Bool.and_eq_true, Bool.or_eq_true, decide_eq_true_eq] at hm
      rcases hm.2 with h | h
      · rcases h.1 with h | h <;> omega
      · exact h.2.2
    cases hg : getE l x.e.id with
    | none => rw [hg] at h; simp only [ho] at h; exact absurd (congrArg (·.2) h) (by simp)
    | some o =>
      rw [hg] at h
      simp only [ho] at h ⊢
      rw [if_neg (by decide), if_neg (by decide)] at h
      by_cases hs : getN o x.f = x.on ∧ getS o x.f = x.os
      · rw [if_pos hs] at h
        by_cases hc : x.f = 1 ∧ (lacksB l x.on || lacksB l x.nn) = true
        · rw [if_pos hc] at h; exact absurd (congrArg (·.2) h) (by simp)
        · rw [if_neg hc] at h
          have e : putE l (setV o x.f x.nn x.ns) = d := congrArg (·.1) h
          subst e
          obtain ⟨hol, hoi⟩ := getE_some hg
          have hsi : (setV o x.f x.nn x.ns).id = x.e.id := by rw [set_id, hoi]
          have g : getE (putE l (setV o x.f x.nn x.ns)) x.e.id = some (setV o x.f x.nn x.ns) := (getE_iff hD).2 ⟨mem_put.2 (.inl rfl), hsi⟩
          rw [g]
          have fg := fits_get hft o
          have lk : ∀ nr, lacksB (putE l (setV o x.f x.nn x.ns)) nr = lacksB l nr := fun nr => by
            cases hl : lacksB l nr
            · refine lacksB_no.2 ?_
              rcases lacksB_no.1 hl with h0 | ⟨y, hy, hi⟩
              · exact .inl h0
              · by_cases e : y.id = x.e.id
                · exact .inr ⟨_, mem_put.2 (.inl rfl), by rw [hsi]; omega⟩
                · exact .inr ⟨y, mem_put.2 (.inr ⟨hy, by rw [hsi]; exact e⟩), hi⟩
            · obtain ⟨h0, h1⟩ := lacksB_iff.1 hl
              refine lacksB_iff.2 ⟨h0, fun y hy => ?_⟩
              rcases mem_put.1 hy with rfl | ⟨hy, _⟩
              · rw [hsi, ← hoi]; exact h1 o hol
              · exact h1 y hy
          simp only [lk]
          rw [if_neg (by decide), if_neg (by decide), if_pos fg, if_neg (by rw [Bool.or_comm]; exact hc)]
          have sb : setV (setV o x.f x.nn x.ns) x.f x.on x.os = o := by rw [← hs.1, ← hs.2]; exact set_back (hk o hol) _ _ _
          rw [sb]
          refine Prod.ext (rises_ext (rises_putE hD _) hR fun y => ?_) rfl
          rw [mem_put, mem_put, hoi, hsi]
          constructor
          · rintro (rfl | ⟨rfl | h1, h2⟩)
            · exact hol
            · exact absurd hsi h2
            · exact h1.1
          · intro hy
            by_cases e : y.id = x.e.id
            · refine .inl ?_
              have h1 := getE_mem hR hy
              rw [e, hg] at h1
              exact (Option.some.inj h1).symm
            · exact .inr ⟨.inr ⟨hy, e⟩, e⟩
      · rw [if_neg hs] at h; exact absurd (congrArg (·.2) h) (by simp)
theorem oneE_fst {l : List El} {x : Ed} (h : (oneE l x).2 = 0) : oneE l x = ((oneE l x).1, 0) := Prod.ext rfl h
theorem apply_app {l m : List El} {b : List Ed} : ∀ {a : List Ed} {l : List El} {k : Nat}, applyFrom l a k = (m, 0, 0) → applyFrom l (a ++ b) k = applyFrom m b (k + a.length) := by
  intro a
  induction a with
  | nil => intro l k h; have : l = m := congrArg (·.1) h; subst this; rfl
  | cons x a ih =>
    intro l k h
    simp only [applyFrom, List.cons_append] at h ⊢
    by_cases h0 : (oneE l x).2 = 0
    · rw [if_pos h0] at h ⊢
      rw [ih h, List.length_cons]
      congr 1; omega
    · rw [if_neg h0] at h
      exact absurd (congrArg (·.2.2) h) h0
theorem apply_back : ∀ {xs : List Ed} {l d : List El} {k : Nat} (j : Nat), KOk l → (∀ x ∈ xs, EdOk x) → applyFrom l xs k = (d, 0, 0) → applyFrom d (invE xs) j = (l, 0, 0) := by
  intro xs
  induction xs with
  | nil => intro l d k j _ _ h; have : l = d := congrArg (·.1) h; subst this; rfl
  | cons x xs ih =>
    intro l d k j hk hx h
    simp only [applyFrom] at h
    by_cases h0 : (oneE l x).2 = 0
    · rw [if_pos h0] at h
      have e1 := oneE_fst h0
      have := ih j (oneE_ok hk (hx x (by simp)) e1) (fun y hy => hx y (by simp [hy])) h
      have hi : invE (x :: xs) = invE xs ++ [turnE x] := by simp [invE]
      rw [hi, apply_app (l := d) this]
      have ob := one_back hk e1
      simp [applyFrom, ob]
    · rw [if_neg h0] at h
      exact absurd (congrArg (·.2.2) h) h0
theorem apply_rises : ∀ {xs : List Ed} {l d : List El} {k : Nat}, Rises l → applyFrom l xs k = (d, 0, 0) → Rises d := by
  intro xs
  induction xs with
  | nil => intro l d k hr h; have : l = d := congrArg (·.1) h; subst this; exact hr
  | cons x xs ih =>
    intro l d k hr h
    simp only [applyFrom] at h
    by_cases h0 : (oneE l x).2 = 0
    · rw [if_pos h0] at h
      exact ih (oneE_rises (oneE_fst h0)).2 h
    · rw [if_neg h0] at h
      exact absurd (congrArg (·.2.2) h) h0
/-- THE WAY BACK. -/
theorem way_back {l d : List El} {xs : List Ed} {k : Nat} (hk : KOk l) (hx : ∀ x ∈ xs, EdOk x) (h : applyE l xs = (d, k, 0)) : applyE d (invE xs) = (l, 0, 0) ∧ k = 0 := by
  unfold applyE at h ⊢
  cases hr : risesB l
  · rw [if_pos hr] at h; exact absurd (congrArg (·.2.2) h) (by simp)
  · rw [if_neg (by simp [hr])] at h
    have hk0 : ∀ {xs : List Ed} {l d : List El} {j k : Nat}, applyFrom l xs j = (d, k, 0) → k = 0 := by
      intro xs
      induction xs with
      | nil => intro l d j k h; exact (congrArg (·.2.1) h).symm
      | cons x xs ih =>
        intro l d j k h
        simp only [applyFrom] at h
        by_cases h0 : (oneE l x).2 = 0
        · rw [if_pos h0] at h; exact ih h
        · rw [if_neg h0] at h; exact absurd (congrArg (·.2.2) h) h0
    have e := hk0 h
    subst e
    rw [if_neg (by simp [(risesB_iff d).2 (apply_rises ((risesB_iff l).1 hr) h)])]
    exact ⟨apply_back 0 hk hx h, rfl⟩
theorem apply_nil {l d : List El} {xs : List Ed} {k : Nat} {e : Int} (h : applyE l xs = (d, k, e)) (he : e ≠ 0) : d = [] := by
  have main : ∀ {xs : List Ed} {l : List El} {j : Nat}, applyFrom l xs j = (d, k, e) → d = [] := by
    intro xs
    induction xs with
    | nil => intro l j h; exact absurd (congrArg (·.2.2) h).symm he
    | cons x xs ih =>
      intro l j h
      simp only [applyFrom] at h
      by_cases h0 : (oneE l x).2 = 0
      · rw [if_pos h0] at h; exact ih h
      · rw [if_neg h0] at h; exact (congrArg (·.1) h).symm
  unfold applyE at h
  split at h
  · exact (congrArg (·.1) h).symm
  · exact main h

end Go.Proofs.Ytbokdgcdkmnldaa
