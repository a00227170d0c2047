/- Own texts, packed: Df5. No statement is proved here. -/
import Derived.Test.YtkciaafkhpjnaaaQ20
namespace Go.Proofs.Ytkciaafkhpjnaaa
set_option maxRecDepth 100000
open Go.RowKit
set_option linter.unusedVariables false
set_option linter.unusedSimpArgs false

/-- Two edits of one number set unlike fields. -/
def OnceR (d1 d2 : Ed) : Prop := d1.e.id = d2.e.id → d1.op = 3 ∧ d2.op = 3 ∧ d1.f ≠ d2.f
theorem ordF_ids {c w : List El} : ∀ {q p : List El}, OrdF c w p q → p.Pairwise (fun x y => x.id ≠ y.id) → (p ++ q).Pairwise (fun x y => x.id ≠ y.id) := by
  intro q
  induction q with
  | nil => intro p _ h; simpa using h
  | cons e q ih =>
    intro p ho hp
    have : (p ++ [e]).Pairwise (fun x y => x.id ≠ y.id) := by
      rw [List.pairwise_append]
      refine ⟨hp, by simp, fun x hx y hy => ?_⟩
      rw [List.mem_singleton.1 hy]
      exact hasB_no.1 ho.1.2.2.1 x hx
    have := ih ho.2 this
    simpa [List.append_assoc] using this
theorem ord_ids (c w : List El) : (ordE c w).Pairwise (fun x y => x.id ≠ y.id) := by
  have := ordF_ids (ord_ord c w) List.Pairwise.nil
  simpa using this
theorem sets_once (x y : El) : (setsOf x y).Pairwise OnceR := by
  unfold setsOf setsUpto
  rw [List.pairwise_map]
  refine (List.Pairwise.filter _ List.pairwise_lt_range).imp ?_
  intro f g h _
  exact ⟨rfl, rfl, by show (f : Int) ≠ (g : Int); omega⟩
theorem setsAt_id {b : List El} {x : El} {d : Ed} (h : d ∈ setsAt b x) : d.e.id = x.id ∧ hasB b x.id = true := by
  unfold setsAt at h
  split at h
  · rename_i y hy
    obtain ⟨f, _, _, rfl⟩ := sets_mem.1 h
    exact ⟨rfl, hasB_iff.2 ⟨y, (getE_some hy).1, (getE_some hy).2⟩⟩
  · cases h
theorem setsE_once {b : List El} : ∀ {a : List El}, Rises a → (setsE a b).Pairwise OnceR := by
  intro a
  induction a with
  | nil => intro _; exact List.Pairwise.nil
  | cons x a ih =>
    intro hr
    have hp := List.pairwise_cons.1 hr
    show (setsAt b x ++ setsE a b).Pairwise OnceR
    rw [List.pairwise_append]
    refine ⟨?_, ih hp.2, fun d hd d2 hd2 e => ?_⟩
    · unfold setsAt
      split
      · exact sets_once _ _
      · exact List.Pairwise.nil
    · have h1 := (setsAt_id hd).1
      obtain ⟨z, hz, hd2⟩ := List.mem_flatMap.1 hd2
      have h2 := (setsAt_id hd2).1
      have := hp.1 z hz
      omega
/-- Each field of a number is set once at most, and what is added or dropped has one edit. -/
theorem diff_once {a b : List El} (ha : GoodD a) (hb : GoodD b) : (diffE a b).1.Pairwise OnceR := by
  have o1 := ord_good hb a
  have o2 := ord_good ha b
  unfold diffE
  rw [if_neg (by simp [(risesB_iff _).2 ha.rises, (risesB_iff _).2 hb.rises]), if_neg (by simp [o1, o2])]
  show ((ordE b a).map addD ++ (setsE a b ++ (ordE a b).reverse.map dropD)).Pairwise OnceR
  rw [List.pairwise_append, List.pairwise_append]
  have hset : ∀ d ∈ setsE a b, hasB a d.e.id = true ∧ hasB b d.e.id = true := fun d hd => by
    obtain ⟨x, hx, hd⟩ := List.mem_flatMap.1 hd
    obtain ⟨h1, h2⟩ := setsAt_id hd
    rw [h1]
    exact ⟨hasB_iff.2 ⟨x, hx, rfl⟩, h2⟩
  refine ⟨?_, ⟨setsE_once ha.rises, ?_, fun d hd d2 hd2 e => ?_⟩, fun d hd d2 hd2 e => ?_⟩
  · rw [List.pairwise_map]
    exact (ord_ids b a).imp (fun {x y} h e => absurd e h)
  · rw [List.pairwise_map, List.pairwise_reverse]
    exact (ord_ids a b).imp (fun {x y} h e => absurd e.symm h)
  · obtain ⟨z, hz, rfl⟩ := List.mem_map.1 hd2
    have h1 := (hset d hd).2
    have h2 := ((ord_mem ha.rises o2 z).1 (List.mem_reverse.1 hz)).2
    have e : d.e.id = z.id := e
    rw [e, h2] at h1; cases h1
  · obtain ⟨z, hz, rfl⟩ := List.mem_map.1 hd
    have h2 := ((ord_mem hb.rises o1 z).1 hz).2
    have e : z.id = d2.e.id := e
    rcases List.mem_append.1 hd2 with hd2 | hd2
    · have h1 := (hset d2 hd2).1
      rw [← e, h2] at h1; cases h1
    · obtain ⟨y, hy, rfl⟩ := List.mem_map.1 hd2
      have h3 := ((ord_mem ha.rises o2 y).1 (List.mem_reverse.1 hy)).1
      have : hasB a z.id = true := hasB_iff.2 ⟨y, h3, e.symm⟩
      rw [h2] at this; cases this

end Go.Proofs.Ytkciaafkhpjnaaa
