/- Own texts, packed: Gp, Tka, Tkb, Tkd. No statement is proved here. -/
import Derived.Test.YtkciaafkhpjnaaaQ19
import Derived.Test.YtkciaafkhpjnaaaQ20
import Derived.Test.YtkciaafkhpjnaaaQ09
import Derived.Deep.RegionHeld3
namespace Go.Proofs.Ytkciaafkhpjnaaa
set_option maxRecDepth 100000
open Go.RowKit
set_option linter.unusedVariables false
set_option linter.unusedSimpArgs false

theorem run_append_where {P : Program} {w : World} (t ty e : TypeId) (i : TypeInfo) (z : Value) (size bytes : Nat) (ht : P.underlying t = some (.slice e)) (hi : P.info? e = some i) (hz : i.zero = some z)
    (hsize : i.size = size) (hby : i.bytes = bytes) (hzs : z.cells.size = size) (hsz : 0 < size) (base : Nat)
    (v : Value) (n : Nat) (xs : List Value) (hown : w.ownsRow base e size v n xs)
    (a : Addr) (m c : Nat) (news : List Value) (hl : news.length = m * size) (hnews : ∀ j u, news[j]? = some u → w.cell? (a.add j) = some u) (h1 : ∀ u ∈ news, u.oneCell' = true)
    (h63 : n + m ≤ maxLen) (hbytes : (n + m) * bytes ≤ 140737488355328) (v' : Value) (w' : World)
    (hrun : (Builtin.append_ #[t, t] ty #[v, .slice (some a) m c]).run P w = .ok v' w') : Fresh w v v' := by
  have hsmall : n + m ≤ 9223372036854775807 := by simp only [maxLen] at h63; omega
  rcases hown.2 with ⟨rfl, rfl⟩ | ⟨g, cap, cur, rfl, hbg, hg, hnc, hcm, hcs, htake⟩
  · obtain ⟨v1, w1, hr, ho, _, _⟩ := run_append_own (P := P) w w.heap.size t ty e i z size bytes ht hi hz hsize hby hzs hsz (.slice none 0 0) 0 [] (World.ownsRow_nil _ _ _ _) a m c news hl hnews h1 h63 hbytes (Nat.le_refl _)
    rw [hr] at hrun
    cases hrun
    cases hv : v'.ownBlock with
    | none => exact .inl hv
    | some k => exact .inr ⟨k, hv, (ho.lt k hv).1⟩
  · subst hsize
    subst hby
    by_cases hroom : n + m ≤ cap
    · have hr := run_append_room (P := P) w t ty e i ht hi g n cap cur hg a m c news hl hnews h1 hroom (by rw [hl, hcs, ← Nat.add_mul]; exact Nat.mul_le_mul_right _ hroom)
      rw [hr] at hrun
      cases hrun
      exact .inl rfl
    · have hr := run_append_grow (P := P) w t ty e i z ht hi hz ⟨g, 0, none⟩ n cap xs hown.1 (hown.cells (g := g) rfl) a m c news hl hnews (by omega) (by omega) (growslice_fits (by omega) hbytes)
      rw [hr] at hrun
      cases hrun
      exact .inr ⟨_, rfl, Nat.le_refl _⟩


theorem own_blk {w : World} {base e size : Nat} {v : Value} {n : Nat} {xs : List Value} (h : w.ownsRow base e size v n xs) (h0 : 0 < n) : ∃ g, v.ownBlock = some g ∧ base ≤ g ∧ g < w.heap.size ∧ ∃ cs, w.heap[g]? = some (.cells cs e (0, 0)) := by
  rcases h.2 with ⟨rfl, h1⟩ | ⟨g, cap, cur, rfl, hb, hh, _⟩
  · omega
  · exact ⟨g, rfl, hb, (Array.getElem?_eq_some_iff.1 hh).1, _, hh⟩
theorem own_blk_of {w : World} {base e size : Nat} {v : Value} {n : Nat} {xs : List Value} (h : w.ownsRow base e size v n xs) {g : Nat} (hg : v.ownBlock = some g) : base ≤ g ∧ g < w.heap.size ∧ ∃ cs, w.heap[g]? = some (.cells cs e (0, 0)) := by
  rcases h.2 with ⟨rfl, h1⟩ | ⟨g', cap, cur, rfl, hb, hh, _⟩
  · cases hg
  · injection hg with hg
    subst hg
    exact ⟨hb, (Array.getElem?_eq_some_iff.1 hh).1, _, hh⟩
/-- append of one element, with the word on where the new row lies. -/
theorem app_one_fr (w : World) (base : Nat) (t ty : TypeId) (ht : Try.prog.underlying t = some (.slice 38)) (v : Value) (l1 : List El) (r : El) (ho : w.ownsRow base 38 10 v l1.length (elsV l1)) (hb : base ≤ w.heap.size) (hl : l1.length + 1 ≤ 1000000) :
    ∃ v' w', (Builtin.append_ #[t, t] ty #[v, .slice (some ⟨w.heap.size, 0, none⟩) 1 1]).run Try.prog (w.alloc (.cells r.vals.toArray 38)) = .ok v' w' ∧ w'.ownsRow base 38 10 v' (l1 ++ [r]).length (elsV (l1 ++ [r])) ∧ Turn (fun q => v.ownBlock = some q) w w' ∧ Fresh w v v' := by
  obtain ⟨v', w', hr, h1, h2, _⟩ := app_one w base t ty ht v l1 r ho hb hl
  refine ⟨v', w', hr, h1, h2, ?_⟩
  obtain ⟨i0, hi, hz0, hz1, hz2⟩ := info_parts el_infop
  have tb := (box_alloc w 38 r.vals).turn
  have ho1 := own_rows_turn ho tb (fun _ _ => id)
  have hf := run_append_where (P := Try.prog) (w := w.alloc (.cells r.vals.toArray 38)) t ty 38 i0 _ 10 112 ht hi hz0 hz1 hz2 (by rfl) (by decide) base v l1.length _ ho1 ⟨w.heap.size, 0, none⟩ 1 1 (elsV [r]) (by rw [elsV_len]; rfl) ((one_rowV (w := w) r).cells rfl) (elsV_one [r]) (by unfold maxLen; omega) (by omega) v' w' hr
  rcases hf with hf | ⟨g, h3, h4⟩
  · exact .inl hf
  · exact .inr ⟨g, h3, Nat.le_trans (by simp) h4⟩
/-- Values that own rows of elements, those of unlike numbers in unlike blocks. -/
structure Grp (b : Nat) (w : World) (M : Int → Option Value) (F : Int → List El) : Prop where
  non : ∀ p, I64 p → M p = none → F p = []
  own : ∀ p, I64 p → ∀ v, M p = some v → F p ≠ [] ∧ w.ownsRow b 38 10 v (F p).length (elsV (F p))
  apart : ∀ p q, p ≠ q → I64 p → I64 q → ∀ v u, M p = some v → M q = some u → ∀ g, v.ownBlock = some g → u.ownBlock ≠ some g
theorem Grp.made (b : Nat) (w : World) {F : Int → List El} (h : ∀ p, F p = []) : Grp b w (fun _ => none) F := ⟨fun p _ _ => h p, fun _ _ _ h => (by cases h), fun _ _ _ _ _ _ _ h => (by cases h)⟩
theorem Grp.turn {b : Nat} {w w' : World} {M : Int → Option Value} {F : Int → List El} {G : Nat → Prop} (h : Grp b w M F) (t : Turn G w w') (hn : ∀ q, b ≤ q → (∃ cs, w.heap[q]? = some (.cells cs 38 (0, 0))) → ¬ G q) : Grp b w' M F :=
  ⟨h.non, fun p hp v hv => ⟨(h.own p hp v hv).1, own_rows_turn (h.own p hp v hv).2 t (fun g hg => by
    obtain ⟨h1, _, h2⟩ := own_blk_of (h.own p hp v hv).2 hg
    exact hn g h1 h2)⟩, h.apart⟩
/-- What stands at a number, nil too. -/
theorem Grp.at {b : Nat} {w : World} {M : Int → Option Value} {F : Int → List El} (h : Grp b w M F) {p : Int} (hp : I64 p) : w.ownsRow b 38 10 ((M p).getD (.slice none 0 0)) (F p).length (elsV (F p)) := by
  cases hM : M p with
  | none => rw [h.non p hp hM]; exact World.ownsRow_nil _ _ _ _
  | some v => exact (h.own p hp v hM).2
theorem Grp.step {b : Nat} {w w' : World} {M : Int → Option Value} {F : Int → List El} (h : Grp b w M F) {p : Int} (hp : I64 p) (e : El) {v' : Value} (ho : w'.ownsRow b 38 10 v' (F p ++ [e]).length (elsV (F p ++ [e])))
    (t : Turn (fun q => ((M p).getD (.slice none 0 0)).ownBlock = some q) w w') (hf : Fresh w ((M p).getD (.slice none 0 0)) v') {F' : Int → List El} (hF1 : F' p = F p ++ [e]) (hF2 : ∀ q, q ≠ p → F' q = F q) : Grp b w' (updM M p (some v')) F' := by
  have hne : ∀ q, q ≠ p → I64 q → ∀ u, M q = some u → ∀ g, u.ownBlock = some g → v'.ownBlock ≠ some g := by
    intro q hqp hq u hu g hg e1
    rcases hf with hf | ⟨k, hk, hk2⟩
    · rw [hf] at e1
      cases hM : M p with
      | none => rw [hM] at e1; cases e1
      | some v => rw [hM] at e1; exact h.apart p q (Ne.symm hqp) hp hq v u hM hu g e1 hg
    · rw [hk] at e1
      cases e1
      have := (own_blk_of (h.own q hq u hu).2 hg).2.1
      omega
  refine ⟨?_, ?_, ?_⟩
  · intro q hq hM
    unfold updM at hM
    split at hM
    · cases hM
    · rename_i hqp
      rw [hF2 q hqp]; exact h.non q hq hM
  · intro q hq u hM
    unfold updM at hM
    split at hM
    · rename_i e1
      subst e1
      cases hM
      rw [hF1]
      exact ⟨by simp, ho⟩
    · rename_i hqp
      rw [hF2 q hqp]
      refine ⟨(h.own q hq u hM).1, own_rows_turn (h.own q hq u hM).2 t (fun g hg e1 => ?_)⟩
      cases hMp : M p with
      | none => rw [hMp] at e1; cases e1
      | some v => rw [hMp] at e1; exact h.apart p q (Ne.symm hqp) hp hq v u hMp hM g e1 hg
  · intro q r hqr hq hr v u hv hu g hg
    unfold updM at hv hu
    split at hv
    · split at hu
      · rename_i e1 e2; exact absurd (e1.trans e2.symm) hqr
      · rename_i e1 e2
        cases hv
        intro e3
        exact hne r e2 hr u hu g e3 hg
    · split at hu
      · rename_i e1 e2
        cases hu
        exact hne q e1 hq v hv g hg
      · exact h.apart q r hqr hq hr v u hv hu g hg
theorem waits_step (c W : List El) (i : Nat) (hi : i < c.length) (p : Int) : waits (c.take (i + 1)) W p = if waitB W (c.getD i el0) = true ∧ (c.getD i el0).par = p then waits (c.take i) W p ++ [c.getD i el0] else waits (c.take i) W p := by
  unfold waits
  rw [take_snoc c i hi, List.filter_append]
  by_cases h : waitB W (c.getD i el0) = true ∧ (c.getD i el0).par = p
  · rw [if_pos h, List.filter_cons_of_pos (by rw [Bool.and_eq_true, decide_eq_true_eq]; exact h), List.filter_nil]
  · rw [if_neg h, List.filter_cons_of_neg (by rw [Bool.and_eq_true, decide_eq_true_eq]; exact h), List.filter_nil, List.append_nil]
def roots1 (c W : List El) (i : Nat) : List Tn := ((c.take i).filter (rootB W)).map (fun e => ⟨e, 0⟩)
theorem roots1_step (c W : List El) (i : Nat) (hi : i < c.length) : roots1 c W (i + 1) = if rootB W (c.getD i el0) = true then roots1 c W i ++ [⟨c.getD i el0, 0⟩] else roots1 c W i := by
  unfold roots1
  rw [take_snoc c i hi, List.filter_append, List.map_append]
  split
  · rename_i h; rw [List.filter_cons_of_pos h]; rfl
  · rename_i h; rw [List.filter_cons_of_neg h]; simp
theorem roots1_len (c W : List El) (i : Nat) : (roots1 c W i).length ≤ i := by
  unfold roots1
  rw [List.length_map]
  exact Nat.le_trans (List.length_filter_le _ _) (by rw [List.length_take]; omega)
theorem waits_len (c W : List El) (p : Int) : (waits c W p).length ≤ c.length := List.length_filter_le _ _

end Go.Proofs.Ytkciaafkhpjnaaa
namespace Go.Proofs.Ytkciaafkhpjnaaa
set_option maxRecDepth 100000
open Go.RowKit
set_option linter.unusedVariables false
set_option linter.unusedSimpArgs false

/-- The first going through: what is taken at once, and what waits. -/
structure TkA (w0 wr : World) (B : Nat) (c W : List El) (i : Nat) (tv : Value) : Prop where
  own : wr.ownsRow w0.heap.size 86 11 tv (roots1 c W i).length (tnsV (roots1 c W i))
  map : ∃ M, MapP wr B i M ∧ Grp w0.heap.size wr M (waits (c.take i) W)
  turn : Turn (fun _ => False) w0 wr
  new : w0.heap.size ≤ B
theorem TkA.on {w0 w w' : World} {B : Nat} {c W : List El} {i : Nat} {tv : Value} (h : TkA w0 w B c W i tv) (t : Turn (fun _ => False) w w') : TkA w0 w' B c W i tv := by
  obtain ⟨M, h1, h2⟩ := h.map
  exact ⟨t.owns h.own (fun _ _ => id), ⟨M, h1.turn t id, h2.turn t (fun _ _ _ => id)⟩, h.turn.trans t (fun _ _ => id), h.new⟩
theorem exec_tn0 (ev : Operand → Value) (op : Oper) (x : Operand) (e : El) (ho : op.op = .build 86 #[(0, x)]) (hx : ev x = .agg e.vals.toArray) (w : World) : (execOp ev op).run Try.prog w = .ok (.value (.agg (Tn.mk e 0).vals.toArray)) w := by
  have h : (Instr.build 86 #[(0, .agg e.vals.toArray)]).run Try.prog w = .ok (.agg (Tn.mk e 0).vals.toArray) w := by kernel_rfl
  unfold execOp
  simp only [ho, hx, Sem.run_bind, Sem.run_pure, Result.andThen_ok, List.map_toArray, List.map_cons, List.map_nil, h]
theorem exec_tnR (ev : Operand → Value) (op : Oper) (x y : Operand) (e : El) (r : Nat) (ho : op.op = .build 86 #[(0, x), (1, y)]) (hx : ev x = .agg e.vals.toArray) (hy : ev y = .int .i64 (r : Int)) (w : World) : (execOp ev op).run Try.prog w = .ok (.value (.agg (Tn.mk e r).vals.toArray)) w := by
  have h : ∀ z : Int, (Instr.build 86 #[(0, .agg e.vals.toArray), (1, .int .i64 z)]).run Try.prog w = .ok (.agg (e.vals ++ [Value.int .i64 z]).toArray) w := by intro z; kernel_rfl
  have h := h (r : Int)
  unfold execOp
  simp only [ho, hx, hy, Sem.run_bind, Sem.run_pure, Result.andThen_ok, List.map_toArray, List.map_cons, List.map_nil, h]
  rfl
theorem TkA.root {w0 w w' : World} {B : Nat} {c W : List El} {i : Nat} {tv tv' : Value} (h : TkA w0 w B c W i tv) (hi : i < c.length) (hr : rootB W (c.getD i el0) = true)
    (ho : w'.ownsRow w0.heap.size 86 11 tv' (roots1 c W i ++ [Tn.mk (c.getD i el0) 0]).length (tnsV (roots1 c W i ++ [Tn.mk (c.getD i el0) 0]))) (t : Turn (fun q => tv.ownBlock = some q) w w') : TkA w0 w' B c W (i + 1) tv' := by
  obtain ⟨M, h1, h2⟩ := h.map
  have hF : waits (c.take (i + 1)) W = waits (c.take i) W := funext fun p => by
    rw [waits_step c W i hi, if_neg (by rw [root_not_wait hr]; simp)]
  refine ⟨by rw [roots1_step c W i hi, if_pos hr]; exact ho, ⟨M, ?_, ?_⟩, turn_on_tn h.own (Nat.le_refl _) h.turn t, h.new⟩
  · have h3 := h1.turn t (fun e => by
      obtain ⟨_, _, cs, h4⟩ := own_blk_of h.own e
      obtain ⟨es, ck, h5⟩ := h1.obj
      rw [h5] at h4; cases h4)
    obtain ⟨D, ⟨h6, h7, h8⟩⟩ := h3
    exact ⟨D, h6.mono (Nat.le_succ i), h7, h8⟩
  · rw [hF]
    exact h2.turn t (fun q _ ⟨cs, hq⟩ e => by
      obtain ⟨_, _, cs', h4⟩ := own_blk_of h.own e
      rw [hq] at h4; cases h4)
theorem TkA.old {w0 w : World} {B : Nat} {c W : List El} {i : Nat} {tv : Value} (h : TkA w0 w B c W i tv) (hi : i < c.length) (hr : hasB W (c.getD i el0).id = true) : TkA w0 w B c W (i + 1) tv := by
  obtain ⟨M, h1, h2⟩ := h.map
  have hF : waits (c.take (i + 1)) W = waits (c.take i) W := funext fun p => by
    rw [waits_step c W i hi, if_neg (by unfold waitB; rw [hr]; simp)]
  have hR : roots1 c W (i + 1) = roots1 c W i := by rw [roots1_step c W i hi, if_neg (by unfold rootB; rw [hr]; simp)]
  obtain ⟨D, ⟨h6, h7, h8⟩⟩ := h1
  exact ⟨by rw [hR]; exact h.own, ⟨M, ⟨D, h6.mono (Nat.le_succ i), h7, h8⟩, by rw [hF]; exact h2⟩, h.turn, h.new⟩
/-- An element that waits is laid to the others of its number. -/
theorem TkA.wait {w0 w w2 w3 : World} {B : Nat} {c W : List El} {i : Nat} {tv v' : Value} {M : Int → Option Value} (h : TkA w0 w B c W i tv) (hM : MapP w B i M) (hG : Grp w0.heap.size w M (waits (c.take i) W)) (hi : i < c.length) (hw : waitB W (c.getD i el0) = true) (hp : I64 (c.getD i el0).par)
    (ho : w2.ownsRow w0.heap.size 38 10 v' (waits (c.take i) W (c.getD i el0).par ++ [c.getD i el0]).length (elsV (waits (c.take i) W (c.getD i el0).par ++ [c.getD i el0])))
    (t : Turn (fun q => ((M (c.getD i el0).par).getD (.slice none 0 0)).ownBlock = some q) w w2) (hf : Fresh w ((M (c.getD i el0).par).getD (.slice none 0 0)) v')
    (h3 : MapP w3 B (i + 1) (updM M (c.getD i el0).par (some v'))) (t3 : Turn (fun q => q = B) w2 w3) : TkA w0 w3 B c W (i + 1) tv := by
  have hR : roots1 c W (i + 1) = roots1 c W i := by
    rw [roots1_step c W i hi, if_neg]
    intro hr
    rw [root_not_wait hr] at hw; cases hw
  have hat := hG.at hp
  have hB2 : ∃ es ck, w2.heap[B]? = some (.map es ck) := (hM.turn t (fun e => by
      obtain ⟨_, _, cs, h4⟩ := own_blk_of hat e
      obtain ⟨es, ck, h5⟩ := hM.obj
      rw [h5] at h4; cases h4)).obj
  have hG2 := hG.step hp (c.getD i el0) ho t hf (F' := waits (c.take (i + 1)) W) (by rw [waits_step c W i hi, if_pos ⟨hw, rfl⟩]) (fun q hq => by rw [waits_step c W i hi, if_neg (fun e => hq e.2.symm)])
  refine ⟨?_, ⟨_, h3, ?_⟩, ?_, h.new⟩
  · rw [hR]
    have o2 := t.owns h.own (fun g hg e => by
      obtain ⟨_, _, cs, h4⟩ := own_blk_of h.own hg
      obtain ⟨_, _, cs', h5⟩ := own_blk_of hat e
      rw [h4] at h5; cases h5)
    exact t3.owns o2 (fun g hg e => by
      subst e
      obtain ⟨_, _, cs, h4⟩ := own_blk_of o2 hg
      obtain ⟨es, ck, h5⟩ := hB2
      rw [h4] at h5; cases h5)
  · exact hG2.turn t3 (fun q _ ⟨cs, hq⟩ e => by
      subst e
      obtain ⟨es, ck, h5⟩ := hB2
      rw [hq] at h5; cases h5)
  · have t1 := turn_on hat (Nat.le_refl _) h.turn t
    exact t1.trans t3 (fun q hq e => by have := h.new; omega)

end Go.Proofs.Ytkciaafkhpjnaaa
namespace Go.Proofs.Ytkciaafkhpjnaaa
set_option maxRecDepth 100000
open Go.RowKit
set_option linter.unusedVariables false
set_option linter.unusedSimpArgs false

def goneM (T : List Tn) (i : Nat) (M : Int → Option Value) : Int → Option Value := fun p => if (T.take i).any (fun t => decide (t.e.id = p)) = true then none else M p
/-- The second going through: those that wait by one that was taken are taken. -/
structure TkB (w0 wr : World) (B n : Nat) (c W : List El) (M : Int → Option Value) (T : List Tn) (i : Nat) (tv : Value) : Prop where
  st : TkS c W T i
  own : wr.ownsRow w0.heap.size 86 11 tv T.length (tnsV T)
  map : MapP wr B n (goneM T i M)
  grp : Grp w0.heap.size wr M (waits c W)
  turn : Turn (fun _ => False) w0 wr
  new : w0.heap.size ≤ B
theorem TkB.on {w0 w w' : World} {B n : Nat} {c W : List El} {M : Int → Option Value} {T : List Tn} {i : Nat} {tv : Value} (h : TkB w0 w B n c W M T i tv) (t : Turn (fun _ => False) w w') : TkB w0 w' B n c W M T i tv :=
  ⟨h.st, t.owns h.own (fun _ _ => id), h.map.turn t id, h.grp.turn t (fun _ _ _ => id), h.turn.trans t (fun _ _ => id), h.new⟩
theorem TkA.done {w0 w : World} {B : Nat} {c W : List El} (hr : Rises c) {tv : Value} (h : TkA w0 w B c W c.length tv) : ∃ M, TkB w0 w B c.length c W M (roots1 c W c.length) 0 tv := by
  obtain ⟨M, h1, h2⟩ := h.map
  rw [List.take_length] at h2
  refine ⟨M, ?_, h.own, ?_, h2, h.turn, h.new⟩
  · unfold roots1; rw [List.take_length]; exact TkS.start hr
  · exact h1
/-- While those that wait by one are taken. -/
structure TkC (w0 wr : World) (B n : Nat) (c W : List El) (M : Int → Option Value) (T : List Tn) (i : Nat) (u : Tn) (k : Nat) (tv : Value) : Prop where
  own : wr.ownsRow w0.heap.size 86 11 tv (T ++ (kids c W u).take k).length (tnsV (T ++ (kids c W u).take k))
  map : MapP wr B n (goneM T i M)
  grp : Grp w0.heap.size wr M (waits c W)
  turn : Turn (fun _ => False) w0 wr
theorem TkC.on {w0 w w' : World} {B n : Nat} {c W : List El} {M : Int → Option Value} {T : List Tn} {i k : Nat} {u : Tn} {tv : Value} (h : TkC w0 w B n c W M T i u k tv) (t : Turn (fun _ => False) w w') : TkC w0 w' B n c W M T i u k tv :=
  ⟨t.owns h.own (fun _ _ => id), h.map.turn t id, h.grp.turn t (fun _ _ _ => id), h.turn.trans t (fun _ _ => id)⟩
theorem kids_take (c W : List El) (u : Tn) (k : Nat) (h : k < (waits c W u.e.id).length) : (kids c W u).take (k + 1) = (kids c W u).take k ++ [kid u ((waits c W u.e.id).getD k el0)] := by
  unfold kids
  rw [← List.map_take, ← List.map_take, take_snoc _ k h, List.map_append]
  rfl
theorem TkC.step {w0 w w' : World} {B n : Nat} {c W : List El} {M : Int → Option Value} {T : List Tn} {i k : Nat} {u : Tn} {tv tv' : Value} (h : TkC w0 w B n c W M T i u k tv) (hk : k < (waits c W u.e.id).length)
    (ho : w'.ownsRow w0.heap.size 86 11 tv' (T ++ (kids c W u).take k ++ [kid u ((waits c W u.e.id).getD k el0)]).length (tnsV (T ++ (kids c W u).take k ++ [kid u ((waits c W u.e.id).getD k el0)])))
    (t : Turn (fun q => tv.ownBlock = some q) w w') : TkC w0 w' B n c W M T i u (k + 1) tv' := by
  refine ⟨by rw [kids_take c W u k hk, ← List.append_assoc]; exact ho, ?_, ?_, turn_on_tn h.own (Nat.le_refl _) h.turn t⟩
  · exact h.map.turn t (fun e => by
      obtain ⟨_, _, cs, h4⟩ := own_blk_of h.own e
      obtain ⟨es, ck, h5⟩ := h.map.obj
      rw [h5] at h4; cases h4)
  · exact h.grp.turn t (fun q _ ⟨cs, hq⟩ e => by
      obtain ⟨_, _, cs', h4⟩ := own_blk_of h.own e
      rw [hq] at h4; cases h4)
theorem TkB.start {w0 w : World} {B n : Nat} {c W : List El} {M : Int → Option Value} {T : List Tn} {i : Nat} {tv : Value} (h : TkB w0 w B n c W M T i tv) (u : Tn) : TkC w0 w B n c W M T i u 0 tv :=
  ⟨by simpa using h.own, h.map, h.grp, h.turn⟩
theorem not_gone {c W : List El} {T : List Tn} {i : Nat} (h : TkS c W T i) (hi : i < T.length) (M : Int → Option Value) : goneM T i M (T.getD i tn0).e.id = M (T.getD i tn0).e.id := by
  unfold goneM
  rw [if_neg]
  intro ha
  rw [List.any_eq_true] at ha
  obtain ⟨t, ht, e⟩ := ha
  obtain ⟨j, hj, hje⟩ := List.getElem_of_mem ht
  rw [List.length_take] at hj
  rw [List.getElem_take] at hje
  have := nodup_same h.nd (show j < T.length by omega) hi (by rw [hje]; simpa [List.getD, hi] using e)
  omega
theorem TkC.done {w0 w w' : World} {B n : Nat} {c W : List El} (hr : Rises c) {M : Int → Option Value} {T : List Tn} {i : Nat} {tv : Value} (hs : TkS c W T i) (hi : i < T.length) (hn : w0.heap.size ≤ B) (h : TkC w0 w B n c W M T i (T.getD i tn0) (waits c W (T.getD i tn0).e.id).length tv)
    (hm : MapP w' B n (updM (goneM T i M) (T.getD i tn0).e.id none)) (t : Turn (fun q => q = B) w w') : TkB w0 w' B n c W M (T ++ kids c W (T.getD i tn0)) (i + 1) tv := by
  have hk : (kids c W (T.getD i tn0)).take (waits c W (T.getD i tn0).e.id).length = kids c W (T.getD i tn0) := List.take_of_length_le (by unfold kids; rw [List.length_map]; exact Nat.le_refl _)
  have hg : T.getD i tn0 = T[i] := by simp [List.getD, hi]
  have hobj := h.map.obj
  have hne : ∀ g, (∃ cs T', w.heap[g]? = some (.cells cs T' (0, 0))) → ¬ g = B := fun g ⟨cs, T', hq⟩ e => by
    subst e
    obtain ⟨es, ck, h5⟩ := hobj
    rw [hq] at h5; cases h5
  have ho := h.own
  rw [hk] at ho
  refine ⟨by rw [hg]; exact hs.step hr hi, t.owns ho (fun g hgg => hne g (by obtain ⟨_, _, cs, h4⟩ := own_blk_of ho hgg; exact ⟨cs, _, h4⟩)), ?_, h.grp.turn t (fun q _ ⟨cs, hq⟩ => hne q ⟨cs, _, hq⟩), h.turn.trans t (fun q hq e => by omega), hn⟩
  have e : updM (goneM T i M) (T.getD i tn0).e.id none = goneM (T ++ kids c W (T.getD i tn0)) (i + 1) M := funext fun p => by
    unfold updM goneM
    rw [List.take_append_of_le_length (by omega), take_snoc_tn T i hi, List.any_append]
    by_cases hp : p = (T.getD i tn0).e.id
    · rw [if_pos hp, if_pos (by simp [hp])]
    · rw [if_neg hp]
      have : (([T.getD i tn0] : List Tn).any fun t => decide (t.e.id = p)) = false := by
        simp only [List.any_cons, List.any_nil, Bool.or_false, decide_eq_false_iff_not]
        exact fun e => hp e.symm
      rw [this, Bool.or_false]
  rw [← e]; exact hm
theorem TkB.ok {w0 w : World} {B n : Nat} {c W : List El} (hr : Rises c) (hi : ∀ x ∈ c, I64 x.id ∧ I64 x.par) {M : Int → Option Value} {T : List Tn} {tv : Value} (h : TkB w0 w B n c W M T T.length tv) {s : Nat} (hs : s = 0 ↔ ∀ p, I64 p → goneM T T.length M p = none) : decide ((s : Int) = 0) = ordOk c W := by
  rw [Bool.eq_iff_iff, take_ok hr h.st, decide_eq_true_eq]
  have e : ((s : Int) = 0) ↔ s = 0 := by omega
  rw [e, hs]
  have hany : ∀ p, ((T.take T.length).any (fun t => decide (t.e.id = p)) = true) ↔ ∃ t ∈ T, t.e.id = p := fun p => by
    rw [List.take_length, List.any_eq_true]
    simp
  constructor
  · intro hall p hw
    obtain ⟨x, hx⟩ := List.exists_mem_of_ne_nil _ hw
    obtain ⟨h1, _, h2⟩ := mem_waits.1 hx
    have hp : I64 p := by rw [← h2]; exact (hi x h1).2
    have := hall p hp
    unfold goneM at this
    split at this
    · rename_i h3; exact (hany p).1 h3
    · exact absurd (h.grp.non p hp this) hw
  · intro hall p hp
    unfold goneM
    split
    · rfl
    · rename_i h3
      cases hM : M p with
      | none => rfl
      | some v => exact absurd ((hany p).2 (hall p (h.grp.own p hp v hM).1)) h3
def TakeP (w : World) (c W : List El) (e : Ending) (w' : World) : Prop := ∃ v T, TkS c W T T.length ∧ e = .returned (.tuple #[v, .bool (ordOk c W)]) ∧ w'.ownsRow w.heap.size 86 11 v T.length (tnsV T) ∧ Turn (fun _ => False) w w'
theorem exec_zero_tn (ev : Operand → Value) (op : Oper) (ho : op.op = .alloc 86) (w : World) : (execOp ev op).run Try.prog w = .ok (.value (.pointer (some ⟨w.heap.size, 0, none⟩))) (w.alloc (.cells tn0.vals.toArray 86)) := by
  unfold execOp
  simp only [ho, Sem.run_bind, tn_zero, Result.andThen_ok]
  rfl

end Go.Proofs.Ytkciaafkhpjnaaa
namespace Go.Proofs.Ytkciaafkhpjnaaa
set_option maxRecDepth 100000
open Go.RowKit
set_option linter.unusedVariables false
set_option linter.unusedSimpArgs false

theorem oper_skip {P : Program} {op : Oper} {a : Act} {w : World} {K : Act → World → Prop} {Q : Exit → Act → World → Prop} (w' : World) (h : (execOp a.eval op).run P w = .ok .skip w') (hk : K (a.put op.dst undef) w') : op.wp P a w K Q := by
  unfold Oper.wp
  rw [h]
  exact hk
theorem exec_mkmap (ev : Operand → Value) (op : Oper) (ho : op.op = .makeMap 102 none) (w : World) : (execOp ev op).run Try.prog w = .ok (.value (.map (some w.heap.size))) (w.alloc (.map #[] 0)) := by
  unfold execOp
  simp only [ho]
  rfl
theorem app_one_tnF (w : World) (base : Nat) (t ty : TypeId) (ht : Try.prog.underlying t = some (.slice 86)) (v : Value) (l1 : List Tn) (r : Tn) (ho : w.ownsRow base 86 11 v l1.length (tnsV l1)) (hb : base ≤ w.heap.size) (hl : l1.length + 1 ≤ 1000000) :
    ∃ v' w', (Builtin.append_ #[t, t] ty #[v, .slice (some ⟨w.heap.size, 0, none⟩) 1 1]).run Try.prog (w.alloc (.cells r.vals.toArray 86)) = .ok v' w' ∧ w'.ownsRow base 86 11 v' (l1 ++ [r]).length (tnsV (l1 ++ [r])) ∧ Turn (fun q => v.ownBlock = some q) w w' ∧ Fresh w v v' := by
  obtain ⟨v', w', hr, h1, h2, _⟩ := app_one_tn w base t ty ht v l1 r ho hb hl
  refine ⟨v', w', hr, h1, h2, ?_⟩
  obtain ⟨i0, hi, hz0, hz1, hz2⟩ := info_parts tn_infop
  have tb := (box_alloc w 86 r.vals).turn
  have ho1 := tb.owns ho (fun _ _ => id)
  have hf := run_append_where (P := Try.prog) (w := w.alloc (.cells r.vals.toArray 86)) t ty 86 i0 _ 11 120 ht hi hz0 hz1 hz2 (by rfl) (by decide) base v l1.length _ ho1 ⟨w.heap.size, 0, none⟩ 1 1 (tnsV [r]) (by rw [tnsV_len]; rfl) ((one_tnV (w := w) r).cells rfl) (tnsV_one [r]) (by unfold maxLen; omega) (by omega) v' w' hr
  rcases hf with hf | ⟨g, h3, h4⟩
  · exact .inl hf
  · exact .inr ⟨g, h3, Nat.le_trans (by simp) h4⟩
theorem TkC.cut {w0 wb w w' : World} {B n Z : Nat} {c W : List El} {M : Int → Option Value} {T : List Tn} {i k : Nat} {u : Tn} {tv : Value} (h : TkC w0 w B n c W M T i u k tv) (hz : wb.heap.size = Z) (tb : Turn (fun _ => False) wb w) (hb : TkC w0 wb B n c W M T i u k tv) (t : Turn (fun q => q = Z) w w') : TkC w0 w' B n c W M T i u k tv :=
  hb.on ((tb.trans t (fun q hq e => by omega)))
theorem par_of {w : World} {X : Nat} {T : TypeId} {x : El} (h : w.heap[X]? = some (.cells x.vals.toArray T (0, 0))) : w.cell? ⟨X, 2, none⟩ = some (.int .i64 x.par) := range_of h 2 _ rfl
theorem id_of {w : World} {X : Nat} {T : TypeId} {x : El} (h : w.heap[X]? = some (.cells x.vals.toArray T (0, 0))) : w.cell? ⟨X, 0, none⟩ = some (.int .i64 x.id) := range_of h 0 _ rfl
set_option maxHeartbeats 16000000 in
theorem take_any (w : World) (vc vw : Value) (c W : List El) (hc : RowV w vc c) (hw : RowV w vw W) (hrc : Rises c) (hrw : Rises W) (hl : c.length ≤ 100) (hlw : W.length ≤ 100) (hi : ∀ x ∈ c, I64 x.id ∧ I64 x.par) : Calls Try.prog 42 #[vc, vw] w (TakeP w c W) := by
  obtain ⟨la, lc, rfl⟩ := hc.form
  obtain ⟨n, hn⟩ : ∃ n, c.length = n := ⟨_, rfl⟩
  simp only [hn] at hc hl ⊢
  have HC := Lib.hid hc
  have HW := Lib.hid hw
  have HRC := Lib.hid hrc
  have HRW := Lib.hid hrw
  have HN := Lib.hid hn
  have HI := Lib.hid hi
  have HLW := Lib.hid (show W.length ≤ 1000 by omega)
  have hn1 : n ≤ 100 := hl
  clear hc hw hrc hrw hn hlw hl hi
  obtain ⟨B, hB⟩ : ∃ B, w.heap.size = B := ⟨_, rfl⟩
  obtain ⟨wm, hwm⟩ : ∃ wm, w.alloc (.map #[] 0) = wm := ⟨_, rfl⟩
  have hx : ∀ ev op, op.op = .makeMap 102 none → (execOp ev op).run Try.prog w = .ok (.value (.map (some B))) wm := fun ev op ho => by rw [← hwm, ← hB]; exact exec_mkmap ev op ho w
  have hst : TkA w wm B c W 0 (.slice none 0 0) := by
    refine ⟨World.ownsRow_nil _ _ _ _, ⟨fun _ => none, ?_, Grp.made _ _ (fun p => rfl)⟩, ?_, by omega⟩
    · rw [← hwm, ← hB]; exact MapP.made w
    · rw [← hwm]; exact (Turn.refl _ w).alloc _
  have HXM := Lib.hid hx
  have HST := Lib.hid hst
  have HBW := Lib.hid hB
  clear hx hst hB hwm
  go_enter Try.func42, Try.ntmps42
  go_wp2_with (with_reducible (show wpList _ _ _ (Oper.mk (some 15) (.makeMap 102 none) _ _ _ _ :: _) _ _); refine still ?_)
  refine list_exec rfl _ _ (HXM.out _ _ rfl) ?_
  go_wp2_with fail
  go_loopw [6, 18] (fun tv iv wr => ∃ i : Nat, i ≤ n ∧ iv = .int .i64 (i : Int) ∧ TkA w wr B c W i tv) (fun _ iv _ => n - (intOf iv).toNat)
  case atStart => exact ⟨0, Nat.zero_le _, rfl, HST.out⟩
  case round =>
    obtain ⟨i, hin, rfl, hta⟩ := hrel
    have HA := Lib.hid hta
    clear hta
    by_cases hlt : i < n
    · have gi : (0 : Int) ≤ (i : Int) ∧ (i : Int) < (n : Int) := by omega
      have dk : decide ((i : Int) < (n : Int)) = true := decide_eq_true (by omega)
      obtain ⟨g, o, rfl, hcc, hs⟩ := (HC.out.turn HA.out.turn (fun _ _ => id)).one HN.out i hlt
      have hxc := getD_mem (l := c) (k := i) (by rw [HN.out]; exact hlt)
      have hxi := HI.out _ hxc
      have HLT := Lib.hid (show i < c.length by rw [HN.out]; exact hlt)
      obtain ⟨x, hx⟩ : ∃ x, c.getD i el0 = x := ⟨_, rfl⟩
      rw [hx] at hs hxi
      have HXE := Lib.hid hx
      have HS := Lib.hid hs
      have HXI := Lib.hid hxi
      clear hx hs hxc hxi hcc
      have hbb := box_alloc wr 38 el0.vals
      obtain ⟨X, hE⟩ : ∃ X, wr.heap.size = X := ⟨_, rfl⟩
      obtain ⟨wz, hwz⟩ : ∃ wz, wr.alloc (.cells el0.vals.toArray 38) = wz := ⟨_, rfl⟩
      have hx0 : ∀ ev op, op.op = .alloc 38 → (execOp ev op).run Try.prog wr = .ok (.value (.pointer (some ⟨X, 0, none⟩))) wz := fun ev op ho => by rw [← hwz, ← hE]; exact exec_zero24 ev op ho _
      rw [hwz] at hbb
      have hhh := hbb.heap
      rw [hE] at hhh
      have HX0 := Lib.hid hx0
      have HBB := Lib.hid hbb.turn
      have HHB := Lib.hid hhh
      have HEE := Lib.hid hE
      clear hbb hE hwz hx0 hhh
      go_wp2_with (with_reducible (show wpList _ _ _ (Oper.mk (some 21) (.load 38 (.tmp 20)) _ _ _ _ :: _) _ _); refine still ?_)
      refine wpList_load_mid rfl 38 (.tmp 20) rfl g (o + i * 10) rfl x.vals _ HS.out Try.underlying38 rfl el_info ?_
      go_wp2_with (with_reducible (show wpList _ _ _ (Oper.mk (some 9) (.alloc 38) _ _ _ _ :: _) _ _); refine still ?_)
      refine list_exec rfl _ _ (HX0.out _ _ rfl) ?_
      go_wp2_with (with_reducible (show wpList _ _ _ (Oper.mk none (.store 38 (.tmp 9) (.tmp 21)) _ _ _ _ :: _) _ _); refine still ?_)
      refine list_put wz X 38 el0.vals x.vals HHB.out rfl x.vals_one el_info rfl (.tmp 9) (.tmp 21) rfl rfl rfl (fun wa h2 t2 => ?_)
      have HX := Lib.hid h2
      have Twa := Lib.hid (show Turn (fun _ => False) wr wa from HBB.out.trans t2 (fun q hq e => by have := HEE.out; omega))
      have LX := Lib.hid (show wr.heap.size = X from HEE.out)
      clear h2 t2 HX0 HBB HHB HEE
      have HA1 := Lib.hid (HA.out.on Twa.out)
      have c0 := id_of HX.out
      go_wp2_with fail
      refine (has_any wa vw W x.id (HW.out.turn HA1.out.turn (fun _ _ => id)) HRW.out HLW.out).mono ?_
      rintro r wb ⟨rfl, tb⟩
      have HA2 := Lib.hid (HA1.out.on tb)
      have HX2 := Lib.hid ((tb.block X (Array.getElem?_eq_some_iff.1 HX.out).1 id).trans HX.out)
      have TC2 := Lib.hid (Twa.out.trans tb (fun _ _ => id))
      clear tb c0
      obtain ⟨b0, hb0⟩ : ∃ b, hasB W x.id = b := ⟨_, rfl⟩
      have HB0 := Lib.hid hb0
      rw [hb0]
      clear hb0
      cases b0
      · have c2 := par_of HX2.out
        by_cases hp0 : x.par = 0
        · have q0 : (x.par == 0) = true := by simpa using hp0
          have HRT := Lib.hid (show rootB W x = true by unfold rootB; rw [HB0.out, decide_eq_true hp0]; rfl)
          clear hp0
          obtain ⟨vy, wy, hry, hoy, ty, fy⟩ := app_one_tnF wb w.heap.size 81 81 Try.underlying81 _ (roots1 c W i) (Tn.mk x 0) HA2.out.own HA2.out.turn.size (by have := roots1_len c W i; omega)
          have HRY := Lib.hid hry
          have HAY := Lib.hid (HA2.out.root HLT.out (by rw [HXE.out]; exact HRT.out) (by rw [HXE.out]; exact hoy) ty)
          clear hry hoy ty fy
          go_wp2_with (with_reducible (show wpList _ _ _ (Oper.mk (some 48) (.load 38 (.tmp 9)) _ _ _ _ :: _) _ _); refine still ?_)
          refine wpList_load_mid rfl 38 (.tmp 9) rfl X 0 rfl x.vals _ (range_of HX2.out) Try.underlying38 rfl el_info ?_
          go_wp2_with (with_reducible (show wpList _ _ _ (Oper.mk (some 49) (.build 86 _) _ _ _ _ :: _) _ _); refine still ?_)
          refine list_exec rfl _ _ (exec_tn0 _ _ (.tmp 48) x rfl rfl _) ?_
          go_wp2_with (with_reducible (show wpList _ _ _ (Oper.mk (some 50) (.buildSlice 81 _ _) _ _ _ _ :: _) _ _); refine still ?_)
          refine list_exec rfl _ _ (exec_build_one_tn _ _ (.tmp 49) 81 Try.underlying81 rfl (Tn.mk x 0) rfl _) ?_
          go_wp2_with (with_reducible (show wpList _ _ _ (Oper.mk (some 51) (_) _ _ _ _ :: _) _ _); refine still ?_)
          refine list_exec rfl _ _ (exec_append _ _ (.tmp 47) (.tmp 50) 81 rfl _ _ _ _ _ rfl rfl HRY.out) ?_
          go_wp2_with fail
          go_roundw
          case rel => exact ⟨i + 1, by omega, by go_num, HAY.out⟩
          case measure => simp [intOf]; omega
        · have q0 : (x.par == 0) = false := by simpa using hp0
          have HP0 := Lib.hid (show decide (x.par = 0) = false from decide_eq_false hp0)
          clear hp0
          go_wp2_with (go_at_call 59; refine (has_any wb vw W x.par (HW.out.turn HA2.out.turn (fun _ _ => id)) HRW.out HLW.out).mono ?_; rintro r wc ⟨rfl, tc⟩; have HA3 := Lib.hid (HA2.out.on tc); have HX3 := Lib.hid ((tc.block X (Array.getElem?_eq_some_iff.1 HX2.out).1 id).trans HX2.out); have TC3 := Lib.hid (TC2.out.trans tc (fun _ _ => id)); clear tc; refine still ?_)
          unfold Still
          obtain ⟨b1, hb1⟩ : ∃ b, hasB W x.par = b := ⟨_, rfl⟩
          have HB1 := Lib.hid hb1
          rw [hb1]
          clear hb1 c2
          cases b1
          · have HWT := Lib.hid (show waitB W x = true by unfold waitB; rw [HB0.out, HP0.out, HB1.out]; rfl)
            go_wp2_with fail
            obtain ⟨wx, hwx⟩ : ∃ wx, wc.drew = wx := ⟨_, rfl⟩
            have hdx : Turn (fun _ => False) wc wx := by rw [← hwx]; exact (Turn.refl (fun _ => False) wc).drew
            have hax := HA3.out.on hdx
            have hx5 := (hdx.block X (Array.getElem?_eq_some_iff.1 HX3.out).1 id).trans HX3.out
            have HX5 := Lib.hid hx5
            have HWX := Lib.hid hwx
            clear hwx hx5
            obtain ⟨M, hm0, hg0⟩ := HA.out.map
            have htx := TC3.out.trans hdx (fun _ _ => id)
            have hm1 := hm0.turn htx id
            have hg1 := hg0.turn htx (fun _ _ _ => id)
            have hxp := HXI.out.2
            have hat := hg1.at hxp
            obtain ⟨lv, hlv⟩ : ∃ lv, (M x.par).getD (.slice none 0 0) = lv := ⟨_, rfl⟩
            rw [hlv] at hat
            obtain ⟨vy, wy, hry, hoy, ty, fy⟩ := app_one_fr wx w.heap.size 24 24 Try.underlying24 lv (waits (c.take i) W x.par) x hat hax.turn.size (by have := waits_len (c.take i) W x.par; rw [List.length_take] at this; omega)
            obtain ⟨es, ck, hob⟩ := hm1.obj
            have hnb : ¬ lv.ownBlock = some B := fun e => by
              obtain ⟨_, _, cs, h4⟩ := own_blk_of hat e
              rw [hob] at h4; cases h4
            have hmy := hm1.turn ty hnb
            obtain ⟨wz, hrz, hmz, tz⟩ := hmy.put hxp (by omega) vy
            have hat0 := hg0.at hxp
            rw [hlv] at hat0
            have hnx : ¬ lv.ownBlock = some X := fun e => by
              have h7 := (own_blk_of hat0 e).2.1
              have := LX.out
              omega
            have HAZ := Lib.hid (hax.wait (v' := vy) (w3 := wz) hm1 hg1 HLT.out (by rw [HXE.out]; exact HWT.out) (by rw [HXE.out]; exact hxp) (by rw [HXE.out]; exact hoy) (by rw [HXE.out, hlv]; exact ty) (by rw [HXE.out, hlv]; exact fy) (by rw [HXE.out]; exact hmz) tz)
            have HRY := Lib.hid hry
            have HPZ := Lib.hid hrz
            have TYY := Lib.hid ty
            have TZ := Lib.hid tz
            have NXV := Lib.hid hnx
            have NXB := Lib.hid (show ¬ X = B from fun e => by have h5 := HX5.out; rw [e] at h5; rw [hob] at h5; cases h5)
            have HLV := Lib.hid hlv
            have HM1 := Lib.hid hm1
            have HXP := Lib.hid hxp
            have HM2 := Lib.hid (hm1.turn (box_alloc wx 38 x.vals).turn id)
            clear hry hrz ty tz hnx hlv hm1 hg1 hat hax hoy fy hmz hmy hob hnb hxp hm0 hg0 htx hdx hat0
            refine wp_region_held_drew (S := fun wq => wq.rangeAt X 0 x.vals) (by kernel_rfl) (by rw [HWX.out]; exact range_of HX5.out) (fun hHeld => ?_)
            rw [HWX.out] at hHeld ⊢
            refine wpAnyH_take (i := 0) (v := .map (some B)) rfl (by kernel_rfl) (by kernel_rfl) (by kernel_rfl) (fun _ _ _ h => h) (Or.inl ⟨by rfl, ?yq1⟩) (by assumption) ?rq1
            case yq1 => (intro wq hSw; (try simp only [List.getElem_toArray, List.getElem_cons_zero, List.getElem_cons_succ]); go_simp; (try with_reducible rfl); all_goals (try omega))
            case rq1 =>
            try simp only [Act.put, List.setIfInBounds_toArray, List.set_cons_zero, List.set_cons_succ, List.getElem_toArray, List.getElem_cons_zero, List.getElem_cons_succ]
            refine wpAnyH_take (i := 1) (v := .pointer (some ⟨X, 2, none⟩)) rfl (by kernel_rfl) (by kernel_rfl) (by kernel_rfl) (fun _ _ _ h => h) (Or.inl ⟨by rfl, ?yq2⟩) (by assumption) ?rq2
            case yq2 => (intro wq hSw; (try simp only [List.getElem_toArray, List.getElem_cons_zero, List.getElem_cons_succ]); go_simp; (try with_reducible rfl); all_goals (try omega))
            case rq2 =>
            try simp only [Act.put, List.setIfInBounds_toArray, List.set_cons_zero, List.set_cons_succ, List.getElem_toArray, List.getElem_cons_zero, List.getElem_cons_succ]
            refine wpAnyH_take (i := 2) (v := .int .i64 x.par) rfl (by kernel_rfl) (by kernel_rfl) (by kernel_rfl) (fun _ _ _ h => h) (Or.inl ⟨by rfl, ?yq3⟩) (by assumption) ?rq3
            case yq3 => (intro wq hSw; have z : wq.cell? ⟨X, 2, none⟩ = some (.int .i64 x.par) := hSw 2 _ rfl; (try simp only [List.getElem_toArray, List.getElem_cons_zero, List.getElem_cons_succ]); go_simp)
            case rq3 =>
            try simp only [Act.put, List.setIfInBounds_toArray, List.set_cons_zero, List.set_cons_succ, List.getElem_toArray, List.getElem_cons_zero, List.getElem_cons_succ]
            refine wpAnyH_take (i := 3) (v := .map (some B)) rfl (by kernel_rfl) (by kernel_rfl) (by kernel_rfl) (fun _ _ _ h => h) (Or.inl ⟨by rfl, ?yq4⟩) (by assumption) ?rq4
            case yq4 => (intro wq hSw; (try simp only [List.getElem_toArray, List.getElem_cons_zero, List.getElem_cons_succ]); go_simp; (try with_reducible rfl); all_goals (try omega))
            case rq4 =>
            try simp only [Act.put, List.setIfInBounds_toArray, List.set_cons_zero, List.set_cons_succ, List.getElem_toArray, List.getElem_cons_zero, List.getElem_cons_succ]
            refine wpAnyH_take (i := 4) (v := .pointer (some ⟨X, 2, none⟩)) rfl (by kernel_rfl) (by kernel_rfl) (by kernel_rfl) (fun _ _ _ h => h) (Or.inl ⟨by rfl, ?yq5⟩) (by assumption) ?rq5
            case yq5 => (intro wq hSw; (try simp only [List.getElem_toArray, List.getElem_cons_zero, List.getElem_cons_succ]); go_simp; (try with_reducible rfl); all_goals (try omega))
            case rq5 =>
            try simp only [Act.put, List.setIfInBounds_toArray, List.set_cons_zero, List.set_cons_succ, List.getElem_toArray, List.getElem_cons_zero, List.getElem_cons_succ]
            refine wpAnyH_take (i := 5) (v := .int .i64 x.par) rfl (by kernel_rfl) (by kernel_rfl) (by kernel_rfl) (fun _ _ _ h => h) (Or.inl ⟨by rfl, ?yq6⟩) (by assumption) ?rq6
            case yq6 => (intro wq hSw; have z : wq.cell? ⟨X, 2, none⟩ = some (.int .i64 x.par) := hSw 2 _ rfl; (try simp only [List.getElem_toArray, List.getElem_cons_zero, List.getElem_cons_succ]); go_simp)
            case rq6 =>
            try simp only [Act.put, List.setIfInBounds_toArray, List.set_cons_zero, List.set_cons_succ, List.getElem_toArray, List.getElem_cons_zero, List.getElem_cons_succ]
            refine wpAnyH_take (i := 7) (v := .agg x.vals.toArray) rfl (by kernel_rfl) (by kernel_rfl) (by kernel_rfl) (fun _ _ _ h => h) (Or.inl ⟨by rfl, ?yq7⟩) (by assumption) ?rq7
            case yq7 => (intro wq hSw; exact exec_load_mid _ _ 38 (.tmp 9) rfl X 0 rfl x.vals _ _ hSw Try.underlying38 rfl el_info)
            case rq7 =>
            try simp only [Act.put, List.setIfInBounds_toArray, List.set_cons_zero, List.set_cons_succ, List.getElem_toArray, List.getElem_cons_zero, List.getElem_cons_succ]
            refine wpAnyH_ready (rs := [6, 8]) (by kernel_rfl) (by simp) ?_
            refine AllReadyH.cons rfl (fun K hK => ?_) (AllReadyH.cons rfl (fun K hK => ?_) AllReadyH.nil)
            · refine oper_exec _ _ ((exec_look HM1.out HXP.out _ _ (.tmp 25) (.tmp 27) rfl rfl rfl).trans (by rw [HLV.out])) ?_
              refine hK.out _ _ (range_of HX5.out) (fun _ => ?_)
              clear hK K
              try simp only [Act.put, List.setIfInBounds_toArray, List.set_cons_zero, List.set_cons_succ, List.getElem_toArray, List.getElem_cons_zero, List.getElem_cons_succ]
              refine wpAnyH_ready (rs := [8]) (by kernel_rfl) (by simp) ?_
              refine AllReadyH.cons rfl (fun K hK => ?_) AllReadyH.nil
              refine oper_exec _ _ (exec_build_one _ _ (.tmp 29) 24 Try.underlying24 rfl x rfl _) ?_
              refine hK.out _ _ (rangeAt_turn (range_of HX5.out) (box_alloc wx 38 x.vals).turn id) (fun _ => ?_)
              clear hK K
              try simp only [Act.put, List.setIfInBounds_toArray, List.set_cons_zero, List.set_cons_succ, List.getElem_toArray, List.getElem_cons_zero, List.getElem_cons_succ]
              refine wpAnyH_ready (rs := [9]) (by kernel_rfl) (by simp) ?_
              refine AllReadyH.cons rfl (fun K hK => ?_) AllReadyH.nil
              refine oper_exec _ _ (exec_append _ _ (.tmp 28) (.tmp 30) 24 rfl _ _ _ _ _ rfl rfl HRY.out) ?_
              refine hK.out _ _ (rangeAt_turn (range_of HX5.out) TYY.out NXV.out) (fun _ => ?_)
              clear hK K
              try simp only [Act.put, List.setIfInBounds_toArray, List.set_cons_zero, List.set_cons_succ, List.getElem_toArray, List.getElem_cons_zero, List.getElem_cons_succ]
              refine wpAnyH_ready (rs := [10]) (by kernel_rfl) (by simp) ?_
              refine AllReadyH.cons rfl (fun K hK => ?_) AllReadyH.nil
              refine oper_skip _ (exec_mapPut HPZ.out _ _ (.tmp 22) (.tmp 24) (.tmp 31) rfl rfl rfl rfl) ?_
              refine hK.out _ _ (rangeAt_turn (rangeAt_turn (range_of HX5.out) TYY.out NXV.out) TZ.out NXB.out) (fun _ => ?_)
              clear hK K
              try simp only [Act.put, List.setIfInBounds_toArray, List.set_cons_zero, List.set_cons_succ, List.getElem_toArray, List.getElem_cons_zero, List.getElem_cons_succ]
              refine wpAnyH_done (by kernel_rfl) ?_ _
              clear hHeld
              go_wp2_with fail
              go_roundw
              case rel => exact ⟨i + 1, by omega, by go_num, HAZ.out⟩
              case measure => simp [intOf]; omega
            · refine oper_exec _ _ (exec_build_one _ _ (.tmp 29) 24 Try.underlying24 rfl x rfl _) ?_
              refine hK.out _ _ (rangeAt_turn (range_of HX5.out) (box_alloc wx 38 x.vals).turn id) (fun _ => ?_)
              clear hK K
              try simp only [Act.put, List.setIfInBounds_toArray, List.set_cons_zero, List.set_cons_succ, List.getElem_toArray, List.getElem_cons_zero, List.getElem_cons_succ]
              refine wpAnyH_ready (rs := [6]) (by kernel_rfl) (by simp) ?_
              refine AllReadyH.cons rfl (fun K hK => ?_) AllReadyH.nil
              refine oper_exec _ _ ((exec_look HM2.out HXP.out _ _ (.tmp 25) (.tmp 27) rfl rfl rfl).trans (by rw [HLV.out])) ?_
              refine hK.out _ _ (rangeAt_turn (range_of HX5.out) (box_alloc wx 38 x.vals).turn id) (fun _ => ?_)
              clear hK K
              try simp only [Act.put, List.setIfInBounds_toArray, List.set_cons_zero, List.set_cons_succ, List.getElem_toArray, List.getElem_cons_zero, List.getElem_cons_succ]
              refine wpAnyH_ready (rs := [9]) (by kernel_rfl) (by simp) ?_
              refine AllReadyH.cons rfl (fun K hK => ?_) AllReadyH.nil
              refine oper_exec _ _ (exec_append _ _ (.tmp 28) (.tmp 30) 24 rfl _ _ _ _ _ rfl rfl HRY.out) ?_
              refine hK.out _ _ (rangeAt_turn (range_of HX5.out) TYY.out NXV.out) (fun _ => ?_)
              clear hK K
              try simp only [Act.put, List.setIfInBounds_toArray, List.set_cons_zero, List.set_cons_succ, List.getElem_toArray, List.getElem_cons_zero, List.getElem_cons_succ]
              refine wpAnyH_ready (rs := [10]) (by kernel_rfl) (by simp) ?_
              refine AllReadyH.cons rfl (fun K hK => ?_) AllReadyH.nil
              refine oper_skip _ (exec_mapPut HPZ.out _ _ (.tmp 22) (.tmp 24) (.tmp 31) rfl rfl rfl rfl) ?_
              refine hK.out _ _ (rangeAt_turn (rangeAt_turn (range_of HX5.out) TYY.out NXV.out) TZ.out NXB.out) (fun _ => ?_)
              clear hK K
              try simp only [Act.put, List.setIfInBounds_toArray, List.set_cons_zero, List.set_cons_succ, List.getElem_toArray, List.getElem_cons_zero, List.getElem_cons_succ]
              refine wpAnyH_done (by kernel_rfl) ?_ _
              clear hHeld
              go_wp2_with fail
              go_roundw
              case rel => exact ⟨i + 1, by omega, by go_num, HAZ.out⟩
              case measure => simp [intOf]; omega
          · have HRT := Lib.hid (show rootB W x = true by unfold rootB; rw [HB0.out, HP0.out, HB1.out]; rfl)
            obtain ⟨vy, wy, hry, hoy, ty, fy⟩ := app_one_tnF wc w.heap.size 81 81 Try.underlying81 _ (roots1 c W i) (Tn.mk x 0) HA3.out.own HA3.out.turn.size (by have := roots1_len c W i; omega)
            have HRY := Lib.hid hry
            have HAY := Lib.hid (HA3.out.root HLT.out (by rw [HXE.out]; exact HRT.out) (by rw [HXE.out]; exact hoy) ty)
            clear hry hoy ty fy
            go_wp2_with (with_reducible (show wpList _ _ _ (Oper.mk (some 48) (.load 38 (.tmp 9)) _ _ _ _ :: _) _ _); refine still ?_)
            refine wpList_load_mid rfl 38 (.tmp 9) rfl X 0 rfl x.vals _ (range_of HX3.out) Try.underlying38 rfl el_info ?_
            go_wp2_with (with_reducible (show wpList _ _ _ (Oper.mk (some 49) (.build 86 _) _ _ _ _ :: _) _ _); refine still ?_)
            refine list_exec rfl _ _ (exec_tn0 _ _ (.tmp 48) x rfl rfl _) ?_
            go_wp2_with (with_reducible (show wpList _ _ _ (Oper.mk (some 50) (.buildSlice 81 _ _) _ _ _ _ :: _) _ _); refine still ?_)
            refine list_exec rfl _ _ (exec_build_one_tn _ _ (.tmp 49) 81 Try.underlying81 rfl (Tn.mk x 0) rfl _) ?_
            go_wp2_with (with_reducible (show wpList _ _ _ (Oper.mk (some 51) (_) _ _ _ _ :: _) _ _); refine still ?_)
            refine list_exec rfl _ _ (exec_append _ _ (.tmp 47) (.tmp 50) 81 rfl _ _ _ _ _ rfl rfl HRY.out) ?_
            go_wp2_with fail
            go_roundw
            case rel => exact ⟨i + 1, by omega, by go_num, HAY.out⟩
            case measure => simp [intOf]; omega
      · go_wp2_with fail
        go_roundw
        case rel => exact ⟨i + 1, by omega, by go_num, HA2.out.old HLT.out (by rw [HXE.out]; exact HB0.out)⟩
        case measure => simp [intOf]; omega
    · have hie : i = n := by omega
      subst hie
      have hta := HA.out
      rw [← HN.out] at hta
      obtain ⟨M, htb⟩ := hta.done HRC.out
      rw [HN.out] at htb
      have HB2 := Lib.hid htb
      clear htb hta
      go_wp2_with fail
      go_loopw [6, 10] (fun tv jv ws => ∃ (T : List Tn) (j : Nat), jv = .int .i64 (j : Int) ∧ TkB w ws B i c W M T j tv) (fun _ jv _ => 101 - (intOf jv).toNat)
      case atStart => exact ⟨_, 0, rfl, HB2.out⟩
      case round =>
        obtain ⟨T, j, rfl, htb⟩ := hrel
        have hlen := htb.st.len
        have hle := htb.st.le
        rw [HN.out] at hlen
        obtain ⟨m, hm⟩ : ∃ m, T.length = m := ⟨_, rfl⟩
        obtain ⟨ta, tc, rfl⟩ : ∃ a c, u6 = .slice a m c := by rw [← hm]; exact own_slice_tn htb.own
        rw [hm] at hlen hle
        have HT := Lib.hid htb
        have HM := Lib.hid hm
        clear htb hm
        by_cases hlt : j < m
        · have gi : (0 : Int) ≤ (j : Int) ∧ (j : Int) < (m : Int) := by omega
          have dk : decide ((j : Int) < (m : Int)) = true := decide_eq_true (by omega)
          obtain ⟨g, o, rfl, hcc, hs⟩ := (own_tnV (by have := HT.out.own; rw [HM.out] at this; rw [HM.out]; exact this)).one HM.out j hlt
          have HLT := Lib.hid (show j < T.length by rw [HM.out]; exact hlt)
          have hng := not_gone HT.out.st HLT.out M
          have hut := getD_mem_tn HLT.out
          have hur := HT.out.st.round j HLT.out
          have hge : T.getD j tn0 = T[j]'HLT.out := by simp [List.getD, HLT.out]
          rw [← hge] at hur
          obtain ⟨u, hu⟩ : ∃ u, T.getD j tn0 = u := ⟨_, rfl⟩
          rw [hu] at hs hng hut hur
          have hpu := (HI.out _ (HT.out.st.mem u hut).1).1
          have HUE := Lib.hid hu
          have HS := Lib.hid hs
          have HNG := Lib.hid hng
          have HPU := Lib.hid hpu
          have hr1 : (u.r : Int) ≤ 100 ∧ (0 : Int) ≤ (u.r : Int) := by omega
          clear hu hs hng hpu hcc hut hur hge
          have hbb := box_alloc wr 86 tn0.vals
          obtain ⟨Y, hE⟩ : ∃ Y, wr.heap.size = Y := ⟨_, rfl⟩
          obtain ⟨wz, hwz⟩ : ∃ wz, wr.alloc (.cells tn0.vals.toArray 86) = wz := ⟨_, rfl⟩
          have hx0 : ∀ ev op, op.op = .alloc 86 → (execOp ev op).run Try.prog wr = .ok (.value (.pointer (some ⟨Y, 0, none⟩))) wz := fun ev op ho => by rw [← hwz, ← hE]; exact exec_zero_tn ev op ho _
          rw [hwz] at hbb
          have hhh := hbb.heap
          rw [hE] at hhh
          have HX0 := Lib.hid hx0
          have HBB := Lib.hid hbb.turn
          have HHB := Lib.hid hhh
          have HEE := Lib.hid hE
          clear hbb hE hwz hx0 hhh
          go_wp2_with (with_reducible (show wpList _ _ _ (Oper.mk (some 62) (.load 86 (.tmp 61)) _ _ _ _ :: _) _ _); refine still ?_)
          refine wpList_load_mid rfl 86 (.tmp 61) rfl g (o + j * 11) rfl u.vals _ HS.out Try.underlying86 rfl tn_info ?_
          go_wp2_with (with_reducible (show wpList _ _ _ (Oper.mk (some 11) (.alloc 86) _ _ _ _ :: _) _ _); refine still ?_)
          refine list_exec rfl _ _ (HX0.out _ _ rfl) ?_
          go_wp2_with (with_reducible (show wpList _ _ _ (Oper.mk none (.store 86 (.tmp 11) (.tmp 62)) _ _ _ _ :: _) _ _); refine still ?_)
          refine list_put wz Y 86 tn0.vals u.vals HHB.out rfl u.vals_one tn_info rfl (.tmp 11) (.tmp 62) rfl rfl rfl (fun wa h2 t2 => ?_)
          have HY := Lib.hid h2
          have Twa := Lib.hid (show Turn (fun _ => False) wr wa from HBB.out.trans t2 (fun q hq e => by have := HEE.out; omega))
          have LY := Lib.hid (show wr.heap.size = Y from HEE.out)
          clear h2 t2 HX0 HBB HHB HEE
          have HT1 := Lib.hid (HT.out.on Twa.out)
          have cY0 : wa.cell? ⟨Y, 0, none⟩ = some (.int .i64 u.e.id) := range_of HY.out 0 _ rfl
          obtain ⟨q, hq⟩ : ∃ q, (waits c W u.e.id).length = q := ⟨_, rfl⟩
          have hgr := HT1.out.grp.at HPU.out
          obtain ⟨ga, gc, hgv⟩ := own_slice24 hgr
          rw [hq] at hgv
          have HGV := Lib.hid hgv
          have HQ := Lib.hid hq
          have HLN := Lib.hid (show T.length ≤ 100 ∧ (kids c W u).length ≤ 100 by
            have := waits_len c W u.e.id
            unfold kids
            rw [List.length_map]
            have := HN.out; have := HM.out
            omega)
          have hq1 : q ≤ 100 := by have := waits_len c W u.e.id; have := HN.out; have := HQ.out; omega
          have HNE := Lib.hid (show ∀ g', (Value.slice (some ⟨g, o, none⟩) m tc).ownBlock = some g' → g' ≠ Y from fun g' hg e => by
            have := (own_blk_of HT.out.own hg).2.1
            have := LY.out
            omega)
          clear hgr hgv hq
          go_wp2_with (with_reducible (show wpList _ _ _ (Oper.mk (some 67) (.lookup 102 _ _ _) _ _ _ _ :: _) _ _); refine still ?_)
          refine list_exec rfl _ _ ((exec_look HT1.out.map HPU.out _ _ (.tmp 63) (.tmp 66) rfl rfl rfl).trans (by rw [HNG.out, HGV.out])) ?_
          go_wp2_with fail
          go_loopw [6, 69] (fun tv kv wq => ∃ k : Nat, k ≤ q ∧ kv = .int .i64 (k : Int) ∧ TkC w wq B i c W M T j u k tv ∧ wq.heap[Y]? = some (.cells u.vals.toArray 86 (0, 0)) ∧ (∀ g', tv.ownBlock = some g' → g' ≠ Y)) (fun _ kv _ => q - (intOf kv).toNat)
          case atStart => exact ⟨0, Nat.zero_le _, rfl, HT1.out.start u, HY.out, HNE.out⟩
          case round =>
            obtain ⟨k, hkq, rfl, htc, hyy, hne⟩ := hrel
            have HTC := Lib.hid htc
            have HY1 := Lib.hid hyy
            have HN1 := Lib.hid hne
            clear htc hyy hne cY0
            by_cases hk : k < q
            · have gk : (0 : Int) ≤ (k : Int) ∧ (k : Int) < (q : Int) := by omega
              have dq : decide ((k : Int) < (q : Int)) = true := decide_eq_true (by omega)
              have hgr := HTC.out.grp.at HPU.out
              rw [HGV.out] at hgr
              obtain ⟨g2, o2, rfl, hcc, hs2⟩ := (own_rowV hgr).one HQ.out k hk
              obtain ⟨y, hy⟩ : ∃ y, (waits c W u.e.id).getD k el0 = y := ⟨_, rfl⟩
              rw [hy] at hs2
              have HYE := Lib.hid hy
              have HS2 := Lib.hid hs2
              clear hgr hcc hs2 hy
              have hbb := box_alloc wr 38 el0.vals
              obtain ⟨X, hE⟩ : ∃ X, wr.heap.size = X := ⟨_, rfl⟩
              obtain ⟨wz, hwz⟩ : ∃ wz, wr.alloc (.cells el0.vals.toArray 38) = wz := ⟨_, rfl⟩
              have hx0 : ∀ ev op, op.op = .alloc 38 → (execOp ev op).run Try.prog wr = .ok (.value (.pointer (some ⟨X, 0, none⟩))) wz := fun ev op ho => by rw [← hwz, ← hE]; exact exec_zero24 ev op ho _
              rw [hwz] at hbb
              have hhh := hbb.heap
              rw [hE] at hhh
              have HX0 := Lib.hid hx0
              have HBB := Lib.hid hbb.turn
              have HHB := Lib.hid hhh
              have HEE := Lib.hid hE
              clear hbb hE hwz hx0 hhh
              go_wp2_with (with_reducible (show wpList _ _ _ (Oper.mk (some 72) (.load 38 (.tmp 71)) _ _ _ _ :: _) _ _); refine still ?_)
              refine wpList_load_mid rfl 38 (.tmp 71) rfl g2 (o2 + k * 10) rfl y.vals _ HS2.out Try.underlying38 rfl el_info ?_
              go_wp2_with (with_reducible (show wpList _ _ _ (Oper.mk (some 13) (.alloc 38) _ _ _ _ :: _) _ _); refine still ?_)
              refine list_exec rfl _ _ (HX0.out _ _ rfl) ?_
              go_wp2_with (with_reducible (show wpList _ _ _ (Oper.mk none (.store 38 (.tmp 13) (.tmp 72)) _ _ _ _ :: _) _ _); refine still ?_)
              refine list_put wz X 38 el0.vals y.vals HHB.out rfl y.vals_one el_info rfl (.tmp 13) (.tmp 72) rfl rfl rfl (fun wb h2 t2 => ?_)
              have HX := Lib.hid h2
              have Twb := Lib.hid (show Turn (fun _ => False) wr wb from HBB.out.trans t2 (fun q hq e => by have := HEE.out; omega))
              have LX := Lib.hid (show wr.heap.size = X from HEE.out)
              clear h2 t2 HX0 HBB HHB HEE
              have HTC1 := Lib.hid (HTC.out.on Twb.out)
              have HY2 := Lib.hid ((Twb.out.block Y (Array.getElem?_eq_some_iff.1 HY1.out).1 id).trans HY1.out)
              have cY10 : wb.cell? ⟨Y, 10, none⟩ = some (.int .i64 (u.r : Int)) := range_of HY2.out 10 _ rfl
              have hbb := box_alloc wb 86 tn0.vals
              obtain ⟨Z, hE⟩ : ∃ Z, wb.heap.size = Z := ⟨_, rfl⟩
              obtain ⟨wz, hwz⟩ : ∃ wz, wb.alloc (.cells tn0.vals.toArray 86) = wz := ⟨_, rfl⟩
              have hx0 : ∀ ev op, op.op = .alloc 86 → (execOp ev op).run Try.prog wb = .ok (.value (.pointer (some ⟨Z, 0, none⟩))) wz := fun ev op ho => by rw [← hwz, ← hE]; exact exec_zero_tn ev op ho _
              rw [hwz] at hbb
              have hhh := hbb.heap
              rw [hE] at hhh
              have HX0 := Lib.hid hx0
              have HBB := Lib.hid hbb.turn
              have HHB := Lib.hid hhh
              have HEE := Lib.hid hE
              clear hbb hE hwz hx0 hhh
              go_wp2_with (with_reducible (show wpList _ _ _ (Oper.mk (some 73) (.load 38 (.tmp 13)) _ _ _ _ :: _) _ _); refine still ?_)
              refine wpList_load_mid rfl 38 (.tmp 13) rfl X 0 rfl y.vals _ (range_of HX.out) Try.underlying38 rfl el_info ?_
              go_wp2_with (with_reducible (show wpList _ _ _ (Oper.mk (some 76) (.build 86 _) _ _ _ _ :: _) _ _); refine still ?_)
              refine list_exec rfl _ _ (exec_tnR _ _ (.tmp 73) (.tmp 75) y u.r rfl rfl rfl _) ?_
              go_wp2_with (with_reducible (show wpList _ _ _ (Oper.mk (some 14) (.alloc 86) _ _ _ _ :: _) _ _); refine still ?_)
              refine list_exec rfl _ _ (HX0.out _ _ rfl) ?_
              go_wp2_with (with_reducible (show wpList _ _ _ (Oper.mk none (.store 86 (.tmp 14) (.tmp 76)) _ _ _ _ :: _) _ _); refine still ?_)
              refine list_put wz Z 86 tn0.vals (Tn.mk y u.r).vals HHB.out rfl (Tn.mk y u.r).vals_one tn_info rfl (.tmp 14) (.tmp 76) rfl rfl rfl (fun wd h2 t2 => ?_)
              have HZ := Lib.hid h2
              have Twd := Lib.hid (show Turn (fun _ => False) wb wd from HBB.out.trans t2 (fun q hq e => by have := HEE.out; omega))
              have LZ := Lib.hid (show wb.heap.size = Z from HEE.out)
              clear h2 t2 HX0 HBB HHB HEE
              clear cY10
              have HTC2 := Lib.hid (HTC1.out.on Twd.out)
              have HY3 := Lib.hid ((Twd.out.block Y (Array.getElem?_eq_some_iff.1 HY2.out).1 id).trans HY2.out)
              have HX3 := Lib.hid ((Twd.out.block X (Array.getElem?_eq_some_iff.1 HX.out).1 id).trans HX.out)
              have cX : wd.cell? ⟨X, 0, none⟩ = some (.int .i64 y.id) := id_of HX3.out
              have cY : wd.cell? ⟨Y, 0, none⟩ = some (.int .i64 u.e.id) := range_of HY3.out 0 _ rfl
              by_cases hlt3 : y.id < u.e.id
              · have dl : decide (y.id < u.e.id) = true := decide_eq_true hlt3
                have HKD := Lib.hid (show kid u y = ⟨y, u.r + 1⟩ by unfold kid; rw [if_pos hlt3])
                have cZ : wd.cell? ⟨Z, 10, none⟩ = some (.int .i64 (u.r : Int)) := range_of HZ.out 10 _ rfl
                clear hlt3
                go_wp2_with (with_reducible (show wpList _ _ _ (Oper.mk none (.store 3 (.tmp 86) (.tmp 85)) _ _ _ _ :: _) _ _); refine still ?_)
                refine list_set1E wd Z 86 3 (Tn.mk y u.r).vals 10 (.int .i64 ((u.r : Int) + 1)) HZ.out (by show 10 < 11; omega) rfl rfl (by kernel_rfl) rfl (.tmp 86) (.tmp 85) rfl rfl rfl (fun we h5 t5 => ?_)
                have HZ5 := Lib.hid (show we.heap[Z]? = some (.cells (kid u y).vals.toArray 86 (0, 0)) by rw [HKD.out]; exact h5)
                have HT5 := Lib.hid (show TkC w we B i c W M T j u k _ from HTC2.out.cut LZ.out Twd.out HTC1.out t5)
                have HY5 := Lib.hid ((t5.block Y (Array.getElem?_eq_some_iff.1 HY3.out).1 (fun e => by have := (Array.getElem?_eq_some_iff.1 HY2.out).1; have := LZ.out; omega)).trans HY3.out)
                clear h5 t5 cZ cX cY
                obtain ⟨vy, wy, hry, hoy, ty, fy⟩ := app_one_tnF we w.heap.size 81 81 Try.underlying81 _ (T ++ (kids c W u).take k) (kid u y) HT5.out.own HT5.out.turn.size (by have := HLN.out; rw [List.length_append, List.length_take]; omega)
                have HRY := Lib.hid hry
                have HAY := Lib.hid (HT5.out.step (by rw [HQ.out]; exact hk) (by rw [HYE.out]; exact hoy) ty)
                have HYY := Lib.hid ((ty.block Y (Array.getElem?_eq_some_iff.1 HY5.out).1 (fun e => HN1.out Y e rfl)).trans HY5.out)
                have HNY := Lib.hid (show ∀ g, vy.ownBlock = some g → g ≠ Y from fun g hg e => by
                  rcases fy with f | ⟨k0, f, f2⟩
                  · rw [f] at hg; exact HN1.out g hg e
                  · rw [f] at hg; cases hg; have := (Array.getElem?_eq_some_iff.1 HY5.out).1; omega)
                clear hry hoy ty fy
                go_wp2_with (with_reducible (show wpList _ _ _ (Oper.mk (some 88) (.load 86 (.tmp 14)) _ _ _ _ :: _) _ _); refine still ?_)
                refine wpList_load_mid rfl 86 (.tmp 14) rfl Z 0 rfl (kid u y).vals _ (range_of HZ5.out) Try.underlying86 rfl tn_info ?_
                go_wp2_with (with_reducible (show wpList _ _ _ (Oper.mk (some 89) (.buildSlice 81 _ _) _ _ _ _ :: _) _ _); refine still ?_)
                refine list_exec rfl _ _ (exec_build_one_tn _ _ (.tmp 88) 81 Try.underlying81 rfl (kid u y) rfl _) ?_
                go_wp2_with (with_reducible (show wpList _ _ _ (Oper.mk (some 90) (_) _ _ _ _ :: _) _ _); refine still ?_)
                refine list_exec rfl _ _ (exec_append _ _ (.tmp 87) (.tmp 89) 81 rfl _ _ _ _ _ rfl rfl HRY.out) ?_
                go_wp2_with fail
                go_roundw
                case rel => exact ⟨k + 1, by omega, by go_num, HAY.out, HYY.out, HNY.out⟩
                case measure => simp [intOf]; omega
              · have dl : decide (y.id < u.e.id) = false := decide_eq_false hlt3
                have HKD := Lib.hid (show kid u y = ⟨y, u.r⟩ by unfold kid; rw [if_neg hlt3])
                have HZ5 := Lib.hid (show wd.heap[Z]? = some (.cells (kid u y).vals.toArray 86 (0, 0)) by rw [HKD.out]; exact HZ.out)
                clear hlt3
                obtain ⟨vy, wy, hry, hoy, ty, fy⟩ := app_one_tnF wd w.heap.size 81 81 Try.underlying81 _ (T ++ (kids c W u).take k) (kid u y) HTC2.out.own HTC2.out.turn.size (by have := HLN.out; rw [List.length_append, List.length_take]; omega)
                have HRY := Lib.hid hry
                have HAY := Lib.hid (HTC2.out.step (by rw [HQ.out]; exact hk) (by rw [HYE.out]; exact hoy) ty)
                have HYY := Lib.hid ((ty.block Y (Array.getElem?_eq_some_iff.1 HY3.out).1 (fun e => HN1.out Y e rfl)).trans HY3.out)
                have HNY := Lib.hid (show ∀ g, vy.ownBlock = some g → g ≠ Y from fun g hg e => by
                  rcases fy with f | ⟨k0, f, f2⟩
                  · rw [f] at hg; exact HN1.out g hg e
                  · rw [f] at hg; cases hg; have := (Array.getElem?_eq_some_iff.1 HY3.out).1; omega)
                clear hry hoy ty fy
                go_wp2_with (with_reducible (show wpList _ _ _ (Oper.mk (some 88) (.load 86 (.tmp 14)) _ _ _ _ :: _) _ _); refine still ?_)
                refine wpList_load_mid rfl 86 (.tmp 14) rfl Z 0 rfl (kid u y).vals _ (range_of HZ5.out) Try.underlying86 rfl tn_info ?_
                go_wp2_with (with_reducible (show wpList _ _ _ (Oper.mk (some 89) (.buildSlice 81 _ _) _ _ _ _ :: _) _ _); refine still ?_)
                refine list_exec rfl _ _ (exec_build_one_tn _ _ (.tmp 88) 81 Try.underlying81 rfl (kid u y) rfl _) ?_
                go_wp2_with (with_reducible (show wpList _ _ _ (Oper.mk (some 90) (_) _ _ _ _ :: _) _ _); refine still ?_)
                refine list_exec rfl _ _ (exec_append _ _ (.tmp 87) (.tmp 89) 81 rfl _ _ _ _ _ rfl rfl HRY.out) ?_
                go_wp2_with fail
                go_roundw
                case rel => exact ⟨k + 1, by omega, by go_num, HAY.out, HYY.out, HNY.out⟩
                case measure => simp [intOf]; omega
            · have hkq2 : k = q := by omega
              subst hkq2
              have dq : decide ((k : Int) < (k : Int)) = false := decide_eq_false (by omega)
              have cY1 : wr.cell? ⟨Y, 0, none⟩ = some (.int .i64 u.e.id) := range_of HY1.out 0 _ rfl
              obtain ⟨wz, hrz, hmz, tz⟩ := HTC.out.map.del HPU.out 0
              have HRZ := Lib.hid hrz
              have HBZ := Lib.hid (show TkB w wz B i c W M (T ++ kids c W u) (j + 1) _ by
                have h1 := HTC.out
                have h2 := HT.out.st
                rw [← HQ.out, ← HUE.out] at h1
                rw [← HUE.out] at hmz
                rw [← HUE.out]
                exact h1.done HRC.out h2 HLT.out HT.out.new hmz tz)
              clear hrz hmz tz
              go_wp2_with (with_reducible (show wpList _ _ _ (Oper.mk none (_) _ _ _ _ :: _) _ _); refine still ?_)
              refine list_exec rfl _ _ (exec_mapDel _ _ (.tmp 92) (.tmp 95) rfl HRZ.out rfl rfl) ?_
              go_wp2_with fail
              go_roundw
              case rel => exact ⟨_, j + 1, by go_num, HBZ.out⟩
              case measure => simp [intOf]; omega
        · have hje : j = m := by omega
          subst hje
          have dk : decide ((j : Int) < (j : Int)) = false := decide_eq_false (by omega)
          obtain ⟨s, hrs, hsn, hs0⟩ := HT.out.map.len 3
          have hst := HT.out
          rw [← HM.out] at hst hs0
          have HOK := Lib.hid (hst.ok HRC.out HI.out hs0)
          have HRS := Lib.hid hrs
          have HST2 := Lib.hid hst
          clear hrs hs0 hst
          go_wp2_with (with_reducible (show wpList _ _ _ (Oper.mk (some 98) (_) _ _ _ _ :: _) _ _); refine still ?_)
          refine list_exec rfl _ _ (exec_mapLen _ _ (.tmp 97) rfl HRS.out rfl) ?_
          go_wp2_with fail
          go_ret2
          refine ⟨_, T, HST2.out.st, ?_, HT.out.own, HT.out.turn⟩
          rw [← HOK.out]
          rfl

end Go.Proofs.Ytkciaafkhpjnaaa
