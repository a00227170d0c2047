/- Own texts, packed: JBegun, JJopen, JJwrite, JMod, JTx. -/
import Derived.Test.YtnenkclihgeacaaDoorP06
/- Own contracts: what was begun. No statement is proved here. -/
namespace Go.Proofs.YtnenkclihgeacaaDoor
set_option maxRecDepth 100000
open Go.RowKit
set_option linter.unusedVariables false
set_option linter.unusedSimpArgs false

theorem sec_src {w : World} {B : Nat} {s : List Int} (h : w.rangeAt B 0 (secV s)) (hl : s.length = 64) : Src w (.slice (some ⟨B, 0, none⟩) 64 64) s :=
  .inl (.inr ⟨B, 0, 64, by rw [hl], by omega, fun i hi => by rw [Nat.zero_add]; exact sec_cell h i hi⟩)
theorem sec_src_drop {w : World} {B : Nat} {s : List Int} (h : w.rangeAt B 0 (secV s)) (hl : s.length = 64) (o n c : Nat) (ho : o + n = 64 ∧ n ≤ c ∧ 0 < n) : Src w (.slice (some ⟨B, o, none⟩) n c) (s.drop o) := by
  have hn : (s.drop o).length = n := by simp; omega
  refine .inl (.inr ⟨B, o, c, by rw [hn], by omega, fun i hi => ?_⟩)
  rw [sec_cell h (o + i) (by omega)]
  simp [List.getD, List.getElem?_drop]
theorem sec_cells_mid {w : World} {B : Nat} {s : List Int} (h : w.rangeAt B 0 (secV s)) (hl : s.length = 64) : ∀ i, i < ((s.drop 8).take 32).length → w.cell? ⟨B, 8 + i, none⟩ = some (.int .u8 (((s.drop 8).take 32).getD i 0)) := fun i hi => by
  have hi' : i < 32 := by simp at hi; omega
  rw [sec_cell h (8 + i) (by omega)]
  simp [List.getD, hi', List.getElem?_take, List.getElem?_drop]
theorem reads_turn4 {w w' : World} {v : Value} {xs : List Int} (h : Reads w v xs) (t : Turn (fun _ => False) w w') : Reads w' v xs := h.turn t (fun _ _ => id)

/-- One page of the journal's sectors. -/
def pageM (ss : List (List Int)) (m j : Nat) : Option (Int × List Int) :=
  if numK (ss.getD (1 + 2 * j) []) 4 = m ∧ numK (ss.getD (2 + 2 * j) []) 4 = m then some (((numK ((ss.getD (1 + 2 * j) []).drop 4) 4 : Nat) : Int), ((ss.getD (1 + 2 * j) []).drop 8).take 32 ++ ((ss.getD (2 + 2 * j) []).drop 8).take 32) else none
def begunK (ss : List (List Int)) (m : Nat) : Nat → Option (List (Int × List Int))
  | 0 => some []
  | j + 1 => (begunK ss m j).bind fun l => (pageM ss m j).map fun p => l ++ [p]
def begunM (ss : List (List Int)) : Option (List (Int × List Int)) :=
  if numK (ss.getD 0 []) 4 = 0 ∨ 24 < numK ((ss.getD 0 []).drop 4) 4 then none else begunK ss (numK (ss.getD 0 []) 4) (numK ((ss.getD 0 []).drop 4) 4)
theorem begunK_none (ss : List (List Int)) (m j n : Nat) (hj : j < n) (h : pageM ss m j = none) : begunK ss m n = none := by
  induction n with
  | zero => omega
  | succ n ih =>
    rw [begunK]
    rcases Nat.lt_or_ge j n with h1 | h1
    · rw [ih h1]; rfl
    · obtain rfl : j = n := by omega
      rw [h]; cases begunK ss m j <;> rfl
/-- The cells of pages. -/
def flatP (ps : List (Int × Value × List Int)) : List Value := ps.flatMap fun p => [.int .i64 p.1, p.2.1]
theorem flatP_len (ps : List (Int × Value × List Int)) : (flatP ps).length = ps.length * 2 := by
  induction ps with
  | nil => rfl
  | cons p ps ih => simp only [flatP, List.flatMap_cons, List.length_append] at ih ⊢; rw [ih]; simp; omega
theorem flatP_at (ps : List (Int × Value × List Int)) (i : Nat) (p : Int × Value × List Int) (h : ps[i]? = some p) : (flatP ps)[i * 2]? = some (.int .i64 p.1) ∧ (flatP ps)[i * 2 + 1]? = some p.2.1 := by
  induction ps generalizing i with
  | nil => simp at h
  | cons q ps ih =>
    cases i with
    | zero => simp at h; subst h; simp [flatP]
    | succ i =>
      have := ih i (by simpa using h)
      rw [show (i + 1) * 2 = i * 2 + 1 + 1 by omega]
      simpa [flatP] using this
def PsOk (w wr : World) (ov : Value) (ps : List (Int × Value × List Int)) : Prop := ∀ p ∈ ps, Reads wr p.2.1 p.2.2 ∧ ∀ k, p.2.1.ownBlock = some k → w.heap.size ≤ k ∧ k < wr.heap.size ∧ ov.ownBlock ≠ some k
theorem Tryd.info107 : (Tryd.prog.info? 107).map (fun i => (i.zero, i.size, i.bytes)) = some (some (.agg #[.int .i64 0, .slice none 0 0]), 2, 32) := by kernel_rfl
theorem page_step {w wr w4 w5 : World} {ov v5 u : Value} {ps : List (Int × Value × List Int)} {l : List (Int × List Int)} {j : Nat} {x : Int} {xs : List Int}
    (hl : l = ps.map fun p => (p.1, p.2.2)) (hps : PsOk w wr ov ps) (ho : wr.ownsRow w.heap.size 107 2 ov j (flatP ps)) (tr : Turn (fun _ => False) w wr) (t4 : Turn (fun _ => False) wr w4) (t5 : Turn (fun q => ov.ownBlock = some q) w4 w5)
    (hf : Fresh w4 ov v5) (ho5 : w5.ownsRow w.heap.size 107 2 v5 (j + 1) (flatP ps ++ [.int .i64 x, u])) (hr : Reads w4 u xs) (hk1 : ∀ k, u.ownBlock = some k → wr.heap.size ≤ k) (hk2 : ∀ k, u.ownBlock = some k → k < w4.heap.size) :
    Turn (fun _ => False) w w5 ∧ ∃ ps', l ++ [(x, xs)] = ps'.map (fun p => (p.1, p.2.2)) ∧ PsOk w w5 v5 ps' ∧ w5.ownsRow w.heap.size 107 2 v5 (j + 1) (flatP ps') := by
  have hs1 := tr.size
  have hs4 := t4.size
  have hs5 := t5.size
  have hold : ∀ q, q < w4.heap.size → ov.ownBlock ≠ some q → v5.ownBlock ≠ some q := fun q hq hn hv => hn (hf.old hv hq)
  refine ⟨(tr.trans t4 (fun _ _ => id)).trans t5 (fun q hq h => by have := (ho.lt q h).1; omega), ps ++ [(x, u, xs)], by simp [hl], ?_, by simpa [flatP] using ho5⟩
  intro p hp
  rcases List.mem_append.1 hp with hp | hp
  · obtain ⟨a1, a2⟩ := hps p hp
    refine ⟨(a1.turn t4 (fun _ _ => id)).turn t5 (fun k hk => (a2 k hk).2.2), fun k hk => ?_⟩
    obtain ⟨b1, b2, b3⟩ := a2 k hk
    exact ⟨b1, by omega, hold k (by omega) b3⟩
  · simp at hp
    subst hp
    have hn : ∀ k, u.ownBlock = some k → ov.ownBlock ≠ some k := fun k hk h => by have := (ho.lt k h).2; have := hk1 k hk; omega
    exact ⟨hr.turn t5 (fun k hk => hn k hk), fun k hk => ⟨by have := hk1 k hk; omega, by have := hk2 k hk; omega, hold k (hk2 k hk) (hn k hk)⟩⟩

theorem pages_of {w wr : World} {ov : Value} {ps : List (Int × Value × List Int)} {l : List (Int × List Int)} {j : Nat} (hl : l = ps.map fun p => (p.1, p.2.2)) (hps : PsOk w wr ov ps) (ho : wr.ownsRow w.heap.size 107 2 ov j (flatP ps)) :
    PagesIn wr (fun k => w.heap.size ≤ k ∧ k < wr.heap.size) ov l := by
  have hlen : ps.length = j := by have := ho.1; rw [flatP_len] at this; omega
  rcases ho.2 with ⟨rfl, rfl⟩ | ⟨g, cap, cur, rfl, hb, hg, hc, _⟩
  · exact .inl ⟨rfl, by rw [hl, List.eq_nil_of_length_eq_zero hlen]; rfl⟩
  · have hglt : g < wr.heap.size := (Array.getElem?_eq_some_iff.1 hg).1
    have hll : l.length = j := by rw [hl, List.length_map, hlen]
    refine .inr ⟨g, cap, by rw [hll], by omega, ⟨hb, hglt⟩, hglt, fun i x hx => ?_⟩
    rw [hl, List.getElem?_map] at hx
    obtain ⟨p, hp, rfl⟩ := Option.map_eq_some_iff.1 hx
    obtain ⟨c1, c2⟩ := flatP_at ps i p hp
    have hi : i < j := by have := (List.getElem?_eq_some_iff.1 hp).1; omega
    obtain ⟨a1, a2⟩ := hps p (List.mem_of_getElem? hp)
    exact ⟨by rw [ho.cellAt (i * 2) (by omega)]; exact c1, p.2.1, by rw [ho.cellAt (i * 2 + 1) (by omega)]; exact c2, .inl a1, fun _ k hk => ⟨(a2 k hk).1, (a2 k hk).2.1⟩⟩

def BegunPost (w : World) (r : Option (List (Int × List Int))) (e : Ending) (w' : World) : Prop := Turn (fun _ => False) w w' ∧
  match r with
  | none => e = .returned (.tuple #[.slice none 0 0, .bool false])
  | some l => ∃ v, e = .returned (.tuple #[v, .bool true]) ∧ PagesIn w' (fun k => w.heap.size ≤ k ∧ k < w'.heap.size) v l

set_option maxHeartbeats 1600000 in
set_option maxRecDepth 100000 in
theorem begun_any (w : World) (g c : Nat) (ss : List (List Int)) (hss : ss.length = 49) (h64 : ∀ s ∈ ss, s.length = 64 ∧ BytesOk s) (h : SecsAt w g ss) (hc : 49 ≤ c) :
    Calls Tryd.prog 37 #[.slice (some ⟨g, 0, none⟩) 49 c] w (BegunPost w (begunM ss)) := by
  obtain ⟨i0, hi, hz0, hz1, hz2⟩ := info_parts Tryd.info107
  obtain ⟨s0, hs0⟩ : ∃ s, ss[0]? = some s := ⟨_, List.getElem?_eq_getElem (by omega)⟩
  have hg0 : ss.getD 0 [] = s0 := by simp [List.getD, hs0]
  obtain ⟨B0, q0', hrB0⟩ := h 0 s0 hs0
  have HL0 := Lib.hid (h64 s0 (List.mem_of_getElem? hs0))
  have HS0' := Lib.hid hrB0
  have HG0 := Lib.hid hg0
  have HSS := Lib.hid h
  have H64 := Lib.hid h64
  have HLS := Lib.hid hss
  clear hg0 hs0 hrB0 h h64 hss
  have q0 : w.drew.cell? ⟨g, 0, none⟩ = some (.slice (some ⟨B0, 0, none⟩) 64 64) := q0'
  have HS0 := Lib.hid (rangeAt_turn HS0'.out (Turn.refl (fun _ => False) w).drew id)
  go_enter Tryd.func37, Tryd.ntmps37
  go_wp2_with fail
  refine wp_region_held_drew (S := fun w' => w'.cell? ⟨g, 0, none⟩ = some (.slice (some ⟨B0, 0, none⟩) 64 64)) (by kernel_rfl) q0 (fun hHeld => ?_)
  refine wpAnyH_take (i := 0) (v := .slice (some ⟨g, 0, none⟩) 49 c) rfl (by kernel_rfl) (by kernel_rfl) (by kernel_rfl) (fun _ _ _ h => h) (Or.inl ⟨by rfl, ?ya0⟩) (by assumption) ?ra0
  case ya0 => (intro wq hSw; (try simp only [List.getElem_toArray, List.getElem_cons_zero, List.getElem_cons_succ]); go_simp; try with_reducible rfl)
  case ra0 =>
  try simp only [Act.put, List.setIfInBounds_toArray, List.set_cons_zero, List.set_cons_succ, List.getElem_toArray, List.getElem_cons_zero, List.getElem_cons_succ]
  refine wpAnyH_take (i := 1) (v := .pointer (some ⟨g, 0, none⟩)) rfl (by kernel_rfl) (by kernel_rfl) (by kernel_rfl) (fun _ _ _ h => h) (Or.inl ⟨by rfl, ?ya1⟩) (by assumption) ?ra1
  case ya1 => (intro wq hSw; (try simp only [List.getElem_toArray, List.getElem_cons_zero, List.getElem_cons_succ]); go_simp; try with_reducible rfl)
  case ra1 =>
  try simp only [Act.put, List.setIfInBounds_toArray, List.set_cons_zero, List.set_cons_succ, List.getElem_toArray, List.getElem_cons_zero, List.getElem_cons_succ]
  refine wpAnyH_take (i := 2) (v := .slice (some ⟨B0, 0, none⟩) 64 64) rfl (by kernel_rfl) (by kernel_rfl) (by kernel_rfl) (fun _ _ _ h => h) (Or.inl ⟨by rfl, ?ya2⟩) (by assumption) ?ra2
  case ya2 => (intro wq hSw; (have s0 := hSw); (try simp only [List.getElem_toArray, List.getElem_cons_zero, List.getElem_cons_succ]); go_simp; try with_reducible rfl)
  case ra2 =>
  try simp only [Act.put, List.setIfInBounds_toArray, List.set_cons_zero, List.set_cons_succ, List.getElem_toArray, List.getElem_cons_zero, List.getElem_cons_succ]
  refine wpAnyH_take (i := 4) (v := .slice (some ⟨g, 0, none⟩) 49 c) rfl (by kernel_rfl) (by kernel_rfl) (by kernel_rfl) (fun _ _ _ h => h) (Or.inl ⟨by rfl, ?ya4⟩) (by assumption) ?ra4
  case ya4 => (intro wq hSw; (try simp only [List.getElem_toArray, List.getElem_cons_zero, List.getElem_cons_succ]); go_simp; try with_reducible rfl)
  case ra4 =>
  try simp only [Act.put, List.setIfInBounds_toArray, List.set_cons_zero, List.set_cons_succ, List.getElem_toArray, List.getElem_cons_zero, List.getElem_cons_succ]
  refine wpAnyH_take (i := 5) (v := .pointer (some ⟨g, 0, none⟩)) rfl (by kernel_rfl) (by kernel_rfl) (by kernel_rfl) (fun _ _ _ h => h) (Or.inl ⟨by rfl, ?ya5⟩) (by assumption) ?ra5
  case ya5 => (intro wq hSw; (try simp only [List.getElem_toArray, List.getElem_cons_zero, List.getElem_cons_succ]); go_simp; try with_reducible rfl)
  case ra5 =>
  try simp only [Act.put, List.setIfInBounds_toArray, List.set_cons_zero, List.set_cons_succ, List.getElem_toArray, List.getElem_cons_zero, List.getElem_cons_succ]
  refine wpAnyH_take (i := 6) (v := .slice (some ⟨B0, 0, none⟩) 64 64) rfl (by kernel_rfl) (by kernel_rfl) (by kernel_rfl) (fun _ _ _ h => h) (Or.inl ⟨by rfl, ?ya6⟩) (by assumption) ?ra6
  case ya6 => (intro wq hSw; (have s0 := hSw); (try simp only [List.getElem_toArray, List.getElem_cons_zero, List.getElem_cons_succ]); go_simp; try with_reducible rfl)
  case ra6 =>
  try simp only [Act.put, List.setIfInBounds_toArray, List.set_cons_zero, List.set_cons_succ, List.getElem_toArray, List.getElem_cons_zero, List.getElem_cons_succ]
  refine wpAnyH_take (i := 7) (v := .slice (some ⟨B0, 4, none⟩) 60 60) rfl (by kernel_rfl) (by kernel_rfl) (by kernel_rfl) (fun _ _ _ h => h) (Or.inl ⟨by rfl, ?ya7⟩) (by assumption) ?ra7
  case ya7 => (intro wq hSw; (try simp only [List.getElem_toArray, List.getElem_cons_zero, List.getElem_cons_succ]); go_simp; try with_reducible rfl)
  case ra7 =>
  try simp only [Act.put, List.setIfInBounds_toArray, List.set_cons_zero, List.set_cons_succ, List.getElem_toArray, List.getElem_cons_zero, List.getElem_cons_succ]
  refine wpAnyH_ready (rs := [3]) (by kernel_rfl) (by simp) ?_
  refine AllReadyH.cons rfl (fun K hK => ?_) AllReadyH.nil
  go_simp
  refine (number_any _ s0 w.drew (sec_src HS0.out HL0.out.1) HL0.out.2).mono ?_
  rintro e w1 ⟨rfl, rfl⟩
  rw [num_min]
  refine hK.out _ _ q0 (fun _ => ?_)
  clear hK K
  try simp only [Act.put, List.setIfInBounds_toArray, List.set_cons_zero, List.set_cons_succ, List.getElem_toArray, List.getElem_cons_zero, List.getElem_cons_succ]
  refine wpAnyH_ready (rs := [8]) (by kernel_rfl) (by simp) ?_
  refine AllReadyH.cons rfl (fun K hK => ?_) AllReadyH.nil
  go_simp
  refine (number_any _ (s0.drop 4) w.drew (sec_src_drop HS0.out HL0.out.1 4 60 60 (by omega)) (fun y hy => HL0.out.2 y (List.mem_of_mem_drop hy))).mono ?_
  rintro e w1 ⟨rfl, rfl⟩
  rw [num_min]
  refine hK.out _ _ q0 (fun _ => ?_)
  clear hK K
  try simp only [Act.put, List.setIfInBounds_toArray, List.set_cons_zero, List.set_cons_succ, List.getElem_toArray, List.getElem_cons_zero, List.getElem_cons_succ]
  obtain ⟨m, hm⟩ : ∃ m, numK s0 4 = m := ⟨_, rfl⟩
  obtain ⟨n, hn⟩ : ∃ n, numK (s0.drop 4) 4 = n := ⟨_, rfl⟩
  rw [hm, hn]
  have HM := Lib.hid hm
  have HN := Lib.hid hn
  clear hm hn
  refine wpAnyH_take (i := 9) (v := .int .i64 (m : Int)) rfl (by kernel_rfl) (by kernel_rfl) (by kernel_rfl) (fun _ _ _ h => h) (Or.inl ⟨by rfl, ?ya9⟩) (by assumption) ?ra9
  case ya9 => (intro wq hSw; (try simp only [List.getElem_toArray, List.getElem_cons_zero, List.getElem_cons_succ]); go_simp; try with_reducible rfl)
  case ra9 =>
  try simp only [Act.put, List.setIfInBounds_toArray, List.set_cons_zero, List.set_cons_succ, List.getElem_toArray, List.getElem_cons_zero, List.getElem_cons_succ]
  refine wpAnyH_take (i := 10) (v := .int .i64 (n : Int)) rfl (by kernel_rfl) (by kernel_rfl) (by kernel_rfl) (fun _ _ _ h => h) (Or.inl ⟨by rfl, ?ya10⟩) (by assumption) ?ra10
  case ya10 => (intro wq hSw; (try simp only [List.getElem_toArray, List.getElem_cons_zero, List.getElem_cons_succ]); go_simp; try with_reducible rfl)
  case ra10 =>
  try simp only [Act.put, List.setIfInBounds_toArray, List.set_cons_zero, List.set_cons_succ, List.getElem_toArray, List.getElem_cons_zero, List.getElem_cons_succ]
  refine wpAnyH_done (by kernel_rfl) ?_ _
  change Exit.then _ _ _ _ w.drew
  clear hHeld
  have tw : Turn (fun _ => False) w w.drew := (Turn.refl _ w).drew
  have hbm : begunM ss = if m = 0 ∨ 24 < n then none else begunK ss m n := by unfold begunM; rw [HG0.out, HM.out, HN.out]
  have HBM := Lib.hid hbm
  clear hbm q0 q0'
  by_cases hm0 : m = 0
  · subst hm0
    go_wp2_with fail
    go_ret2
    rw [HBM.out]
    exact ⟨tw, rfl⟩
  have hm1 : ((m : Int) == 0) = false := by rw [beq_eq_false_iff_ne]; omega
  have hm2 : (m == 0) = false := by rw [beq_eq_false_iff_ne]; omega
  by_cases hn24 : 24 < n
  · have hd1 : decide ((24 : Int) < (n : Int)) = true := by simp; omega
    have hd2 : decide (24 < n) = true := by simp; omega
    go_wp2_with fail
    go_ret2
    rw [HBM.out, if_pos (.inr hn24)]
    exact ⟨tw, rfl⟩
  have hd1 : decide ((24 : Int) < (n : Int)) = false := by simp; omega
  have hd2 : decide (24 < n) = false := by simp; omega
  go_wp2_with fail
  go_loopw [6, 26] (fun ov iv wr => ∃ j : Nat, j ≤ n ∧ iv = .int .i64 (j : Int) ∧ ∃ l, begunK ss m j = some l ∧ ∃ ps, l = ps.map (fun p => (p.1, p.2.2)) ∧ PsOk w wr ov ps ∧ wr.ownsRow w.heap.size 107 2 ov j (flatP ps) ∧ Turn (fun _ => False) w wr) (fun _ iv _ => (n - intOf iv).toNat)
  case atStart => exact ⟨0, Nat.zero_le _, rfl, [], rfl, [], rfl, (fun p hp => by simp at hp), World.ownsRow_nil _ _ _ _, tw⟩
  case round =>
    obtain ⟨j, hj, rfl, l, hbk, ps, hl, hps, ho, tr⟩ := hrel
    have HBJ := Lib.hid hbk
    have HL := Lib.hid hl
    have HPS := Lib.hid hps
    have HO := Lib.hid ho
    clear hbk hl hps ho
    by_cases hlt : j < n
    · obtain ⟨sa, hsa⟩ : ∃ s, ss[1 + 2 * j]? = some s := ⟨_, List.getElem?_eq_getElem (by have := HLS.out; omega)⟩
      obtain ⟨sb, hsb⟩ : ∃ s, ss[2 + 2 * j]? = some s := ⟨_, List.getElem?_eq_getElem (by have := HLS.out; omega)⟩
      have hga : ss.getD (1 + 2 * j) [] = sa := by simp [List.getD, hsa]
      have hgb : ss.getD (2 + 2 * j) [] = sb := by simp [List.getD, hsb]
      obtain ⟨Ba, qa', hrBa⟩ := HSS.out.turn (fun s hs => (H64.out s hs).1) tr (1 + 2 * j) sa hsa
      obtain ⟨Bb, qb', hrBb⟩ := HSS.out.turn (fun s hs => (H64.out s hs).1) tr (2 + 2 * j) sb hsb
      have HLa := Lib.hid (H64.out sa (List.mem_of_getElem? hsa))
      have HLb := Lib.hid (H64.out sb (List.mem_of_getElem? hsb))
      have hpg : pageM ss m j = if numK sa 4 = m ∧ numK sb 4 = m then some (((numK (sa.drop 4) 4 : Nat) : Int), (sa.drop 8).take 32 ++ (sb.drop 8).take 32) else none := by unfold pageM; rw [hga, hgb]
      have HPG := Lib.hid hpg
      clear hsa hsb hga hgb hpg
      have qa : wr.drew.cell? ⟨g, 1 + 2 * j, none⟩ = some (.slice (some ⟨Ba, 0, none⟩) 64 64) := qa'
      have qb : wr.drew.cell? ⟨g, 2 + 2 * j, none⟩ = some (.slice (some ⟨Bb, 0, none⟩) 64 64) := qb'
      have HRA := Lib.hid hrBa
      have HRB := Lib.hid hrBb
      clear hrBa hrBb qa' qb'
      have hd3 : decide ((j : Int) < (n : Int)) = true := by simp; omega
      have hwa : IntKind.i64.wrap (2 * (j : Int)) = 2 * (j : Int) := by rw [IntKind.wrap_i64]; omega
      have hwb : IntKind.i64.wrap (1 + 2 * (j : Int)) = 1 + 2 * (j : Int) := by rw [IntKind.wrap_i64]; omega
      have hwc : IntKind.i64.wrap (2 + 2 * (j : Int)) = 2 + 2 * (j : Int) := by rw [IntKind.wrap_i64]; omega
      have hta : (1 + 2 * (j : Int)).toNat = 1 + 2 * j := by omega
      have htb : (2 + 2 * (j : Int)).toNat = 2 + 2 * j := by omega
      have hra : 0 ≤ 1 + 2 * (j : Int) ∧ 1 + 2 * (j : Int) < 49 := by omega
      have hrb : 0 ≤ 2 + 2 * (j : Int) ∧ 2 + 2 * (j : Int) < 49 := by omega
      go_wp2_with fail
      refine wp_region_held_drew (S := fun w' => w'.cell? ⟨g, 1 + 2 * j, none⟩ = some (.slice (some ⟨Ba, 0, none⟩) 64 64) ∧ w'.cell? ⟨g, 2 + 2 * j, none⟩ = some (.slice (some ⟨Bb, 0, none⟩) 64 64)) (by kernel_rfl) ⟨qa, qb⟩ (fun hHeld => ?_)
      refine wpAnyH_take (i := 0) (v := .slice (some ⟨g, 0, none⟩) 49 c) rfl (by kernel_rfl) (by kernel_rfl) (by kernel_rfl) (fun _ _ _ h => h) (Or.inl ⟨by rfl, ?yb0⟩) (by assumption) ?rb0
      case yb0 => (intro wq hSw; (try simp only [List.getElem_toArray, List.getElem_cons_zero, List.getElem_cons_succ]); go_simp; try with_reducible rfl)
      case rb0 =>
      try simp only [Act.put, List.setIfInBounds_toArray, List.set_cons_zero, List.set_cons_succ, List.getElem_toArray, List.getElem_cons_zero, List.getElem_cons_succ]
      refine wpAnyH_take (i := 1) (v := .int .i64 (j : Int)) rfl (by kernel_rfl) (by kernel_rfl) (by kernel_rfl) (fun _ _ _ h => h) (Or.inl ⟨by rfl, ?yb1⟩) (by assumption) ?rb1
      case yb1 => (intro wq hSw; (try simp only [List.getElem_toArray, List.getElem_cons_zero, List.getElem_cons_succ]); go_simp; try with_reducible rfl)
      case rb1 =>
      try simp only [Act.put, List.setIfInBounds_toArray, List.set_cons_zero, List.set_cons_succ, List.getElem_toArray, List.getElem_cons_zero, List.getElem_cons_succ]
      refine wpAnyH_take (i := 2) (v := .int .i64 (2 * (j : Int))) rfl (by kernel_rfl) (by kernel_rfl) (by kernel_rfl) (fun _ _ _ h => h) (Or.inl ⟨by rfl, ?yb2⟩) (by assumption) ?rb2
      case yb2 => (intro wq hSw; (try simp only [List.getElem_toArray, List.getElem_cons_zero, List.getElem_cons_succ]); go_simp; try with_reducible rfl)
      case rb2 =>
      try simp only [Act.put, List.setIfInBounds_toArray, List.set_cons_zero, List.set_cons_succ, List.getElem_toArray, List.getElem_cons_zero, List.getElem_cons_succ]
      refine wpAnyH_take (i := 3) (v := .int .i64 (1 + 2 * (j : Int))) rfl (by kernel_rfl) (by kernel_rfl) (by kernel_rfl) (fun _ _ _ h => h) (Or.inl ⟨by rfl, ?yb3⟩) (by assumption) ?rb3
      case yb3 => (intro wq hSw; (try simp only [List.getElem_toArray, List.getElem_cons_zero, List.getElem_cons_succ]); go_simp; try with_reducible rfl)
      case rb3 =>
      try simp only [Act.put, List.setIfInBounds_toArray, List.set_cons_zero, List.set_cons_succ, List.getElem_toArray, List.getElem_cons_zero, List.getElem_cons_succ]
      refine wpAnyH_take (i := 4) (v := .pointer (some ⟨g, 1 + 2 * j, none⟩)) rfl (by kernel_rfl) (by kernel_rfl) (by kernel_rfl) (fun _ _ _ h => h) (Or.inl ⟨by rfl, ?yb4⟩) (by assumption) ?rb4
      case yb4 => (intro wq hSw; (try simp only [List.getElem_toArray, List.getElem_cons_zero, List.getElem_cons_succ]); go_simp; try with_reducible rfl)
      case rb4 =>
      try simp only [Act.put, List.setIfInBounds_toArray, List.set_cons_zero, List.set_cons_succ, List.getElem_toArray, List.getElem_cons_zero, List.getElem_cons_succ]
      refine wpAnyH_take (i := 5) (v := .slice (some ⟨Ba, 0, none⟩) 64 64) rfl (by kernel_rfl) (by kernel_rfl) (by kernel_rfl) (fun _ _ _ h => h) (Or.inl ⟨by rfl, ?yb5⟩) (by assumption) ?rb5
      case yb5 => (intro wq hSw; (obtain ⟨s0, s1⟩ := hSw); (try simp only [List.getElem_toArray, List.getElem_cons_zero, List.getElem_cons_succ]); go_simp; try with_reducible rfl)
      case rb5 =>
      try simp only [Act.put, List.setIfInBounds_toArray, List.set_cons_zero, List.set_cons_succ, List.getElem_toArray, List.getElem_cons_zero, List.getElem_cons_succ]
      refine wpAnyH_take (i := 6) (v := .slice (some ⟨g, 0, none⟩) 49 c) rfl (by kernel_rfl) (by kernel_rfl) (by kernel_rfl) (fun _ _ _ h => h) (Or.inl ⟨by rfl, ?yb6⟩) (by assumption) ?rb6
      case yb6 => (intro wq hSw; (try simp only [List.getElem_toArray, List.getElem_cons_zero, List.getElem_cons_succ]); go_simp; try with_reducible rfl)
      case rb6 =>
      try simp only [Act.put, List.setIfInBounds_toArray, List.set_cons_zero, List.set_cons_succ, List.getElem_toArray, List.getElem_cons_zero, List.getElem_cons_succ]
      refine wpAnyH_take (i := 7) (v := .int .i64 (j : Int)) rfl (by kernel_rfl) (by kernel_rfl) (by kernel_rfl) (fun _ _ _ h => h) (Or.inl ⟨by rfl, ?yb7⟩) (by assumption) ?rb7
      case yb7 => (intro wq hSw; (try simp only [List.getElem_toArray, List.getElem_cons_zero, List.getElem_cons_succ]); go_simp; try with_reducible rfl)
      case rb7 =>
      try simp only [Act.put, List.setIfInBounds_toArray, List.set_cons_zero, List.set_cons_succ, List.getElem_toArray, List.getElem_cons_zero, List.getElem_cons_succ]
      refine wpAnyH_take (i := 8) (v := .int .i64 (2 * (j : Int))) rfl (by kernel_rfl) (by kernel_rfl) (by kernel_rfl) (fun _ _ _ h => h) (Or.inl ⟨by rfl, ?yb8⟩) (by assumption) ?rb8
      case yb8 => (intro wq hSw; (try simp only [List.getElem_toArray, List.getElem_cons_zero, List.getElem_cons_succ]); go_simp; try with_reducible rfl)
      case rb8 =>
      try simp only [Act.put, List.setIfInBounds_toArray, List.set_cons_zero, List.set_cons_succ, List.getElem_toArray, List.getElem_cons_zero, List.getElem_cons_succ]
      refine wpAnyH_take (i := 9) (v := .int .i64 (2 + 2 * (j : Int))) rfl (by kernel_rfl) (by kernel_rfl) (by kernel_rfl) (fun _ _ _ h => h) (Or.inl ⟨by rfl, ?yb9⟩) (by assumption) ?rb9
      case yb9 => (intro wq hSw; (try simp only [List.getElem_toArray, List.getElem_cons_zero, List.getElem_cons_succ]); go_simp; try with_reducible rfl)
      case rb9 =>
      try simp only [Act.put, List.setIfInBounds_toArray, List.set_cons_zero, List.set_cons_succ, List.getElem_toArray, List.getElem_cons_zero, List.getElem_cons_succ]
      refine wpAnyH_take (i := 10) (v := .pointer (some ⟨g, 2 + 2 * j, none⟩)) rfl (by kernel_rfl) (by kernel_rfl) (by kernel_rfl) (fun _ _ _ h => h) (Or.inl ⟨by rfl, ?yb10⟩) (by assumption) ?rb10
      case yb10 => (intro wq hSw; (try simp only [List.getElem_toArray, List.getElem_cons_zero, List.getElem_cons_succ]); go_simp; try with_reducible rfl)
      case rb10 =>
      try simp only [Act.put, List.setIfInBounds_toArray, List.set_cons_zero, List.set_cons_succ, List.getElem_toArray, List.getElem_cons_zero, List.getElem_cons_succ]
      refine wpAnyH_take (i := 11) (v := .slice (some ⟨Bb, 0, none⟩) 64 64) rfl (by kernel_rfl) (by kernel_rfl) (by kernel_rfl) (fun _ _ _ h => h) (Or.inl ⟨by rfl, ?yb11⟩) (by assumption) ?rb11
      case yb11 => (intro wq hSw; (obtain ⟨s0, s1⟩ := hSw); (try simp only [List.getElem_toArray, List.getElem_cons_zero, List.getElem_cons_succ]); go_simp; try with_reducible rfl)
      case rb11 =>
      try simp only [Act.put, List.setIfInBounds_toArray, List.set_cons_zero, List.set_cons_succ, List.getElem_toArray, List.getElem_cons_zero, List.getElem_cons_succ]
      refine wpAnyH_take (i := 12) (v := .slice (some ⟨Ba, 0, none⟩) 64 64) rfl (by kernel_rfl) (by kernel_rfl) (by kernel_rfl) (fun _ _ _ h => h) (Or.inl ⟨by rfl, ?yb12⟩) (by assumption) ?rb12
      case yb12 => (intro wq hSw; (try simp only [List.getElem_toArray, List.getElem_cons_zero, List.getElem_cons_succ]); go_simp; try with_reducible rfl)
      case rb12 =>
      try simp only [Act.put, List.setIfInBounds_toArray, List.set_cons_zero, List.set_cons_succ, List.getElem_toArray, List.getElem_cons_zero, List.getElem_cons_succ]
      refine wpAnyH_take (i := 13) (v := .slice (some ⟨Bb, 0, none⟩) 64 64) rfl (by kernel_rfl) (by kernel_rfl) (by kernel_rfl) (fun _ _ _ h => h) (Or.inl ⟨by rfl, ?yb13⟩) (by assumption) ?rb13
      case yb13 => (intro wq hSw; (try simp only [List.getElem_toArray, List.getElem_cons_zero, List.getElem_cons_succ]); go_simp; try with_reducible rfl)
      case rb13 =>
      try simp only [Act.put, List.setIfInBounds_toArray, List.set_cons_zero, List.set_cons_succ, List.getElem_toArray, List.getElem_cons_zero, List.getElem_cons_succ]
      refine wpAnyH_done (by kernel_rfl) ?_ _
      change Exit.then _ _ _ _ wr.drew
      clear hHeld
      clear hwa hwb hwc hta htb hra hrb qa qb
      have tq : Turn (fun _ => False) wr wr.drew := (Turn.refl _ wr).drew
      have HSAd := Lib.hid (rangeAt_turn HRA.out tq id)
      have HSBd := Lib.hid (rangeAt_turn HRB.out tq id)
      go_wp2_with fail
      refine (number_any _ sa wr.drew (sec_src HSAd.out HLa.out.1) HLa.out.2).mono ?_
      rintro e w1 ⟨rfl, hw1⟩
      subst hw1
      rw [num_min]
      by_cases hna : numK sa 4 = m
      · rw [hna]
        go_wp2_with fail
        refine (number_any _ sb wr.drew (sec_src HSBd.out HLb.out.1) HLb.out.2).mono ?_
        rintro e w1 ⟨rfl, hw1⟩
        subst hw1
        rw [num_min]
        by_cases hnb : numK sb 4 = m
        · rw [hnb]
          obtain ⟨x1, hx1⟩ : ∃ x, numK (sa.drop 4) 4 = x := ⟨_, rfl⟩
          have HX1 := Lib.hid hx1
          have hbk : begunK ss m (j + 1) = some (l ++ [((x1 : Int), (sa.drop 8).take 32 ++ (sb.drop 8).take 32)]) := by
            rw [begunK, HBJ.out, HPG.out, if_pos ⟨hna, hnb⟩, hx1]; rfl
          have HBK := Lib.hid hbk
          clear hbk hx1 hna hnb
          have tq2' : Turn (fun _ => False) wr wr.drew.drew := tq.drew
          obtain ⟨wq, hwq⟩ : ∃ wq, wr.drew.drew = wq := ⟨_, rfl⟩
          rw [hwq] at tq2'
          have HSAq := Lib.hid (rangeAt_turn HRA.out tq2' id)
          have hn2 := heap_alloc_new wq (.cells #[.slice (some ⟨Ba, 8, none⟩) 32 56, .slice (some ⟨Bb, 8, none⟩) 32 56] 31)
          have t12 : Turn (fun _ => False) wr (wq.alloc (.cells #[.slice (some ⟨Ba, 8, none⟩) 32 56, .slice (some ⟨Bb, 8, none⟩) 32 56] 31)) := tq2'.alloc _
          have k1 : (wq.alloc (.cells #[.slice (some ⟨Ba, 8, none⟩) 32 56, .slice (some ⟨Bb, 8, none⟩) 32 56] 31)).cell? ⟨wq.heap.size, 0, none⟩ = some (.slice (some ⟨Ba, 8, none⟩) 32 56) := cell_of_row _ _ 0 _ 31 (0, 0) hn2
          have k2 : (wq.alloc (.cells #[.slice (some ⟨Ba, 8, none⟩) 32 56, .slice (some ⟨Bb, 8, none⟩) 32 56] 31)).cell? ⟨wq.heap.size, 1, none⟩ = some (.slice (some ⟨Bb, 8, none⟩) 32 56) := cell_of_row _ _ 1 _ 31 (0, 0) hn2
          obtain ⟨w2, hw2⟩ : ∃ w2, wq.alloc (.cells #[.slice (some ⟨Ba, 8, none⟩) 32 56, .slice (some ⟨Bb, 8, none⟩) 32 56] 31) = w2 := ⟨_, rfl⟩
          rw [hw2] at t12 k1 k2
          clear hn2
          have HSA2 := Lib.hid (rangeAt_turn HRA.out t12 id)
          have HSB2 := Lib.hid (rangeAt_turn HRB.out t12 id)
          go_wp2_with fail
          refine wp_region_held_drew (S := fun _ => True) (by kernel_rfl) trivial (fun hHeld => ?_)
          refine wpAnyH_take (i := 0) (v := u6) rfl (by kernel_rfl) (by kernel_rfl) (by kernel_rfl) (fun _ _ _ h => h) (Or.inl ⟨by rfl, ?yd0⟩) (by assumption) ?rd0
          case yd0 => (intro wq hSw; (try simp only [List.getElem_toArray, List.getElem_cons_zero, List.getElem_cons_succ]); go_simp; try with_reducible rfl)
          case rd0 =>
          try simp only [Act.put, List.setIfInBounds_toArray, List.set_cons_zero, List.set_cons_succ, List.getElem_toArray, List.getElem_cons_zero, List.getElem_cons_succ]
          refine wpAnyH_take (i := 1) (v := .slice (some ⟨Ba, 0, none⟩) 64 64) rfl (by kernel_rfl) (by kernel_rfl) (by kernel_rfl) (fun _ _ _ h => h) (Or.inl ⟨by rfl, ?yd1⟩) (by assumption) ?rd1
          case yd1 => (intro wq hSw; (try simp only [List.getElem_toArray, List.getElem_cons_zero, List.getElem_cons_succ]); go_simp; try with_reducible rfl)
          case rd1 =>
          try simp only [Act.put, List.setIfInBounds_toArray, List.set_cons_zero, List.set_cons_succ, List.getElem_toArray, List.getElem_cons_zero, List.getElem_cons_succ]
          refine wpAnyH_take (i := 2) (v := .slice (some ⟨Ba, 4, none⟩) 60 60) rfl (by kernel_rfl) (by kernel_rfl) (by kernel_rfl) (fun _ _ _ h => h) (Or.inl ⟨by rfl, ?yd2⟩) (by assumption) ?rd2
          case yd2 => (intro wq hSw; (try simp only [List.getElem_toArray, List.getElem_cons_zero, List.getElem_cons_succ]); go_simp; try with_reducible rfl)
          case rd2 =>
          try simp only [Act.put, List.setIfInBounds_toArray, List.set_cons_zero, List.set_cons_succ, List.getElem_toArray, List.getElem_cons_zero, List.getElem_cons_succ]
          refine wpAnyH_take (i := 4) (v := .slice (some ⟨Ba, 0, none⟩) 64 64) rfl (by kernel_rfl) (by kernel_rfl) (by kernel_rfl) (fun _ _ _ h => h) (Or.inl ⟨by rfl, ?yd4⟩) (by assumption) ?rd4
          case yd4 => (intro wq hSw; (try simp only [List.getElem_toArray, List.getElem_cons_zero, List.getElem_cons_succ]); go_simp; try with_reducible rfl)
          case rd4 =>
          try simp only [Act.put, List.setIfInBounds_toArray, List.set_cons_zero, List.set_cons_succ, List.getElem_toArray, List.getElem_cons_zero, List.getElem_cons_succ]
          refine wpAnyH_take (i := 5) (v := .slice (some ⟨Ba, 8, none⟩) 32 56) rfl (by kernel_rfl) (by kernel_rfl) (by kernel_rfl) (fun _ _ _ h => h) (Or.inl ⟨by rfl, ?yd5⟩) (by assumption) ?rd5
          case yd5 => (intro wq hSw; (try simp only [List.getElem_toArray, List.getElem_cons_zero, List.getElem_cons_succ]); go_simp; try with_reducible rfl)
          case rd5 =>
          try simp only [Act.put, List.setIfInBounds_toArray, List.set_cons_zero, List.set_cons_succ, List.getElem_toArray, List.getElem_cons_zero, List.getElem_cons_succ]
          refine wpAnyH_take (i := 6) (v := .slice (some ⟨Bb, 0, none⟩) 64 64) rfl (by kernel_rfl) (by kernel_rfl) (by kernel_rfl) (fun _ _ _ h => h) (Or.inl ⟨by rfl, ?yd6⟩) (by assumption) ?rd6
          case yd6 => (intro wq hSw; (try simp only [List.getElem_toArray, List.getElem_cons_zero, List.getElem_cons_succ]); go_simp; try with_reducible rfl)
          case rd6 =>
          try simp only [Act.put, List.setIfInBounds_toArray, List.set_cons_zero, List.set_cons_succ, List.getElem_toArray, List.getElem_cons_zero, List.getElem_cons_succ]
          refine wpAnyH_take (i := 7) (v := .slice (some ⟨Bb, 8, none⟩) 32 56) rfl (by kernel_rfl) (by kernel_rfl) (by kernel_rfl) (fun _ _ _ h => h) (Or.inl ⟨by rfl, ?yd7⟩) (by assumption) ?rd7
          case yd7 => (intro wq hSw; (try simp only [List.getElem_toArray, List.getElem_cons_zero, List.getElem_cons_succ]); go_simp; try with_reducible rfl)
          case rd7 =>
          try simp only [Act.put, List.setIfInBounds_toArray, List.set_cons_zero, List.set_cons_succ, List.getElem_toArray, List.getElem_cons_zero, List.getElem_cons_succ]
          refine wpAnyH_ready (rs := [3, 8]) (by kernel_rfl) (by simp) ?_
          refine AllReadyH.cons rfl (fun K hK => ?_) (AllReadyH.cons rfl (fun K hK => ?_) AllReadyH.nil)
          · go_simp
            refine (number_any _ (sa.drop 4) _ (sec_src_drop HSAq.out HLa.out.1 4 60 60 (by omega)) (fun y hy => HLa.out.2 y (List.mem_of_mem_drop hy))).mono ?_
            rintro e w1 ⟨rfl, hw1⟩
            rw [num_min, HX1.out, hw1]
            clear hw1
            refine hK.out _ _ trivial (fun _ => ?_)
            clear hK K
            try simp only [Act.put, List.setIfInBounds_toArray, List.set_cons_zero, List.set_cons_succ, List.getElem_toArray, List.getElem_cons_zero, List.getElem_cons_succ]
            refine wpAnyH_ready (rs := [8]) (by kernel_rfl) (by simp) ?_
            refine AllReadyH.cons rfl (fun K hK => ?_) AllReadyH.nil
            go_simp
            
            refine hK.out _ _ trivial (fun _ => ?_)
            clear hK K
            try simp only [Act.put, List.setIfInBounds_toArray, List.set_cons_zero, List.set_cons_succ, List.getElem_toArray, List.getElem_cons_zero, List.getElem_cons_succ]
            refine wpAnyH_ready (rs := [9]) (by kernel_rfl) (by simp) ?_
            refine AllReadyH.cons rfl (fun K hK => ?_) AllReadyH.nil
            go_simp
            refine (concat_at w2 wq.heap.size 2 (by omega) Ba 8 56 Bb 8 56 ((sa.drop 8).take 32) ((sb.drop 8).take 32) 32 32 (by simp [HLa.out.1]) (by simp [HLb.out.1]) k1 k2 (sec_cells_mid HSA2.out HLa.out.1) (sec_cells_mid HSB2.out HLb.out.1) (by omega) (by omega)).mono ?_
            rintro e w3 ⟨v3, rfl, hrd3, hown3, t3⟩
            obtain ⟨g3, o3, c3, hv3, hc3⟩ := reads_pos hrd3 (by simp [HLa.out.1, HLb.out.1])
            have hl3 : ((sa.drop 8).take 32 ++ (sb.drop 8).take 32).length = 64 := by simp [HLa.out.1, HLb.out.1]
            rw [hl3] at hv3
            subst hv3
            refine hK.out _ _ trivial (fun _ => ?_)
            clear hK K
            try simp only [Act.put, List.setIfInBounds_toArray, List.set_cons_zero, List.set_cons_succ, List.getElem_toArray, List.getElem_cons_zero, List.getElem_cons_succ]
            refine wpAnyH_take (i := 10) (v := .agg #[.int .i64 (x1 : Int), .slice (some ⟨g3, o3, none⟩) 64 c3]) rfl (by kernel_rfl) (by kernel_rfl) (by kernel_rfl) (fun _ _ _ h => h) (Or.inl ⟨by rfl, ?yp10⟩) (by assumption) ?rp10
            case yp10 => (intro wq hSw; (try simp only [List.getElem_toArray, List.getElem_cons_zero, List.getElem_cons_succ]); go_simp; try with_reducible rfl)
            case rp10 =>
            try simp only [Act.put, List.setIfInBounds_toArray, List.set_cons_zero, List.set_cons_succ, List.getElem_toArray, List.getElem_cons_zero, List.getElem_cons_succ]
            refine wpAnyH_ready (rs := [11]) (by kernel_rfl) (by simp) ?_
            refine AllReadyH.cons rfl (fun K hK => ?_) AllReadyH.nil
            go_simp
            
            refine hK.out _ _ trivial (fun _ => ?_)
            clear hK K
            try simp only [Act.put, List.setIfInBounds_toArray, List.set_cons_zero, List.set_cons_succ, List.getElem_toArray, List.getElem_cons_zero, List.getElem_cons_succ]
            have t4 : Turn (fun _ => False) w3 (w3.alloc (.cells #[.int .i64 (x1 : Int), .slice (some ⟨g3, o3, none⟩) 64 c3] 107)) := (Turn.refl _ w3).alloc _
            have hn4 := heap_alloc_new w3 (.cells #[.int .i64 (x1 : Int), .slice (some ⟨g3, o3, none⟩) 64 c3] 107)
            have hnews : ∀ (k : Nat) u, [Value.int .i64 (x1 : Int), .slice (some ⟨g3, o3, none⟩) 64 c3][k]? = some u → (w3.alloc (.cells #[.int .i64 (x1 : Int), .slice (some ⟨g3, o3, none⟩) 64 c3] 107)).cell? ((⟨w3.heap.size, 0, none⟩ : Addr).add k) = some u := by
              intro k u hk
              rw [Addr.add_mid, Nat.zero_add, cell_of_row _ _ _ _ 107 (0, 0) hn4]
              simpa using hk
            have hsz4 : (w3.alloc (.cells #[.int .i64 (x1 : Int), .slice (some ⟨g3, o3, none⟩) 64 c3] 107)).heap.size = w3.heap.size + 1 := by simp
            obtain ⟨w4, hw4⟩ : ∃ w4, w3.alloc (.cells #[.int .i64 (x1 : Int), .slice (some ⟨g3, o3, none⟩) 64 c3] 107) = w4 := ⟨_, rfl⟩
            rw [hw4] at t4 hnews hsz4 ⊢
            clear hw4 hn4
            have T24 := (t12.trans t3 (fun _ _ => id)).trans t4 (fun _ _ => id)
            have ho4 := T24.owns HO.out (fun _ _ => id)
            obtain ⟨v5, w5, hap, ho5, hg5, hnil5⟩ := run_append_own (P := Tryd.prog) w4 w.heap.size 83 83 107 i0 _ 2 32 Tryd.underlying83 hi hz0 hz1 hz2 rfl (by decide) u6 j _ ho4 ⟨w3.heap.size, 0, none⟩ 1 1 _ rfl hnews (fun u hu => by simp at hu; rcases hu with rfl | rfl <;> rfl) (by unfold maxLen; omega) (by omega) (by have h1 := tr.size; have h2 := T24.size; omega)
            have hf5 := run_append_where (P := Tryd.prog) w4 83 83 107 i0 _ 2 32 Tryd.underlying83 hi hz0 hz1 hz2 rfl (by decide) w.heap.size u6 j _ ho4 ⟨w3.heap.size, 0, none⟩ 1 1 _ rfl hnews (fun u hu => by simp at hu; rcases hu with rfl | rfl <;> rfl) (by unfold maxLen; omega) (by omega) v5 w5 hap
            refine wpAnyH_ready (rs := [12]) (by kernel_rfl) (by simp) ?_
            refine AllReadyH.cons rfl (fun K hK => ?_) AllReadyH.nil
            rw [if_pos (by rfl)]
            refine oper_exec _ _ (exec_append _ _ (.tmp 51) (.tmp 62) 83 rfl _ _ _ _ _ rfl rfl hap) ?_
            refine hK.out _ _ trivial (fun _ => ?_)
            clear hK K
            try simp only [Act.put, List.setIfInBounds_toArray, List.set_cons_zero, List.set_cons_succ, List.getElem_toArray, List.getElem_cons_zero, List.getElem_cons_succ]
            obtain ⟨a5, n5, c5, rfl⟩ : ∃ a n c, v5 = .slice a n c := by rcases ho5.2 with ⟨h, _⟩ | ⟨_, _, _, h, _⟩ <;> exact ⟨_, _, _, h⟩
            refine wpAnyH_take (i := 13) (v := .slice a5 n5 c5) rfl (by kernel_rfl) (by kernel_rfl) (by kernel_rfl) (fun _ _ _ h => h) (Or.inl ⟨by rfl, ?yp13⟩) (by assumption) ?rp13
            case yp13 => (intro wq hSw; (try simp only [List.getElem_toArray, List.getElem_cons_zero, List.getElem_cons_succ]); go_simp; try with_reducible rfl)
            case rp13 =>
            try simp only [Act.put, List.setIfInBounds_toArray, List.set_cons_zero, List.set_cons_succ, List.getElem_toArray, List.getElem_cons_zero, List.getElem_cons_succ]
            refine wpAnyH_done (by kernel_rfl) ?_ _
            change Exit.inBlock _ _ _ _ w5
            have t5 : Turn (fun q => u6.ownBlock = some q) w4 w5 := (Turn.refl (fun q => u6.ownBlock = some q) w4).grown hg5 (fun k h _ => h)
            have HPOST := Lib.hid (page_step HL.out HPS.out HO.out tr (T24) t5 hf5 ho5 (reads_turn4 hrd3 t4) (fun k hk => by have := hown3 k hk; have h2 := t12.size; omega) (fun k hk => by have hq : g3 < w3.heap.size := World.block_lt_of_cell? w3 _ (hc3 0 (by rw [hl3]; omega)); simp [Value.ownBlock] at hk; subst hk; have := t4.size; omega))
            clear hHeld ho5 hg5 hf5 hap ho4 hnews hrd3 hown3 hc3
            go_wp2_with fail
            go_roundw
            case rel =>
              obtain ⟨T5, ps', hl', hps', ho'⟩ := HPOST.out
              refine ⟨j + 1, by omega, by go_num, _, HBK.out, ps', hl', hps', ho', T5⟩
            case measure => simp [intOf]; omega
          · go_simp
            refine hK.out _ _ trivial (fun _ => ?_)
            clear hK K
            try simp only [Act.put, List.setIfInBounds_toArray, List.set_cons_zero, List.set_cons_succ, List.getElem_toArray, List.getElem_cons_zero, List.getElem_cons_succ]
            refine wpAnyH_ready (rs := [3]) (by kernel_rfl) (by simp) ?_
            refine AllReadyH.cons rfl (fun K hK => ?_) AllReadyH.nil
            go_simp
            refine (number_any _ (sa.drop 4) _ (sec_src_drop HSA2.out HLa.out.1 4 60 60 (by omega)) (fun y hy => HLa.out.2 y (List.mem_of_mem_drop hy))).mono ?_
            rintro e w1 ⟨rfl, hw1⟩
            rw [num_min, HX1.out, hw1]
            clear hw1
            refine hK.out _ _ trivial (fun _ => ?_)
            clear hK K
            try simp only [Act.put, List.setIfInBounds_toArray, List.set_cons_zero, List.set_cons_succ, List.getElem_toArray, List.getElem_cons_zero, List.getElem_cons_succ]
            refine wpAnyH_ready (rs := [9]) (by kernel_rfl) (by simp) ?_
            refine AllReadyH.cons rfl (fun K hK => ?_) AllReadyH.nil
            go_simp
            refine (concat_at w2 wq.heap.size 2 (by omega) Ba 8 56 Bb 8 56 ((sa.drop 8).take 32) ((sb.drop 8).take 32) 32 32 (by simp [HLa.out.1]) (by simp [HLb.out.1]) k1 k2 (sec_cells_mid HSA2.out HLa.out.1) (sec_cells_mid HSB2.out HLb.out.1) (by omega) (by omega)).mono ?_
            rintro e w3 ⟨v3, rfl, hrd3, hown3, t3⟩
            obtain ⟨g3, o3, c3, hv3, hc3⟩ := reads_pos hrd3 (by simp [HLa.out.1, HLb.out.1])
            have hl3 : ((sa.drop 8).take 32 ++ (sb.drop 8).take 32).length = 64 := by simp [HLa.out.1, HLb.out.1]
            rw [hl3] at hv3
            subst hv3
            refine hK.out _ _ trivial (fun _ => ?_)
            clear hK K
            try simp only [Act.put, List.setIfInBounds_toArray, List.set_cons_zero, List.set_cons_succ, List.getElem_toArray, List.getElem_cons_zero, List.getElem_cons_succ]
            refine wpAnyH_take (i := 10) (v := .agg #[.int .i64 (x1 : Int), .slice (some ⟨g3, o3, none⟩) 64 c3]) rfl (by kernel_rfl) (by kernel_rfl) (by kernel_rfl) (fun _ _ _ h => h) (Or.inl ⟨by rfl, ?yr10⟩) (by assumption) ?rr10
            case yr10 => (intro wq hSw; (try simp only [List.getElem_toArray, List.getElem_cons_zero, List.getElem_cons_succ]); go_simp; try with_reducible rfl)
            case rr10 =>
            try simp only [Act.put, List.setIfInBounds_toArray, List.set_cons_zero, List.set_cons_succ, List.getElem_toArray, List.getElem_cons_zero, List.getElem_cons_succ]
            refine wpAnyH_ready (rs := [11]) (by kernel_rfl) (by simp) ?_
            refine AllReadyH.cons rfl (fun K hK => ?_) AllReadyH.nil
            go_simp
            
            refine hK.out _ _ trivial (fun _ => ?_)
            clear hK K
            try simp only [Act.put, List.setIfInBounds_toArray, List.set_cons_zero, List.set_cons_succ, List.getElem_toArray, List.getElem_cons_zero, List.getElem_cons_succ]
            have t4 : Turn (fun _ => False) w3 (w3.alloc (.cells #[.int .i64 (x1 : Int), .slice (some ⟨g3, o3, none⟩) 64 c3] 107)) := (Turn.refl _ w3).alloc _
            have hn4 := heap_alloc_new w3 (.cells #[.int .i64 (x1 : Int), .slice (some ⟨g3, o3, none⟩) 64 c3] 107)
            have hnews : ∀ (k : Nat) u, [Value.int .i64 (x1 : Int), .slice (some ⟨g3, o3, none⟩) 64 c3][k]? = some u → (w3.alloc (.cells #[.int .i64 (x1 : Int), .slice (some ⟨g3, o3, none⟩) 64 c3] 107)).cell? ((⟨w3.heap.size, 0, none⟩ : Addr).add k) = some u := by
              intro k u hk
              rw [Addr.add_mid, Nat.zero_add, cell_of_row _ _ _ _ 107 (0, 0) hn4]
              simpa using hk
            have hsz4 : (w3.alloc (.cells #[.int .i64 (x1 : Int), .slice (some ⟨g3, o3, none⟩) 64 c3] 107)).heap.size = w3.heap.size + 1 := by simp
            obtain ⟨w4, hw4⟩ : ∃ w4, w3.alloc (.cells #[.int .i64 (x1 : Int), .slice (some ⟨g3, o3, none⟩) 64 c3] 107) = w4 := ⟨_, rfl⟩
            rw [hw4] at t4 hnews hsz4 ⊢
            clear hw4 hn4
            have T24 := (t12.trans t3 (fun _ _ => id)).trans t4 (fun _ _ => id)
            have ho4 := T24.owns HO.out (fun _ _ => id)
            obtain ⟨v5, w5, hap, ho5, hg5, hnil5⟩ := run_append_own (P := Tryd.prog) w4 w.heap.size 83 83 107 i0 _ 2 32 Tryd.underlying83 hi hz0 hz1 hz2 rfl (by decide) u6 j _ ho4 ⟨w3.heap.size, 0, none⟩ 1 1 _ rfl hnews (fun u hu => by simp at hu; rcases hu with rfl | rfl <;> rfl) (by unfold maxLen; omega) (by omega) (by have h1 := tr.size; have h2 := T24.size; omega)
            have hf5 := run_append_where (P := Tryd.prog) w4 83 83 107 i0 _ 2 32 Tryd.underlying83 hi hz0 hz1 hz2 rfl (by decide) w.heap.size u6 j _ ho4 ⟨w3.heap.size, 0, none⟩ 1 1 _ rfl hnews (fun u hu => by simp at hu; rcases hu with rfl | rfl <;> rfl) (by unfold maxLen; omega) (by omega) v5 w5 hap
            refine wpAnyH_ready (rs := [12]) (by kernel_rfl) (by simp) ?_
            refine AllReadyH.cons rfl (fun K hK => ?_) AllReadyH.nil
            rw [if_pos (by rfl)]
            refine oper_exec _ _ (exec_append _ _ (.tmp 51) (.tmp 62) 83 rfl _ _ _ _ _ rfl rfl hap) ?_
            refine hK.out _ _ trivial (fun _ => ?_)
            clear hK K
            try simp only [Act.put, List.setIfInBounds_toArray, List.set_cons_zero, List.set_cons_succ, List.getElem_toArray, List.getElem_cons_zero, List.getElem_cons_succ]
            obtain ⟨a5, n5, c5, rfl⟩ : ∃ a n c, v5 = .slice a n c := by rcases ho5.2 with ⟨h, _⟩ | ⟨_, _, _, h, _⟩ <;> exact ⟨_, _, _, h⟩
            refine wpAnyH_take (i := 13) (v := .slice a5 n5 c5) rfl (by kernel_rfl) (by kernel_rfl) (by kernel_rfl) (fun _ _ _ h => h) (Or.inl ⟨by rfl, ?yr13⟩) (by assumption) ?rr13
            case yr13 => (intro wq hSw; (try simp only [List.getElem_toArray, List.getElem_cons_zero, List.getElem_cons_succ]); go_simp; try with_reducible rfl)
            case rr13 =>
            try simp only [Act.put, List.setIfInBounds_toArray, List.set_cons_zero, List.set_cons_succ, List.getElem_toArray, List.getElem_cons_zero, List.getElem_cons_succ]
            refine wpAnyH_done (by kernel_rfl) ?_ _
            change Exit.inBlock _ _ _ _ w5
            have t5 : Turn (fun q => u6.ownBlock = some q) w4 w5 := (Turn.refl (fun q => u6.ownBlock = some q) w4).grown hg5 (fun k h _ => h)
            have HPOST := Lib.hid (page_step HL.out HPS.out HO.out tr (T24) t5 hf5 ho5 (reads_turn4 hrd3 t4) (fun k hk => by have := hown3 k hk; have h2 := t12.size; omega) (fun k hk => by have hq : g3 < w3.heap.size := World.block_lt_of_cell? w3 _ (hc3 0 (by rw [hl3]; omega)); simp [Value.ownBlock] at hk; subst hk; have := t4.size; omega))
            clear hHeld ho5 hg5 hf5 hap ho4 hnews hrd3 hown3 hc3
            go_wp2_with fail
            go_roundw
            case rel =>
              obtain ⟨T5, ps', hl', hps', ho'⟩ := HPOST.out
              refine ⟨j + 1, by omega, by go_num, _, HBK.out, ps', hl', hps', ho', T5⟩
            case measure => simp [intOf]; omega
        · have hne : ((numK sb 4 : Nat) : Int) ≠ (m : Int) := by omega
          have hne1 : (((numK sb 4 : Nat) : Int) == (m : Int)) = false := by rw [beq_eq_false_iff_ne]; exact hne
          have hne2 : (numK sb 4 == m) = false := by rw [beq_eq_false_iff_ne]; exact hnb
          have hfin : begunM ss = none := by rw [HBM.out, if_neg (by omega)]; exact begunK_none ss m j n hlt (by rw [HPG.out, if_neg (fun h => hnb h.2)])
          have HFN := Lib.hid hfin
          clear hfin hna
          go_wp2_with fail
          go_ret2
          rw [HFN.out]
          exact ⟨tr.drew, rfl⟩
      · have hne : ((numK sa 4 : Nat) : Int) ≠ (m : Int) := by omega
        have hne1 : (((numK sa 4 : Nat) : Int) == (m : Int)) = false := by rw [beq_eq_false_iff_ne]; exact hne
        have hne2 : (numK sa 4 == m) = false := by rw [beq_eq_false_iff_ne]; exact hna
        have hfin : begunM ss = none := by rw [HBM.out, if_neg (by omega)]; exact begunK_none ss m j n hlt (by rw [HPG.out, if_neg (fun h => hna h.1)])
        have HFN := Lib.hid hfin
        clear hfin
        go_wp2_with fail
        go_ret2
        rw [HFN.out]
        exact ⟨tr.drew, rfl⟩
    · obtain rfl : j = n := by omega
      have hfin : begunM ss = some l := by rw [HBM.out, if_neg (by omega)]; exact HBJ.out
      have HFN := Lib.hid hfin
      clear hfin
      go_wp2_with fail
      go_ret2
      rw [HFN.out]
      exact ⟨tr, u6, rfl, pages_of HL.out HPS.out HO.out⟩
end Go.Proofs.YtnenkclihgeacaaDoor
/- Own contracts: a journal is opened; it is written to. No statement is proved here. -/
namespace Go.Proofs.YtnenkclihgeacaaDoor
set_option maxRecDepth 100000
open Go.RowKit
set_option linter.unusedVariables false
set_option linter.unusedSimpArgs false

def finishM (l : List (Int × List Int)) (d : DiskM) : DiskM × Int := if fitsB (d.safe.length - 49) l = true then DiskM.run (layA l ++ [.fl]) d else (d, 1)
set_option maxHeartbeats 1600000 in
set_option maxRecDepth 100000 in
theorem finish_any (w : World) (F R : Nat → Prop) (J D : Nat) (d : DiskM) (last : Nat) (v : Value) (l : List (Int × List Int)) (h : JH w F J D d last) (hp : PagesIn w R v l)
    (hR : ∀ k, R k → k < w.heap.size ∧ ¬ F k) (hb : ∀ x ∈ l, BytesOk x.2) (hl : l.length ≤ 24) (hroom : Room 100 d) :
    Calls Tryd.prog 38 #[.pointer (some ⟨J, 0, none⟩), v] w (JStep w F J D last (finishM l d)) := by
  have HH := Lib.hid h
  have HP := Lib.hid hp
  have HRO := Lib.hid hroom
  obtain ⟨a, c, rfl, _⟩ := hp.form
  clear h hp hroom
  go_enter Tryd.func38, Tryd.ntmps38
  go_wp2_with fail
  refine (fits_any w F R J D d last _ l HH.out HP.out (by omega)).mono ?_
  rintro e w1 ⟨rfl, t1⟩
  by_cases hfit : fitsB (d.safe.length - 49) l = true
  · have HFIT := Lib.hid hfit
    have HFM := Lib.hid (show finishM l d = DiskM.run (layA l ++ [.fl]) d by unfold finishM; rw [if_pos hfit])
    rw [hfit]
    clear hfit
    go_wp2_with fail
    refine (lay_any w1 F R J D d last _ l (HH.out.turn0 t1) (HP.out.turn0 t1) (fun k hk => ⟨Nat.lt_of_lt_of_le (hR k hk).1 t1.size, (hR k hk).2⟩) hb hl HRO.out HFIT.out).mono ?_
    rintro e w2 ⟨rfl, F2, hj2, hs2⟩
    go_wp2_with fail
    go_ret
    rw [HFM.out]
    exact ⟨rfl, F2, hj2, (Step.of0 F t1).trans hs2⟩
  · have HFM := Lib.hid (show finishM l d = (d, 1) by unfold finishM; rw [if_neg hfit])
    rw [Bool.eq_false_iff.2 hfit]
    clear hfit
    go_wp2_with fail
    go_ret
    rw [HFM.out]
    exact ⟨rfl, F, HH.out.turn0 t1, Step.of0 F t1⟩

/-- The greatest number. -/
def lastK (ss : List (List Int)) : Nat → Nat
  | 0 => 0
  | j + 1 => max (lastK ss j) (numK (ss.getD j []) 4)
def openM (d : DiskM) : DiskM × Int :=
  if d.safe.length ≤ 49 then (d, 1) else if d.off = true then (d, 9) else match begunM (secsOf d 49) with
    | none => (d, 0)
    | some l => finishM l d
def OpenPost (w : World) (F : Nat → Prop) (D : Nat) (d : DiskM) (e : Ending) (w' : World) : Prop :=
  ∃ F', DH w' F' D (openM d).1 ∧ Step w F w' F' ∧ if (openM d).2 = 0 then ∃ J, e = .returned (.tuple #[.pointer (some ⟨J, 0, none⟩), .int .i64 0]) ∧ w.heap.size ≤ J ∧ JH w' F' J D (openM d).1 (lastK (secsOf d 49) 49) else e = .returned (.tuple #[.pointer none, .int .i64 (openM d).2])
theorem SecsAt.turnG {w w' : World} {g : Nat} {ss : List (List Int)} {G : Nat → Prop} (h : SecsAt w g ss) (ht : Turn G w w') (hn : ∀ k, k < w.heap.size → ¬ G k) : SecsAt w' g ss := fun i s hi => by
  obtain ⟨B, h1, h2⟩ := h i s hi
  have hg := World.block_lt_of_cell? w _ h1
  refine ⟨B, (ht.cell (p := ⟨g, i, none⟩) hg (hn g hg)).trans h1, fun j v hv => ?_⟩
  have h3 := h2 j v hv
  have hB := World.block_lt_of_cell? w _ h3
  exact (ht.cell (p := ⟨B, 0 + j, none⟩) hB (hn B hB)).trans h3
theorem begunK_ok (ss : List (List Int)) (m : Nat) (h : ∀ s ∈ ss, BytesOk s) : ∀ n l, begunK ss m n = some l → l.length = n ∧ ∀ x ∈ l, BytesOk x.2
  | 0, l, hl => by
    have : l = [] := by simpa [begunK] using hl.symm
    subst this; exact ⟨rfl, fun x hx => by simp at hx⟩
  | n + 1, l, hl => by
    rw [begunK] at hl
    cases hk : begunK ss m n with
    | none => rw [hk] at hl; simp at hl
    | some l0 =>
      rw [hk] at hl
      simp only [Option.bind_some] at hl
      cases hp : pageM ss m n with
      | none => rw [hp] at hl; simp at hl
      | some p =>
        rw [hp] at hl
        simp at hl
        subst hl
        obtain ⟨h1, h2⟩ := begunK_ok ss m h n l0 hk
        refine ⟨by simp [h1], fun x hx => ?_⟩
        rcases List.mem_append.1 hx with hx | hx
        · exact h2 x hx
        · simp at hx
          subst hx
          unfold pageM at hp
          have hg : ∀ j, BytesOk (ss.getD j []) := fun j => by
            by_cases hj : j < ss.length
            · exact h _ (by simp [List.getD, hj])
            · rw [List.getD, List.getElem?_eq_none (by omega)]; intro x hx; simp at hx
          split at hp
          · have hp' := Option.some.inj hp
            rw [← hp']
            intro y hy
            rcases List.mem_append.1 hy with hy | hy
            · exact hg _ y (List.mem_of_mem_drop (List.mem_of_mem_take hy))
            · exact hg _ y (List.mem_of_mem_drop (List.mem_of_mem_take hy))
          · simp at hp
theorem begunM_ok {ss : List (List Int)} (h : ∀ s ∈ ss, BytesOk s) {l : List (Int × List Int)} (hl : begunM ss = some l) : l.length ≤ 24 ∧ ∀ x ∈ l, BytesOk x.2 := by
  unfold begunM at hl
  split at hl
  · simp at hl
  · obtain ⟨h1, h2⟩ := begunK_ok ss _ h _ l hl
    exact ⟨by omega, h2⟩
theorem secsOf_ok {d : DiskM} (h : d.Ok) (hb : 49 < d.safe.length) : ∀ s ∈ secsOf d 49, s.length = 64 ∧ BytesOk s := fun s hs => by
  simp only [secsOf, List.mem_map, List.mem_range] at hs
  obtain ⟨k, hk, rfl⟩ := hs
  exact h.last k (by omega)
theorem zero59 (w : World) : (zeroValue 81).run Tryd.prog w = .ok (.agg #[.pointer none, .int .i64 0]) w := by kernel_rfl

set_option maxHeartbeats 1600000 in
set_option maxRecDepth 100000 in
theorem open_bad (w : World) (F : Nat → Prop) (D : Nat) (d : DiskM) (h : DH w F D d) (hbig : d.safe.length ≤ 49 ∨ d.off = true) :
    Calls Tryd.prog 17 #[.pointer (some ⟨D, 0, none⟩)] w (OpenPost w F D d) := by
  have HH := Lib.hid h
  clear h
  by_cases h49 : d.safe.length ≤ 49
  · have hd1 : decide ((d.safe.length : Int) ≤ 49) = true := by simp; omega
    have hd2 : decide (d.safe.length ≤ 49) = true := by simp; omega
    go_enter Tryd.func17, Tryd.ntmps17
    go_wp2_with fail
    refine (sectors_dh w F D d HH.out).mono ?_
    rintro e w1 ⟨rfl, rfl⟩
    go_wp2_with fail
    go_ret2
    have hm : openM d = (d, 1) := by unfold openM; rw [if_pos h49]
    unfold OpenPost
    rw [hm]
    exact ⟨F, HH.out, Step.refl _ _, by rw [if_neg (by show ¬ ((1 : Int) = 0); decide)]; rfl⟩
  · have hoff : d.off = true := by
      rcases hbig with h | h
      · omega
      · exact h
    have hd1 : decide ((d.safe.length : Int) ≤ 49) = false := by simp; omega
    have hd2 : decide (d.safe.length ≤ 49) = false := by simp; omega
    go_enter Tryd.func17, Tryd.ntmps17
    go_wp2_with fail
    refine (sectors_dh w F D d HH.out).mono ?_
    rintro e w1 ⟨rfl, rfl⟩
    go_wp2_with fail
    refine (load_off w1 F D d HH.out (by omega) hoff).mono ?_
    rintro e w2 ⟨rfl, rfl⟩
    go_wp2_with fail
    go_ret2
    have hm : openM d = (d, 9) := by unfold openM; rw [if_neg h49, if_pos hoff]
    unfold OpenPost
    rw [hm]
    exact ⟨F, HH.out, Step.refl _ _, by rw [if_neg (by show ¬ ((9 : Int) = 0); decide)]; rfl⟩

set_option maxHeartbeats 4000000 in
set_option maxRecDepth 100000 in
theorem open_any (w : World) (F : Nat → Prop) (D : Nat) (d : DiskM) (h : DH w F D d) (hroom : Room 100 d) (hbig : 49 < d.safe.length) (hoff : d.off = false) :
    Calls Tryd.prog 17 #[.pointer (some ⟨D, 0, none⟩)] w (OpenPost w F D d) := by
  have HH := Lib.hid h
  have HRO := Lib.hid hroom
  have hz := zero59
  clear h hroom
  have hd1 : decide ((d.safe.length : Int) ≤ 49) = false := by simp; omega
  have hd2 : decide (d.safe.length ≤ 49) = false := by simp; omega
  have hom : openM d = match begunM (secsOf d 49) with | none => (d, 0) | some l => finishM l d := by unfold openM; rw [if_neg (by omega), if_neg (by rw [hoff]; decide)]
  have HOM := Lib.hid hom
  clear hom
  go_enter Tryd.func17, Tryd.ntmps17
  go_wp2_with fail
  refine (sectors_dh w F D d HH.out).mono ?_
  rintro e w1 ⟨rfl, rfl⟩
  go_wp2_with fail
  refine (load_any w1 F D d HH.out HRO.out.fits hbig hoff).mono ?_
  rintro e w2 ⟨g, c, rfl, hc, hsec, hdh, t2⟩
  have HSEC := Lib.hid hsec
  have HDH := Lib.hid hdh
  have h64 := secsOf_ok HH.out.ok hbig
  have hsl : (secsOf d 49).length = 49 := by simp [secsOf]
  obtain ⟨ss, hss⟩ : ∃ ss, secsOf d 49 = ss := ⟨_, rfl⟩
  rw [hss] at HSEC h64 hsl HOM
  have HSS := Lib.hid hss
  have H64 := Lib.hid h64
  have HSL := Lib.hid hsl
  clear hsec hdh h64 hsl hss
  go_wp2_with fail
  have hJ0 : JAt (w2.alloc (.cells #[.pointer (some ⟨D, 0, none⟩), .int .i64 0] 81)) w2.heap.size D 0 := heap_alloc_new w2 _
  have t3 : Turn (fun k => k = w2.heap.size) w2 (w2.alloc (.cells #[.pointer (some ⟨D, 0, none⟩), .int .i64 0] 81)) := (Turn.refl _ w2).alloc _
  obtain ⟨w3, hw3⟩ : ∃ w3, w2.alloc (.cells #[.pointer (some ⟨D, 0, none⟩), .int .i64 0] 81) = w3 := ⟨_, rfl⟩
  rw [hw3] at hJ0 t3 ⊢
  obtain ⟨J, hJ⟩ : ∃ J, w2.heap.size = J := ⟨_, rfl⟩
  rw [hJ] at hJ0 t3 ⊢
  have HJ := Lib.hid hJ
  clear hw3 hJ
  have HJ0 := Lib.hid hJ0
  clear hJ0
  go_loopw [27] (fun iv wr => ∃ j : Nat, j ≤ 49 ∧ iv = .int .i64 (j : Int) ∧ JAt wr J D (lastK ss j) ∧ Turn (fun k => k = J) w2 wr) (fun iv _ => (49 - intOf iv).toNat)
  case atStart => exact ⟨0, Nat.zero_le _, rfl, HJ0.out, t3⟩
  case round =>
    obtain ⟨j, hj, rfl, hjat, tr⟩ := hrel
    have hsecr := HSEC.out.turnG tr (fun k hk e => by have := HJ.out; omega)
    have HSR := Lib.hid hsecr
    have HJA := Lib.hid hjat
    clear hsecr hjat
    by_cases hlt : j < 49
    · obtain ⟨s, hs⟩ : ∃ s, ss[j]? = some s := ⟨_, List.getElem?_eq_getElem (by rw [HSL.out]; exact hlt)⟩
      have hgs : ss.getD j [] = s := by simp [List.getD, hs]
      obtain ⟨B, hcB, hrB⟩ := HSR.out j s hs
      have HL64 := Lib.hid (H64.out s (List.mem_of_getElem? hs))
      have HSd := Lib.hid (rangeAt_turn hrB (Turn.refl (fun _ => False) wr).drew id)
      have HGS := Lib.hid hgs
      obtain ⟨x, hx⟩ : ∃ x, numK s 4 = x := ⟨_, rfl⟩
      obtain ⟨L, hLk⟩ : ∃ L, lastK ss j = L := ⟨_, rfl⟩
      have HX := Lib.hid hx
      have HLK := Lib.hid hLk
      have hjd : JAt wr.drew J D L := by rw [← hLk]; exact HJA.out
      have cj : wr.drew.cell? ⟨J, 1, none⟩ = some (.int .i64 (L : Int)) := hjd.c1
      have fj : wr.drew.frozen? ⟨J, 1, none⟩ = false := hjd.f1
      clear hrB hgs hs hx hLk
      go_wp2_with fail
      refine wp_region_held_drew (S := fun _ => True) (by kernel_rfl) trivial (fun hHeld => ?_)
      refine wpAnyH_take (i := 0) (v := .pointer (some ⟨J, 0, none⟩)) rfl (by kernel_rfl) (by kernel_rfl) (by kernel_rfl) (fun _ _ _ h => h) (Or.inl ⟨by rfl, ?ya0⟩) (by assumption) ?ra0
      case ya0 => (intro wq hSw; (try simp only [List.getElem_toArray, List.getElem_cons_zero, List.getElem_cons_succ]); go_simp; try with_reducible rfl)
      case ra0 =>
      try simp only [Act.put, List.setIfInBounds_toArray, List.set_cons_zero, List.set_cons_succ, List.getElem_toArray, List.getElem_cons_zero, List.getElem_cons_succ]
      refine wpAnyH_take (i := 1) (v := .pointer (some ⟨J, 0, none⟩)) rfl (by kernel_rfl) (by kernel_rfl) (by kernel_rfl) (fun _ _ _ h => h) (Or.inl ⟨by rfl, ?ya1⟩) (by assumption) ?ra1
      case ya1 => (intro wq hSw; (try simp only [List.getElem_toArray, List.getElem_cons_zero, List.getElem_cons_succ]); go_simp; try with_reducible rfl)
      case ra1 =>
      try simp only [Act.put, List.setIfInBounds_toArray, List.set_cons_zero, List.set_cons_succ, List.getElem_toArray, List.getElem_cons_zero, List.getElem_cons_succ]
      refine wpAnyH_take (i := 2) (v := .pointer (some ⟨J, 0, none⟩)) rfl (by kernel_rfl) (by kernel_rfl) (by kernel_rfl) (fun _ _ _ h => h) (Or.inl ⟨by rfl, ?ya2⟩) (by assumption) ?ra2
      case ya2 => (intro wq hSw; (try simp only [List.getElem_toArray, List.getElem_cons_zero, List.getElem_cons_succ]); go_simp; try with_reducible rfl)
      case ra2 =>
      try simp only [Act.put, List.setIfInBounds_toArray, List.set_cons_zero, List.set_cons_succ, List.getElem_toArray, List.getElem_cons_zero, List.getElem_cons_succ]
      refine wpAnyH_take (i := 3) (v := .pointer (some ⟨J, 1, none⟩)) rfl (by kernel_rfl) (by kernel_rfl) (by kernel_rfl) (fun _ _ _ h => h) (Or.inl ⟨by rfl, ?ya3⟩) (by assumption) ?ra3
      case ya3 => (intro wq hSw; (try simp only [List.getElem_toArray, List.getElem_cons_zero, List.getElem_cons_succ]); go_simp; try with_reducible rfl)
      case ra3 =>
      try simp only [Act.put, List.setIfInBounds_toArray, List.set_cons_zero, List.set_cons_succ, List.getElem_toArray, List.getElem_cons_zero, List.getElem_cons_succ]
      refine wpAnyH_take (i := 5) (v := .slice (some ⟨B, 0, none⟩) 64 64) rfl (by kernel_rfl) (by kernel_rfl) (by kernel_rfl) (fun _ _ _ h => h) (Or.inl ⟨by rfl, ?ya5⟩) (by assumption) ?ra5
      case ya5 => (intro wq hSw; (try simp only [List.getElem_toArray, List.getElem_cons_zero, List.getElem_cons_succ]); go_simp; try with_reducible rfl)
      case ra5 =>
      try simp only [Act.put, List.setIfInBounds_toArray, List.set_cons_zero, List.set_cons_succ, List.getElem_toArray, List.getElem_cons_zero, List.getElem_cons_succ]
      refine wpAnyH_ready (rs := [4, 6]) (by kernel_rfl) (by simp) ?_
      refine AllReadyH.cons rfl (fun K hK => ?_) (AllReadyH.cons rfl (fun K hK => ?_) AllReadyH.nil)
      · go_simp
        refine hK.out _ _ trivial (fun _ => ?_)
        clear hK K
        try simp only [Act.put, List.setIfInBounds_toArray, List.set_cons_zero, List.set_cons_succ, List.getElem_toArray, List.getElem_cons_zero, List.getElem_cons_succ]
        refine wpAnyH_ready (rs := [6]) (by kernel_rfl) (by simp) ?_
        refine AllReadyH.cons rfl (fun K hK => ?_) AllReadyH.nil
        go_simp
        refine (number_any _ s wr.drew (sec_src HSd.out HL64.out.1) HL64.out.2).mono ?_
        rintro e w1 ⟨rfl, hw1⟩
        rw [num_min, HX.out, hw1]
        clear hw1
        refine hK.out _ _ trivial (fun _ => ?_)
        clear hK K
        try simp only [Act.put, List.setIfInBounds_toArray, List.set_cons_zero, List.set_cons_succ, List.getElem_toArray, List.getElem_cons_zero, List.getElem_cons_succ]
        by_cases hmx : (L : Int) < (x : Int)
        · refine wpAnyH_take (i := 7) (v := .int .i64 (x : Int)) rfl (by kernel_rfl) (by kernel_rfl) (by kernel_rfl) (fun _ _ _ h => h) (Or.inl ⟨by rfl, ?yblt7⟩) (by assumption) ?rblt7
          case yblt7 => (intro wq hSw; (try simp only [List.getElem_toArray, List.getElem_cons_zero, List.getElem_cons_succ]); go_simp; try with_reducible rfl)
          case rblt7 =>
          try simp only [Act.put, List.setIfInBounds_toArray, List.set_cons_zero, List.set_cons_succ, List.getElem_toArray, List.getElem_cons_zero, List.getElem_cons_succ]
          refine wpAnyH_take (i := 8) (v := .pointer (some ⟨J, 0, none⟩)) rfl (by kernel_rfl) (by kernel_rfl) (by kernel_rfl) (fun _ _ _ h => h) (Or.inl ⟨by rfl, ?yblt8⟩) (by assumption) ?rblt8
          case yblt8 => (intro wq hSw; (try simp only [List.getElem_toArray, List.getElem_cons_zero, List.getElem_cons_succ]); go_simp; try with_reducible rfl)
          case rblt8 =>
          try simp only [Act.put, List.setIfInBounds_toArray, List.set_cons_zero, List.set_cons_succ, List.getElem_toArray, List.getElem_cons_zero, List.getElem_cons_succ]
          refine wpAnyH_take (i := 9) (v := .pointer (some ⟨J, 1, none⟩)) rfl (by kernel_rfl) (by kernel_rfl) (by kernel_rfl) (fun _ _ _ h => h) (Or.inl ⟨by rfl, ?yblt9⟩) (by assumption) ?rblt9
          case yblt9 => (intro wq hSw; (try simp only [List.getElem_toArray, List.getElem_cons_zero, List.getElem_cons_succ]); go_simp; try with_reducible rfl)
          case rblt9 =>
          try simp only [Act.put, List.setIfInBounds_toArray, List.set_cons_zero, List.set_cons_succ, List.getElem_toArray, List.getElem_cons_zero, List.getElem_cons_succ]
          refine wpAnyH_ready (rs := [10]) (by kernel_rfl) (by simp) ?_
          refine AllReadyH.cons rfl (fun K hK => ?_) AllReadyH.nil
          go_simp
          have hj2 : JAt (wr.drew.setCell ⟨J, 1, none⟩ (.int .i64 (x : Int))) J D x := JAt.set (w := wr.drew) hjd x
          have t2 : Turn (fun k => k = J) wr (wr.drew.setCell ⟨J, 1, none⟩ (.int .i64 (x : Int))) := (Turn.refl (fun k => k = J) wr).drew.setCell (p := ⟨J, 1, none⟩) (fun _ => rfl) _
          refine hK.out _ _ trivial (fun _ => ?_)
          clear hK K
          try simp only [Act.put, List.setIfInBounds_toArray, List.set_cons_zero, List.set_cons_succ, List.getElem_toArray, List.getElem_cons_zero, List.getElem_cons_succ]
          refine wpAnyH_done (by kernel_rfl) ?_ _
          change Exit.inBlock _ _ _ _ (wr.drew.setCell ⟨J, 1, none⟩ (.int .i64 (x : Int)))
          obtain ⟨w2, hw2⟩ : ∃ w2, wr.drew.setCell ⟨J, 1, none⟩ (.int .i64 (x : Int)) = w2 := ⟨_, rfl⟩
          rw [hw2] at hj2 t2 ⊢
          clear hw2 hHeld
          have hmax : lastK ss (j + 1) = x := by rw [lastK, HGS.out, HLK.out, HX.out]; omega
          rw [← hmax] at hj2
          have HJ2 := Lib.hid hj2
          clear hj2 hmx hmax
          go_wp2_with fail
          go_roundw
          case rel => exact ⟨j + 1, by omega, by go_num, HJ2.out, tr.trans t2 (fun _ _ => id)⟩
          case measure => simp [intOf]; omega
        · refine wpAnyH_take (i := 7) (v := .int .i64 (L : Int)) rfl (by kernel_rfl) (by kernel_rfl) (by kernel_rfl) (fun _ _ _ h => h) (Or.inl ⟨by rfl, ?ybge7⟩) (by assumption) ?rbge7
          case ybge7 => (intro wq hSw; (try simp only [List.getElem_toArray, List.getElem_cons_zero, List.getElem_cons_succ]); go_simp; try with_reducible rfl)
          case rbge7 =>
          try simp only [Act.put, List.setIfInBounds_toArray, List.set_cons_zero, List.set_cons_succ, List.getElem_toArray, List.getElem_cons_zero, List.getElem_cons_succ]
          refine wpAnyH_take (i := 8) (v := .pointer (some ⟨J, 0, none⟩)) rfl (by kernel_rfl) (by kernel_rfl) (by kernel_rfl) (fun _ _ _ h => h) (Or.inl ⟨by rfl, ?ybge8⟩) (by assumption) ?rbge8
          case ybge8 => (intro wq hSw; (try simp only [List.getElem_toArray, List.getElem_cons_zero, List.getElem_cons_succ]); go_simp; try with_reducible rfl)
          case rbge8 =>
          try simp only [Act.put, List.setIfInBounds_toArray, List.set_cons_zero, List.set_cons_succ, List.getElem_toArray, List.getElem_cons_zero, List.getElem_cons_succ]
          refine wpAnyH_take (i := 9) (v := .pointer (some ⟨J, 1, none⟩)) rfl (by kernel_rfl) (by kernel_rfl) (by kernel_rfl) (fun _ _ _ h => h) (Or.inl ⟨by rfl, ?ybge9⟩) (by assumption) ?rbge9
          case ybge9 => (intro wq hSw; (try simp only [List.getElem_toArray, List.getElem_cons_zero, List.getElem_cons_succ]); go_simp; try with_reducible rfl)
          case rbge9 =>
          try simp only [Act.put, List.setIfInBounds_toArray, List.set_cons_zero, List.set_cons_succ, List.getElem_toArray, List.getElem_cons_zero, List.getElem_cons_succ]
          refine wpAnyH_ready (rs := [10]) (by kernel_rfl) (by simp) ?_
          refine AllReadyH.cons rfl (fun K hK => ?_) AllReadyH.nil
          go_simp
          have hj2 : JAt (wr.drew.setCell ⟨J, 1, none⟩ (.int .i64 (L : Int))) J D L := JAt.set (w := wr.drew) hjd L
          have t2 : Turn (fun k => k = J) wr (wr.drew.setCell ⟨J, 1, none⟩ (.int .i64 (L : Int))) := (Turn.refl (fun k => k = J) wr).drew.setCell (p := ⟨J, 1, none⟩) (fun _ => rfl) _
          refine hK.out _ _ trivial (fun _ => ?_)
          clear hK K
          try simp only [Act.put, List.setIfInBounds_toArray, List.set_cons_zero, List.set_cons_succ, List.getElem_toArray, List.getElem_cons_zero, List.getElem_cons_succ]
          refine wpAnyH_done (by kernel_rfl) ?_ _
          change Exit.inBlock _ _ _ _ (wr.drew.setCell ⟨J, 1, none⟩ (.int .i64 (L : Int)))
          obtain ⟨w2, hw2⟩ : ∃ w2, wr.drew.setCell ⟨J, 1, none⟩ (.int .i64 (L : Int)) = w2 := ⟨_, rfl⟩
          rw [hw2] at hj2 t2 ⊢
          clear hw2 hHeld
          have hmax : lastK ss (j + 1) = L := by rw [lastK, HGS.out, HLK.out, HX.out]; omega
          rw [← hmax] at hj2
          have HJ2 := Lib.hid hj2
          clear hj2 hmx hmax
          go_wp2_with fail
          go_roundw
          case rel => exact ⟨j + 1, by omega, by go_num, HJ2.out, tr.trans t2 (fun _ _ => id)⟩
          case measure => simp [intOf]; omega
      · go_simp
        refine (number_any _ s wr.drew (sec_src HSd.out HL64.out.1) HL64.out.2).mono ?_
        rintro e w1 ⟨rfl, hw1⟩
        rw [num_min, HX.out, hw1]
        clear hw1
        refine hK.out _ _ trivial (fun _ => ?_)
        clear hK K
        try simp only [Act.put, List.setIfInBounds_toArray, List.set_cons_zero, List.set_cons_succ, List.getElem_toArray, List.getElem_cons_zero, List.getElem_cons_succ]
        refine wpAnyH_ready (rs := [4]) (by kernel_rfl) (by simp) ?_
        refine AllReadyH.cons rfl (fun K hK => ?_) AllReadyH.nil
        go_simp
        
        refine hK.out _ _ trivial (fun _ => ?_)
        clear hK K
        try simp only [Act.put, List.setIfInBounds_toArray, List.set_cons_zero, List.set_cons_succ, List.getElem_toArray, List.getElem_cons_zero, List.getElem_cons_succ]
        by_cases hmx : (L : Int) < (x : Int)
        · refine wpAnyH_take (i := 7) (v := .int .i64 (x : Int)) rfl (by kernel_rfl) (by kernel_rfl) (by kernel_rfl) (fun _ _ _ h => h) (Or.inl ⟨by rfl, ?yclt7⟩) (by assumption) ?rclt7
          case yclt7 => (intro wq hSw; (try simp only [List.getElem_toArray, List.getElem_cons_zero, List.getElem_cons_succ]); go_simp; try with_reducible rfl)
          case rclt7 =>
          try simp only [Act.put, List.setIfInBounds_toArray, List.set_cons_zero, List.set_cons_succ, List.getElem_toArray, List.getElem_cons_zero, List.getElem_cons_succ]
          refine wpAnyH_take (i := 8) (v := .pointer (some ⟨J, 0, none⟩)) rfl (by kernel_rfl) (by kernel_rfl) (by kernel_rfl) (fun _ _ _ h => h) (Or.inl ⟨by rfl, ?yclt8⟩) (by assumption) ?rclt8
          case yclt8 => (intro wq hSw; (try simp only [List.getElem_toArray, List.getElem_cons_zero, List.getElem_cons_succ]); go_simp; try with_reducible rfl)
          case rclt8 =>
          try simp only [Act.put, List.setIfInBounds_toArray, List.set_cons_zero, List.set_cons_succ, List.getElem_toArray, List.getElem_cons_zero, List.getElem_cons_succ]
          refine wpAnyH_take (i := 9) (v := .pointer (some ⟨J, 1, none⟩)) rfl (by kernel_rfl) (by kernel_rfl) (by kernel_rfl) (fun _ _ _ h => h) (Or.inl ⟨by rfl, ?yclt9⟩) (by assumption) ?rclt9
          case yclt9 => (intro wq hSw; (try simp only [List.getElem_toArray, List.getElem_cons_zero, List.getElem_cons_succ]); go_simp; try with_reducible rfl)
          case rclt9 =>
          try simp only [Act.put, List.setIfInBounds_toArray, List.set_cons_zero, List.set_cons_succ, List.getElem_toArray, List.getElem_cons_zero, List.getElem_cons_succ]
          refine wpAnyH_ready (rs := [10]) (by kernel_rfl) (by simp) ?_
          refine AllReadyH.cons rfl (fun K hK => ?_) AllReadyH.nil
          go_simp
          have hj2 : JAt (wr.drew.setCell ⟨J, 1, none⟩ (.int .i64 (x : Int))) J D x := JAt.set (w := wr.drew) hjd x
          have t2 : Turn (fun k => k = J) wr (wr.drew.setCell ⟨J, 1, none⟩ (.int .i64 (x : Int))) := (Turn.refl (fun k => k = J) wr).drew.setCell (p := ⟨J, 1, none⟩) (fun _ => rfl) _
          refine hK.out _ _ trivial (fun _ => ?_)
          clear hK K
          try simp only [Act.put, List.setIfInBounds_toArray, List.set_cons_zero, List.set_cons_succ, List.getElem_toArray, List.getElem_cons_zero, List.getElem_cons_succ]
          refine wpAnyH_done (by kernel_rfl) ?_ _
          change Exit.inBlock _ _ _ _ (wr.drew.setCell ⟨J, 1, none⟩ (.int .i64 (x : Int)))
          obtain ⟨w2, hw2⟩ : ∃ w2, wr.drew.setCell ⟨J, 1, none⟩ (.int .i64 (x : Int)) = w2 := ⟨_, rfl⟩
          rw [hw2] at hj2 t2 ⊢
          clear hw2 hHeld
          have hmax : lastK ss (j + 1) = x := by rw [lastK, HGS.out, HLK.out, HX.out]; omega
          rw [← hmax] at hj2
          have HJ2 := Lib.hid hj2
          clear hj2 hmx hmax
          go_wp2_with fail
          go_roundw
          case rel => exact ⟨j + 1, by omega, by go_num, HJ2.out, tr.trans t2 (fun _ _ => id)⟩
          case measure => simp [intOf]; omega
        · refine wpAnyH_take (i := 7) (v := .int .i64 (L : Int)) rfl (by kernel_rfl) (by kernel_rfl) (by kernel_rfl) (fun _ _ _ h => h) (Or.inl ⟨by rfl, ?ycge7⟩) (by assumption) ?rcge7
          case ycge7 => (intro wq hSw; (try simp only [List.getElem_toArray, List.getElem_cons_zero, List.getElem_cons_succ]); go_simp; try with_reducible rfl)
          case rcge7 =>
          try simp only [Act.put, List.setIfInBounds_toArray, List.set_cons_zero, List.set_cons_succ, List.getElem_toArray, List.getElem_cons_zero, List.getElem_cons_succ]
          refine wpAnyH_take (i := 8) (v := .pointer (some ⟨J, 0, none⟩)) rfl (by kernel_rfl) (by kernel_rfl) (by kernel_rfl) (fun _ _ _ h => h) (Or.inl ⟨by rfl, ?ycge8⟩) (by assumption) ?rcge8
          case ycge8 => (intro wq hSw; (try simp only [List.getElem_toArray, List.getElem_cons_zero, List.getElem_cons_succ]); go_simp; try with_reducible rfl)
          case rcge8 =>
          try simp only [Act.put, List.setIfInBounds_toArray, List.set_cons_zero, List.set_cons_succ, List.getElem_toArray, List.getElem_cons_zero, List.getElem_cons_succ]
          refine wpAnyH_take (i := 9) (v := .pointer (some ⟨J, 1, none⟩)) rfl (by kernel_rfl) (by kernel_rfl) (by kernel_rfl) (fun _ _ _ h => h) (Or.inl ⟨by rfl, ?ycge9⟩) (by assumption) ?rcge9
          case ycge9 => (intro wq hSw; (try simp only [List.getElem_toArray, List.getElem_cons_zero, List.getElem_cons_succ]); go_simp; try with_reducible rfl)
          case rcge9 =>
          try simp only [Act.put, List.setIfInBounds_toArray, List.set_cons_zero, List.set_cons_succ, List.getElem_toArray, List.getElem_cons_zero, List.getElem_cons_succ]
          refine wpAnyH_ready (rs := [10]) (by kernel_rfl) (by simp) ?_
          refine AllReadyH.cons rfl (fun K hK => ?_) AllReadyH.nil
          go_simp
          have hj2 : JAt (wr.drew.setCell ⟨J, 1, none⟩ (.int .i64 (L : Int))) J D L := JAt.set (w := wr.drew) hjd L
          have t2 : Turn (fun k => k = J) wr (wr.drew.setCell ⟨J, 1, none⟩ (.int .i64 (L : Int))) := (Turn.refl (fun k => k = J) wr).drew.setCell (p := ⟨J, 1, none⟩) (fun _ => rfl) _
          refine hK.out _ _ trivial (fun _ => ?_)
          clear hK K
          try simp only [Act.put, List.setIfInBounds_toArray, List.set_cons_zero, List.set_cons_succ, List.getElem_toArray, List.getElem_cons_zero, List.getElem_cons_succ]
          refine wpAnyH_done (by kernel_rfl) ?_ _
          change Exit.inBlock _ _ _ _ (wr.drew.setCell ⟨J, 1, none⟩ (.int .i64 (L : Int)))
          obtain ⟨w2, hw2⟩ : ∃ w2, wr.drew.setCell ⟨J, 1, none⟩ (.int .i64 (L : Int)) = w2 := ⟨_, rfl⟩
          rw [hw2] at hj2 t2 ⊢
          clear hw2 hHeld
          have hmax : lastK ss (j + 1) = L := by rw [lastK, HGS.out, HLK.out, HX.out]; omega
          rw [← hmax] at hj2
          have HJ2 := Lib.hid hj2
          clear hj2 hmx hmax
          go_wp2_with fail
          go_roundw
          case rel => exact ⟨j + 1, by omega, by go_num, HJ2.out, tr.trans t2 (fun _ _ => id)⟩
          case measure => simp [intOf]; omega
    · obtain rfl : j = 49 := by omega
      have hnF : ¬ F J := fun hk => by have := HDH.out.2 J hk; have := HJ.out; omega
      have hjh : JH wr F J D d (lastK ss 49) := ⟨HDH.out.turn tr (fun k hk e => hnF (e ▸ hk)), HJA.out, hnF, hbig⟩
      have hst : Step w1 F wr F := ⟨fun _ h => .inl h, (t2.mono (fun _ _ h => h.elim)).trans tr (fun q hq e => by subst e; exfalso; have h1 := HJ.out; have h2 := t2.size; omega)⟩
      have hJge : w1.heap.size ≤ J := by have h1 := HJ.out; have h2 := t2.size; omega
      have HJH := Lib.hid hjh
      clear hjh hnF
      go_wp2_with fail
      refine (begun_any wr g c ss HSL.out H64.out HSR.out hc).mono ?_
      rintro e w4 ⟨t4, hb⟩
      cases hbm : begunM ss with
      | none =>
        rw [hbm] at hb
        have hom := HOM.out
        rw [hbm] at hom
        dsimp only at hom hb
        subst hb
        have HOM2 := Lib.hid hom
        clear hom hbm
        go_wp2_with fail
        go_ret2
        unfold OpenPost
        rw [HOM2.out]
        refine ⟨F, (HJH.out.turn0 t4).dh, hst.trans (Step.of0 F t4), ?_⟩
        rw [if_pos rfl, HSS.out]
        exact ⟨J, rfl, hJge, HJH.out.turn0 t4⟩
      | some l =>
        rw [hbm] at hb
        have hom := HOM.out
        rw [hbm] at hom
        dsimp only at hom hb
        obtain ⟨v, rfl, hpg⟩ := hb
        have HOM2 := Lib.hid hom
        obtain ⟨hl24, hbl⟩ := begunM_ok (fun s hs => (H64.out s hs).2) hbm
        have HPG := Lib.hid hpg
        have HBL := Lib.hid hbl
        obtain ⟨va, vc, rfl, _⟩ := hpg.form
        clear hom hbm hpg hbl
        go_wp2_with fail
        refine (finish_any w4 F _ J D d (lastK ss 49) _ l (HJH.out.turn0 t4) HPG.out (fun k hk => ⟨hk.2, fun hF => by have := HJH.out.dh.2 k hF; have := hk.1; omega⟩) HBL.out hl24 HRO.out).mono ?_
        rintro e w5 ⟨rfl, F5, hj5, hs5⟩
        have hstall := (hst.trans (Step.of0 F t4)).trans hs5
        obtain ⟨rr, hrr⟩ : ∃ rr, (finishM l d).2 = rr := ⟨_, rfl⟩
        rw [hrr]
        have HRR := Lib.hid hrr
        clear hrr
        by_cases hr0 : rr = 0
        · subst hr0
          go_wp2_with fail
          go_ret2
          unfold OpenPost
          rw [HOM2.out]
          refine ⟨F5, hj5.dh, hstall, ?_⟩
          rw [if_pos HRR.out, HSS.out]
          exact ⟨J, rfl, hJge, hj5⟩
        · have hr1 : (rr == 0) = false := by rw [beq_eq_false_iff_ne]; exact hr0
          go_wp2_with fail
          go_ret2
          unfold OpenPost
          rw [HOM2.out]
          refine ⟨F5, hj5.dh, hstall, ?_⟩
          rw [if_neg (by rw [HRR.out]; exact hr0), HRR.out]
          rfl
end Go.Proofs.YtnenkclihgeacaaDoor
/- Own contracts: a journal is written to. No statement is proved here. -/
namespace Go.Proofs.YtnenkclihgeacaaDoor
set_option maxRecDepth 100000
open Go.RowKit
set_option linter.unusedVariables false
set_option linter.unusedSimpArgs false

/-- What a transaction makes of a disk: the acts. -/
def txA (m : Int) (l : List (Int × List Int)) : List DAct := noteAll m l ++ (layA l ++ [.fl])
def jwriteM (d : DiskM) (last : Nat) (l : List (Int × List Int)) : (DiskM × Int) × Nat :=
  if 24 < l.length then ((d, 5), last) else if fitsB (d.safe.length - 49) l = true then (if l.length = 0 then ((d, 0), last) else (DiskM.run (txA ((last + 1 : Nat) : Int) l) d, last + 1)) else ((d, 1), last)
structure StepJ (w : World) (F : Nat → Prop) (J : Nat) (w' : World) (F' : Nat → Prop) : Prop where
  grown : ∀ k, F' k → F k ∨ w.heap.size ≤ k
  turn : Turn (fun k => F k ∨ k = J) w w'
theorem StepJ.of {w w' : World} {F F' : Nat → Prop} (J : Nat) (h : Step w F w' F') : StepJ w F J w' F' := ⟨h.grown, h.turn.mono (fun _ _ h => .inl h)⟩
theorem StepJ.out {w w' : World} {F F' : Nat → Prop} {J : Nat} (a : StepJ w F J w' F') {k : Nat} (hk : k < w.heap.size) (hn : ¬ F k) : ¬ F' k := fun h => by
  rcases a.grown k h with h | h
  · exact hn h
  · omega
def JWPost (w : World) (F : Nat → Prop) (J D : Nat) (r : (DiskM × Int) × Nat) (e : Ending) (w' : World) : Prop := e = .returned (.int .i64 r.1.2) ∧ ∃ F', JH w' F' J D r.1.1 r.2 ∧ StepJ w F J w' F'

set_option maxHeartbeats 1600000 in
set_option maxRecDepth 100000 in
theorem jwrite_any (w : World) (F R : Nat → Prop) (J D : Nat) (d : DiskM) (last : Nat) (v : Value) (l : List (Int × List Int)) (h : JH w F J D d last) (hp : PagesIn w R v l)
    (hR : ∀ k, R k → k < w.heap.size ∧ ¬ F k ∧ k ≠ J) (hb : ∀ x ∈ l, BytesOk x.2) (hl : l.length ≤ 1000000) (hroom : Room 200 d) (hlast : last < 4294967295) :
    Calls Tryd.prog 59 #[.pointer (some ⟨J, 0, none⟩), v] w (JWPost w F J D (jwriteM d last l)) := by
  have HH := Lib.hid h
  have HP := Lib.hid hp
  have HRO := Lib.hid hroom
  have HR := Lib.hid hR
  have HB := Lib.hid hb
  obtain ⟨a, c, rfl, _⟩ := hp.form
  clear h hp hroom hR hb
  obtain ⟨n, hn⟩ : ∃ n, l.length = n := ⟨_, rfl⟩
  have HN := Lib.hid hn
  rw [hn] at hl
  simp only [hn]
  clear hn
  by_cases h24 : 24 < n
  · have hd1 : decide ((24 : Int) < (n : Int)) = true := by simp; omega
    have hd2 : decide (24 < n) = true := by simp; omega
    have HM := Lib.hid (show jwriteM d last l = ((d, 5), last) by unfold jwriteM; rw [if_pos (by rw [HN.out]; exact h24)])
    go_enter Tryd.func59, Tryd.ntmps59
    go_wp2_with fail
    go_ret
    rw [HM.out]
    exact ⟨rfl, F, HH.out, StepJ.of J (Step.refl _ _)⟩
  have hd1 : decide ((24 : Int) < (n : Int)) = false := by simp; omega
  have hd2 : decide (24 < n) = false := by simp; omega
  go_enter Tryd.func59, Tryd.ntmps59
  go_wp2_with fail
  have hpn := HP.out
  rw [HN.out] at hpn
  have HPN := Lib.hid hpn
  clear hpn
  refine (fits_any w F R J D d last _ l HH.out HPN.out (by rw [HN.out]; exact hl)).mono ?_
  rintro e w1 ⟨rfl, t1⟩
  by_cases hfit : fitsB (d.safe.length - 49) l = true
  · have HFIT := Lib.hid hfit
    rw [hfit]
    clear hfit
    by_cases h0 : n = 0
    · subst h0
      have HM := Lib.hid (show jwriteM d last l = ((d, 0), last) by unfold jwriteM; rw [if_neg (by rw [HN.out]; omega), if_pos HFIT.out, if_pos HN.out])
      go_wp2_with fail
      go_ret
      rw [HM.out]
      exact ⟨rfl, F, HH.out.turn0 t1, StepJ.of J (Step.of0 F t1)⟩
    · have hn0 : ((n : Int) == 0) = false := by rw [beq_eq_false_iff_ne]; omega
      have hn1 : (n == 0) = false := by rw [beq_eq_false_iff_ne]; omega
      have HM := Lib.hid (show jwriteM d last l = (DiskM.run (txA ((last + 1 : Nat) : Int) l) d, last + 1) by unfold jwriteM; rw [if_neg (by rw [HN.out]; omega), if_pos HFIT.out, if_neg (by rw [HN.out]; exact h0)])
      go_wp2_with fail
      refine (jnext_any w1 F J D d last (HH.out.turn0 t1) hlast).mono ?_
      rintro e w2 ⟨rfl, hj2, t2⟩
      have HJ2 := Lib.hid hj2
      clear hj2
      have hs1 := t1.size
      have hs2 := t2.size
      have hp2 : PagesIn w2 R (.slice a n c) l := (HPN.out.turn0 t1).turn t2 (fun k hk e => (HR.out k hk).2.2 e)
      have hR2 : ∀ k, R k → k < w2.heap.size ∧ ¬ F k := fun k hk => ⟨by have := (HR.out k hk).1; omega, (HR.out k hk).2.1⟩
      have HP2 := Lib.hid hp2
      have HR2 := Lib.hid hR2
      clear hp2 hR2
      obtain ⟨m, hm⟩ : ∃ m : Nat, last + 1 = m := ⟨_, rfl⟩
      rw [hm] at HJ2 HM ⊢
      have HMM := Lib.hid hm
      clear hm
      go_wp2_with fail
      refine (note_any w2 F R J D d m (m : Int) _ l HJ2.out HP2.out HR2.out HB.out (by rw [HN.out]; omega) (HRO.out.less (by omega)) HFIT.out).mono ?_
      rintro e w3 ⟨rfl, F3, hj3, hs3⟩
      have HJ3 := Lib.hid hj3
      clear hj3
      have hroom3 : Room 100 (DiskM.run (noteAll (m : Int) l) d).1 := Room.run (HRO.out.less (by have := HN.out; simp [noteAll, noteA_len]; omega))
      have hlen3 := DiskM.run_len (noteAll (m : Int) l) d
      obtain ⟨d3, hd3⟩ : ∃ d3, DiskM.run (noteAll (m : Int) l) d = d3 := ⟨_, rfl⟩
      rw [hd3] at HJ3 hroom3 hlen3 ⊢
      have hs23 : StepJ w F J w3 F3 := by
        refine ⟨fun k hk => ?_, ?_⟩
        · rcases hs3.grown k hk with h | h
          · exact .inl h
          · exact .inr (by omega)
        · refine (((t1.mono (fun _ _ h => h.elim)).trans t2 (fun _ _ h => .inr h))).trans hs3.turn (fun _ _ h => .inl h)
      have HD3 := Lib.hid hd3
      have HRM3 := Lib.hid hroom3
      have HL3 := Lib.hid hlen3
      obtain ⟨dd, rr⟩ := d3
      dsimp only at HJ3 HRM3 HL3 ⊢
      clear hd3 hroom3 hlen3
      by_cases hr0 : rr = 0
      · subst hr0
        go_wp2_with fail
        have hp3 : PagesIn w3 R (.slice a n c) l := HP2.out.turn hs3.turn (fun k hk => (HR2.out k hk).2)
        refine (lay_any w3 F3 R J D dd m _ l HJ3.out hp3 (fun k hk => ⟨Nat.lt_of_lt_of_le (HR2.out k hk).1 hs3.turn.size, hs3.out (HR2.out k hk).1 (HR2.out k hk).2⟩) HB.out (by rw [HN.out]; omega) HRM3.out (by rw [HL3.out]; exact HFIT.out)).mono ?_
        rintro e w4 ⟨rfl, F4, hj4, hs4⟩
        have HJ4 := Lib.hid hj4
        clear hj4
        have HM2 := Lib.hid (show DiskM.run (txA (m : Int) l) d = DiskM.run (layA l ++ [.fl]) dd by unfold txA; rw [DiskM.run_ok _ (by rw [HD3.out]), HD3.out])
        go_wp2_with fail
        go_ret
        rw [HM.out, HM2.out]
        refine ⟨rfl, F4, HJ4.out, fun k hk => ?_, hs23.turn.trans hs4.turn (fun k hk h => ?_)⟩
        · have h3 := hs3.turn.size
          rcases hs4.grown k hk with h | h
          · exact hs23.grown k h
          · exact .inr (by omega)
        · rcases hs23.grown k h with h | h
          · exact .inl h
          · omega
      · have hr1 : (rr == 0) = false := by rw [beq_eq_false_iff_ne]; exact hr0
        have HM2 := Lib.hid (show DiskM.run (txA (m : Int) l) d = (dd, rr) by unfold txA; rw [DiskM.run_bad _ (by rw [HD3.out]; exact hr0), HD3.out])
        go_wp2_with fail
        go_ret
        rw [HM.out, HM2.out]
        exact ⟨rfl, F3, HJ3.out, hs23⟩
  · have HM := Lib.hid (show jwriteM d last l = ((d, 1), last) by unfold jwriteM; rw [if_neg (by rw [HN.out]; omega), if_neg hfit])
    rw [Bool.eq_false_iff.2 hfit]
    clear hfit
    go_wp2_with fail
    go_ret
    rw [HM.out]
    exact ⟨rfl, F, HH.out.turn0 t1, StepJ.of J (Step.of0 F t1)⟩
set_option maxHeartbeats 800000 in
set_option maxRecDepth 100000 in
theorem nil_open (w : World) : Calls Tryd.prog 17 #[.pointer none] w fun e w' => e = .returned (.tuple #[.pointer none, .int .i64 1]) ∧ w' = w := by
  go_enter Tryd.func17, Tryd.ntmps17
  go_wp2_with fail
  refine (nil_sectors w).mono ?_
  rintro e w1 ⟨rfl, rfl⟩
  go_wp2_with fail
  go_ret2
  exact ⟨rfl, rfl⟩
end Go.Proofs.YtnenkclihgeacaaDoor
/- Own: what acts make of a disk's sectors. No statement is proved here. -/
namespace Go.Proofs.YtnenkclihgeacaaDoor
set_option maxRecDepth 100000
open Go.RowKit
set_option linter.unusedVariables false
set_option linter.unusedSimpArgs false

def DAct.valid (n : Nat) : DAct → Prop
  | .wr i xs => (0 ≤ i ∧ i < (n : Int)) ∧ xs.length ≤ 64
  | .fl => True
abbrev St := List (List Int) × List (Nat × List Int)
def ap (p : St) : DAct → St
  | .wr i xs => (p.1, p.2 ++ [(i.toNat, pad64 xs)])
  | .fl => (keepK p.1 p.2 (fun _ => true) p.2.length, [])
def apAll (l : List DAct) (p : St) : St := l.foldl ap p
def DiskM.st (d : DiskM) : St := (d.safe, d.wet)
theorem one_cases (d : DiskM) (a : DAct) (hoff : d.off = false) (hv : a.valid d.safe.length) :
    ((d.one a).2 = 0 ∧ (d.one a).1.off = false ∧ (d.one a).1.st = ap d.st a ∧ (d.one a).1.armed = d.armed) ∨
    (d.armed = true ∧ (d.one a).2 = 9 ∧ (d.one a).1.off = true ∧ ((d.one a).1.st = ap d.st a ∨ (d.one a).1.st = d.st)) := by
  obtain ⟨safe, wet, acts, armed, left, off⟩ := d
  dsimp only at hoff hv
  subst hoff
  cases a with
  | wr i xs =>
    have hv' : (0 ≤ i ∧ i < (safe.length : Int)) ∧ xs.length ≤ 64 := hv
    simp only [DiskM.one, DiskM.write]
    rw [if_pos hv']
    rw [if_neg (by decide)]
    unfold DiskM.act DiskM.actE
    cases armed with
    | false => exact .inl ⟨rfl, rfl, rfl, rfl⟩
    | true =>
      by_cases hl : left = 0
      · subst hl; exact .inr ⟨rfl, rfl, rfl, .inl rfl⟩
      · left
        simp [hl, DiskM.st, ap]
  | fl =>
    simp only [DiskM.one, DiskM.flush]
    rw [if_neg (by decide)]
    unfold DiskM.act DiskM.actE
    cases armed with
    | false => exact .inl ⟨rfl, rfl, rfl, rfl⟩
    | true =>
      by_cases hl : left = 0
      · subst hl; exact .inr ⟨rfl, rfl, rfl, .inr rfl⟩
      · left
        simp [hl, DiskM.st, ap, DiskM.flushed]
theorem run_cases (l : List DAct) (d : DiskM) (hoff : d.off = false) (hv : ∀ a ∈ l, a.valid d.safe.length) :
    ((DiskM.run l d).2 = 0 ∧ (DiskM.run l d).1.off = false ∧ (DiskM.run l d).1.st = apAll l d.st ∧ (DiskM.run l d).1.armed = d.armed) ∨
    (d.armed = true ∧ (DiskM.run l d).2 = 9 ∧ (DiskM.run l d).1.off = true ∧ ∃ a b, l = a ++ b ∧ (DiskM.run l d).1.st = apAll a d.st) := by
  induction l generalizing d with
  | nil => exact .inl ⟨rfl, hoff, rfl, rfl⟩
  | cons x l ih =>
    rcases one_cases d x hoff (hv x List.mem_cons_self) with ⟨h1, h2, h3, h4⟩ | ⟨h0, h1, h2, h3⟩
    · have e : DiskM.run (x :: l) d = DiskM.run l (d.one x).1 := by simp only [DiskM.run, if_pos h1]
      rw [e]
      rcases ih (d.one x).1 h2 (fun a ha => by rw [DiskM.one_len]; exact hv a (List.mem_cons_of_mem _ ha)) with ⟨g1, g2, g3, g4⟩ | ⟨g0, g1, g2, a, b, g3, g4⟩
      · exact .inl ⟨g1, g2, by rw [g3, h3]; rfl, g4.trans h4⟩
      · exact .inr ⟨by rw [← h4]; exact g0, g1, g2, x :: a, b, by rw [g3]; rfl, by rw [g4, h3]; rfl⟩
    · have e : DiskM.run (x :: l) d = d.one x := by simp only [DiskM.run]; rw [if_neg (by rw [h1]; decide)]
      rw [e]
      rcases h3 with h3 | h3
      · exact .inr ⟨h0, h1, h2, [x], l, rfl, h3⟩
      · exact .inr ⟨h0, h1, h2, [], x :: l, rfl, h3⟩
/-- Writes alone. -/
def wrs : List (Int × List Int) → List DAct := List.map fun x => .wr x.1 x.2
def wets : List (Int × List Int) → List (Nat × List Int) := List.map fun x => (x.1.toNat, pad64 x.2)
theorem ap_wrs (l : List (Int × List Int)) (p : St) : apAll (wrs l) p = (p.1, p.2 ++ wets l) := by
  induction l generalizing p with
  | nil => simp [apAll, wrs, wets]
  | cons x l ih =>
    have := ih (ap p (.wr x.1 x.2))
    show apAll (wrs l) (ap p (.wr x.1 x.2)) = _
    rw [this]
    simp [ap, wets]
theorem apAll_app (a b : List DAct) (p : St) : apAll (a ++ b) p = apAll b (apAll a p) := by simp [apAll, List.foldl_append]

theorem lastW_mem {W : List (Nat × List Int)} {k : Nat} {y : List Int} (h : lastW W k = some y) : (k, y) ∈ W := by
  induction W with
  | nil => simp [lastW] at h
  | cons x W ih =>
    simp only [lastW] at h
    cases hr : lastW W k with
    | some t => rw [hr] at h; simp at h; subst h; exact List.mem_cons_of_mem _ (ih hr)
    | none =>
      rw [hr] at h
      simp only [Option.none_or] at h
      split at h
      · rename_i he; simp at h; subst h; subst he; exact List.mem_cons_self
      · simp at h
theorem lastW_none {W : List (Nat × List Int)} {k : Nat} (h : lastW W k = none) : ∀ x ∈ W, x.1 ≠ k := by
  induction W with
  | nil => simp
  | cons x W ih =>
    simp only [lastW] at h
    cases hr : lastW W k with
    | some t => rw [hr] at h; simp at h
    | none =>
      rw [hr] at h
      simp only [Option.none_or] at h
      intro y hy
      rcases List.mem_cons.1 hy with rfl | hy
      · intro he; rw [if_pos he] at h; simp at h
      · exact ih hr y hy
theorem getD_set (s : List (List Int)) (i : Nat) (y : List Int) (k : Nat) : (s.set i y).getD k [] = if i = k ∧ k < s.length then y else s.getD k [] := by
  simp only [List.getD, List.getElem?_set]
  by_cases h : i = k
  · subst h
    by_cases h2 : i < s.length
    · simp [h2]
    · simp [h2]
  · simp [h]
theorem keep_full (s : List (List Int)) (W : List (Nat × List Int)) (k : Nat) (hk : k < s.length) : ∀ j, j ≤ W.length → (keepK s W (fun _ => true) j).getD k [] = (lastW (W.take j) k).getD (s.getD k [])
  | 0, _ => by simp [keepK, lastW]
  | j + 1, hj => by
    obtain ⟨x, hx⟩ : ∃ x, W[j]? = some x := ⟨_, List.getElem?_eq_getElem (by omega)⟩
    have ih := keep_full s W k hk j (by omega)
    have hg : W.getD j (0, []) = x := by simp [List.getD, hx]
    rw [keepK, hg, List.take_add_one, hx]
    simp only [if_true]
    rw [getD_set, keepK_len, ih]
    show _ = (lastW (List.take j W ++ [x]) k).getD _
    rw [lastW_app]
    simp only [lastW, Option.none_or]
    by_cases h : x.1 = k
    · rw [if_pos ⟨h, hk⟩, if_pos h]; rfl
    · rw [if_neg (fun h' => h h'.1), if_neg h]; rfl
theorem keep_all_get (s : List (List Int)) (W : List (Nat × List Int)) (k : Nat) (hk : k < s.length) : (keepK s W (fun _ => true) W.length).getD k [] = (lastW W k).getD (s.getD k []) := by
  have := keep_full s W k hk W.length (Nat.le_refl _)
  rwa [List.take_length] at this
theorem keep_part (s : List (List Int)) (W : List (Nat × List Int)) (f : Nat → Bool) (k : Nat) : ∀ j, j ≤ W.length → (keepK s W f j).getD k [] = s.getD k [] ∨ ∃ x ∈ W, x.1 = k ∧ (keepK s W f j).getD k [] = x.2
  | 0, _ => .inl (by simp [keepK])
  | j + 1, hj => by
    obtain ⟨x, hx⟩ : ∃ x, W[j]? = some x := ⟨_, List.getElem?_eq_getElem (by omega)⟩
    have ih := keep_part s W f k j (by omega)
    have hg : W.getD j (0, []) = x := by simp [List.getD, hx]
    rw [keepK, hg]
    split
    · rw [getD_set]
      split
      · rename_i h; exact .inr ⟨x, List.mem_of_getElem? hx, h.1, rfl⟩
      · exact ih
    · exact ih

/-! What is read of the journal's sectors alone. -/
theorem pageM_congr {a b : List (List Int)} (h : ∀ k, k < 49 → a.getD k [] = b.getD k []) (m j : Nat) (hj : j < 24) : pageM a m j = pageM b m j := by
  unfold pageM
  rw [h (1 + 2 * j) (by omega), h (2 + 2 * j) (by omega)]
theorem begunK_congr {a b : List (List Int)} (m : Nat) : ∀ n, (∀ j, j < n → pageM a m j = pageM b m j) → begunK a m n = begunK b m n
  | 0, _ => rfl
  | n + 1, h => by rw [begunK, begunK, begunK_congr m n (fun j hj => h j (by omega)), h n (by omega)]
theorem begunM_congr {a b : List (List Int)} (h : ∀ k, k < 49 → a.getD k [] = b.getD k []) : begunM a = begunM b := by
  unfold begunM
  rw [h 0 (by omega)]
  split
  · rfl
  · exact begunK_congr _ _ (fun j hj => pageM_congr h _ j (by omega))
theorem begunK_some {ss : List (List Int)} {m : Nat} {f : Nat → Int × List Int} : ∀ n, (∀ j, j < n → pageM ss m j = some (f j)) → begunK ss m n = some ((List.range n).map f)
  | 0, _ => rfl
  | n + 1, h => by rw [begunK, begunK_some n (fun j hj => h j (by omega)), h n (by omega)]; simp [List.range_succ]

/-! Numbers as bytes. -/
theorem numK_four (m : Int) (h : 0 ≤ m ∧ m < 4294967296) (r : List Int) : ((numK (fourB m ++ r) 4 : Nat) : Int) = m := by
  have e : numK (fourB m ++ r) 4 = numK (fourB m) 4 := by simp [numK, fourB]
  rw [e, num_four]; omega
end Go.Proofs.YtnenkclihgeacaaDoor
/- Own: all, or none: what is read of a disk whose acts were cut. No statement is proved here. -/
namespace Go.Proofs.YtnenkclihgeacaaDoor
set_option maxRecDepth 100000
open Go.RowKit
set_option linter.unusedVariables false
set_option linter.unusedSimpArgs false

def DAct.isWr : DAct → Bool
  | .wr _ _ => true
  | .fl => false
def toW : DAct → Nat × List Int
  | .wr i xs => (i.toNat, pad64 xs)
  | .fl => (0, [])
theorem ap_writes (l : List DAct) (h : ∀ a ∈ l, a.isWr = true) (p : St) : apAll l p = (p.1, p.2 ++ l.map toW) := by
  induction l generalizing p with
  | nil => simp [apAll]
  | cons x l ih =>
    show apAll l (ap p x) = _
    rw [ih (fun a ha => h a (List.mem_cons_of_mem _ ha))]
    cases x with
    | wr i xs => simp [ap, toW]
    | fl => have := h .fl List.mem_cons_self; simp [DAct.isWr] at this
def layW (l : List (Int × List Int)) : List (Nat × List Int) := l.map fun x => ((49 + x.1).toNat, pad64 x.2)
theorem layA_toW (l : List (Int × List Int)) : (layA l).map toW = layW l := by simp [layA, layW, toW]
theorem layA_wr (l : List (Int × List Int)) : ∀ a ∈ layA l, a.isWr = true := fun a ha => by
  simp only [layA, List.mem_map] at ha
  obtain ⟨x, _, rfl⟩ := ha; rfl
theorem fits_all {k : Nat} {l : List (Int × List Int)} (h : fitsB k l = true) : ∀ x ∈ l, (0 ≤ x.1 ∧ x.1 < (k : Int)) ∧ x.2.length ≤ 64 := fun x hx => by
  have := List.all_eq_true.1 h x hx
  simp at this
  exact ⟨this.1, this.2⟩
theorem layW_ge {k : Nat} {l : List (Int × List Int)} (h : fitsB k l = true) : ∀ x ∈ layW l, 49 ≤ x.1 := fun x hx => by
  simp only [layW, List.mem_map] at hx
  obtain ⟨y, hy, rfl⟩ := hx
  have := (fits_all h y hy).1.1
  show 49 ≤ (49 + y.1).toNat
  omega
/-- What is told of a disk when it is opened. -/
def content (s : List (List Int)) (k : Nat) : List Int := match begunM s with
  | none => s.getD (49 + k) []
  | some l => (lastW (layW l) (49 + k)).getD (s.getD (49 + k) [])
structure SCalm (s : List (List Int)) (L : Nat) (C : List (List Int)) : Prop where
  len : s.length = 49 + C.length
  cont : ∀ k, k < C.length → content s k = C.getD k []
  nums : ∀ k, k < 49 → numK (s.getD k []) 4 ≤ L
  good : ∀ l, begunM s = some l → fitsB C.length l = true
def Settled (s : List (List Int)) (C : List (List Int)) : Prop := ∀ k, k < C.length → s.getD (49 + k) [] = C.getD k []
theorem lay_part {s s' : List (List Int)} {L : Nat} {C : List (List Int)} {l : List (Int × List Int)} (h : SCalm s L C) (hb : begunM s = some l) (hl : s'.length = s.length)
    (h1 : ∀ k, k < 49 → s'.getD k [] = s.getD k []) (h2 : ∀ k, s'.getD (49 + k) [] = s.getD (49 + k) [] ∨ ∃ x ∈ layW l, x.1 = 49 + k) : SCalm s' L C ∧ begunM s' = some l := by
  have hb' : begunM s' = some l := by rw [begunM_congr h1]; exact hb
  refine ⟨⟨by rw [hl, h.len], fun k hk => ?_, fun k hk => by rw [h1 k hk]; exact h.nums k hk, fun l' hl' => h.good l' (by rw [hb]; rw [hb'] at hl'; exact hl')⟩, hb'⟩
  have hc := h.cont k hk
  unfold content at hc ⊢
  rw [hb] at hc
  rw [hb']
  dsimp only at hc ⊢
  cases hw : lastW (layW l) (49 + k) with
  | some y => rw [hw] at hc; exact hc
  | none =>
    rw [hw] at hc
    simp only [Option.getD_none] at hc ⊢
    rcases h2 k with e | ⟨x, hx, he⟩
    · rw [e]; exact hc
    · exact absurd he (lastW_none hw x hx)
theorem lay_keep {s : List (List Int)} {L : Nat} {C : List (List Int)} {l : List (Int × List Int)} (h : SCalm s L C) (hb : begunM s = some l) (W : List (Nat × List Int)) (hW : ∀ x ∈ W, x ∈ layW l) (f : Nat → Bool) :
    SCalm (keepK s W f W.length) L C ∧ begunM (keepK s W f W.length) = some l := by
  have hg := layW_ge (h.good l hb)
  refine lay_part h hb (keepK_len _ _ _ _) (fun k hk => ?_) (fun k => ?_)
  · rcases keep_part s W f k W.length (Nat.le_refl _) with e | ⟨x, hx, he, _⟩
    · exact e
    · have := hg x (hW x hx); omega
  · rcases keep_part s W f (49 + k) W.length (Nat.le_refl _) with e | ⟨x, hx, he, _⟩
    · exact .inl e
    · exact .inr ⟨x, hW x hx, he⟩
theorem lay_done {s : List (List Int)} {L : Nat} {C : List (List Int)} {l : List (Int × List Int)} (h : SCalm s L C) (hb : begunM s = some l) : Settled (keepK s (layW l) (fun _ => true) (layW l).length) C := fun k hk => by
  rw [keep_all_get s (layW l) (49 + k) (by rw [h.len]; omega)]
  have hc := h.cont k hk
  unfold content at hc
  rw [hb] at hc
  exact hc
theorem settled_none {s : List (List Int)} {L : Nat} {C : List (List Int)} (h : SCalm s L C) (hb : begunM s = none) : Settled s C := fun k hk => by
  have hc := h.cont k hk
  unfold content at hc
  rw [hb] at hc
  exact hc

structure Calm (d : DiskM) (L : Nat) (C : List (List Int)) : Prop where
  off : d.off = false
  wet : d.wet = []
  calm : SCalm d.safe L C
theorem crashed_calm {d : DiskM} {L : Nat} {C : List (List Int)} (ms : List Int) (h : SCalm (keepK d.safe d.wet (maskB ms) d.wet.length) L C) : Calm (d.crashed ms) L C := ⟨rfl, rfl, h⟩
theorem secs_begun {d : DiskM} (hw : d.wet = []) : begunM (secsOf d 49) = begunM d.safe := by
  refine begunM_congr (fun k hk => ?_)
  have : (secsOf d 49).getD k [] = d.last k := by simp [List.getD, secsOf, hk]
  rw [this]
  unfold DiskM.last
  rw [hw]; rfl
theorem secs_get {d : DiskM} (hw : d.wet = []) (k : Nat) (hk : k < 49) : (secsOf d 49).getD k [] = d.safe.getD k [] := by
  have : (secsOf d 49).getD k [] = d.last k := by simp [List.getD, secsOf, hk]
  rw [this]
  unfold DiskM.last
  rw [hw]; rfl
theorem lastK_le (ss : List (List Int)) (L : Nat) : ∀ n, (∀ k, k < n → numK (ss.getD k []) 4 ≤ L) → lastK ss n ≤ L
  | 0, _ => Nat.zero_le _
  | n + 1, h => by
    rw [lastK]
    have h1 := lastK_le ss L n (fun k hk => h k (by omega))
    have h2 := h n (by omega)
    omega
theorem le_lastK (ss : List (List Int)) : ∀ n k, k < n → numK (ss.getD k []) 4 ≤ lastK ss n
  | 0, k, hk => by omega
  | n + 1, k, hk => by
    rw [lastK]
    rcases Nat.lt_or_ge k n with h | h
    · have := le_lastK ss n k h; omega
    · obtain rfl : k = n := by omega
      omega
theorem prefix_cases {a b W : List DAct} (h : W ++ [DAct.fl] = a ++ b) : (∃ c, W = a ++ c) ∨ a = W ++ [.fl] := by
  rcases List.append_eq_append_iff.1 h with ⟨c, h1, h2⟩ | ⟨c, h1, h2⟩
  · cases c with
    | nil => left; exact ⟨[], by simpa using h1.symm⟩
    | cons x c =>
      right
      simp at h2
      obtain ⟨rfl, h3, _⟩ := h2
      rw [h1, h3]
  · exact .inl ⟨c, h1⟩
theorem lay_valid {n : Nat} {l : List (Int × List Int)} (h : fitsB (n - 49) l = true) (h49 : 49 < n) : ∀ a ∈ layA l ++ [.fl], a.valid n := fun a ha => by
  rcases List.mem_append.1 ha with ha | ha
  · simp only [layA, List.mem_map] at ha
    obtain ⟨x, hx, rfl⟩ := ha
    obtain ⟨h1, h2⟩ := fits_all h x hx
    exact ⟨by omega, h2⟩
  · simp at ha; subst ha; trivial
/-- Pages are written: to the end, or cut. -/
theorem lay_run {d : DiskM} {L : Nat} {C : List (List Int)} {l : List (Int × List Int)} (h : Calm d L C) (hC : 0 < C.length) (hb : begunM d.safe = some l) :
    ((DiskM.run (layA l ++ [.fl]) d).2 = 0 ∧ Calm (DiskM.run (layA l ++ [.fl]) d).1 L C ∧ Settled (DiskM.run (layA l ++ [.fl]) d).1.safe C ∧ (∀ k, k < 49 → (DiskM.run (layA l ++ [.fl]) d).1.safe.getD k [] = d.safe.getD k []) ∧ (DiskM.run (layA l ++ [.fl]) d).1.armed = d.armed) ∨
    (d.armed = true ∧ (DiskM.run (layA l ++ [.fl]) d).2 = 9 ∧ (DiskM.run (layA l ++ [.fl]) d).1.off = true ∧ ∀ ms, Calm ((DiskM.run (layA l ++ [.fl]) d).1.crashed ms) L C) := by
  have hfit := h.calm.good l hb
  have hlen : d.safe.length = 49 + C.length := h.calm.len
  have hv := lay_valid (n := d.safe.length) (l := l) (by rw [hlen, show 49 + C.length - 49 = C.length by omega]; exact hfit) (by omega)
  have hst : d.st = (d.safe, []) := by unfold DiskM.st; rw [h.wet]
  have hful : apAll (layA l ++ [.fl]) d.st = (keepK d.safe (layW l) (fun _ => true) (layW l).length, []) := by
    rw [apAll_app, hst, ap_writes _ (layA_wr l), layA_toW]; rfl
  have hk := lay_keep h.calm hb (layW l) (fun _ h => h) (fun _ => true)
  have hj : ∀ k, k < 49 → (keepK d.safe (layW l) (fun _ => true) (layW l).length).getD k [] = d.safe.getD k [] := fun k hk' => by
    rcases keep_part d.safe (layW l) (fun _ => true) k _ (Nat.le_refl _) with e | ⟨x, hx, he, _⟩
    · exact e
    · have := layW_ge hfit x hx; omega
  rcases run_cases _ d h.off hv with ⟨r1, r2, r3, r4⟩ | ⟨r0, r1, r2, a, b, hab, r3⟩
  · left
    rw [hful] at r3
    have e1 : (DiskM.run (layA l ++ [.fl]) d).1.safe = _ := congrArg Prod.fst r3
    have e2 : (DiskM.run (layA l ++ [.fl]) d).1.wet = _ := congrArg Prod.snd r3
    dsimp only at e1 e2
    exact ⟨r1, ⟨r2, e2, by rw [e1]; exact hk.1⟩, by rw [e1]; exact lay_done h.calm hb, by rw [e1]; exact hj, r4⟩
  · right
    refine ⟨r0, r1, r2, fun ms => crashed_calm ms ?_⟩
    rcases prefix_cases hab with ⟨c, hc⟩ | hc
    · have ha : ∀ x ∈ a, x.isWr = true := fun x hx => layA_wr l x (by rw [hc]; exact List.mem_append_left _ hx)
      rw [hst, ap_writes a ha] at r3
      have e1 : (DiskM.run (layA l ++ [.fl]) d).1.safe = d.safe := congrArg Prod.fst r3
      have e2 : (DiskM.run (layA l ++ [.fl]) d).1.wet = a.map toW := by have := congrArg Prod.snd r3; simpa [DiskM.st] using this
      rw [e1, e2]
      refine (lay_keep h.calm hb (a.map toW) (fun x hx => ?_) _).1
      rw [← layA_toW, hc, List.map_append]
      exact List.mem_append_left _ hx
    · rw [hc, hful] at r3
      have e1 : (DiskM.run (layA l ++ [.fl]) d).1.safe = _ := congrArg Prod.fst r3
      have e2 : (DiskM.run (layA l ++ [.fl]) d).1.wet = _ := congrArg Prod.snd r3
      dsimp only at e1 e2
      rw [e1, e2]
      exact hk.1
/-- Opened: to the end, or cut. -/
theorem open_run {d : DiskM} {L : Nat} {C : List (List Int)} (h : Calm d L C) (hC : 0 < C.length) :
    ((openM d).2 = 0 ∧ Calm (openM d).1 (lastK (secsOf d 49) 49) C ∧ Settled (openM d).1.safe C ∧ lastK (secsOf d 49) 49 ≤ L ∧ (openM d).1.armed = d.armed) ∨
    (d.armed = true ∧ (openM d).2 = 9 ∧ (openM d).1.off = true ∧ ∀ ms, Calm ((openM d).1.crashed ms) L C) := by
  have hlen : d.safe.length = 49 + C.length := h.calm.len
  have hle : lastK (secsOf d 49) 49 ≤ L := lastK_le _ _ _ (fun k hk => by rw [secs_get h.wet k hk]; exact h.calm.nums k hk)
  have hge : ∀ k, k < 49 → numK (d.safe.getD k []) 4 ≤ lastK (secsOf d 49) 49 := fun k hk => by rw [← secs_get h.wet k hk]; exact le_lastK _ 49 k hk
  have hbe := secs_begun h.wet
  unfold openM
  rw [if_neg (by omega), if_neg (by rw [h.off]; decide), hbe]
  cases hb : begunM d.safe with
  | none =>
    left
    dsimp only
    exact ⟨rfl, ⟨h.off, h.wet, h.calm.len, h.calm.cont, hge, h.calm.good⟩, settled_none h.calm hb, hle, rfl⟩
  | some l =>
    dsimp only
    have hfm : finishM l d = DiskM.run (layA l ++ [.fl]) d := by
      unfold finishM
      rw [if_pos (by rw [hlen, show 49 + C.length - 49 = C.length by omega]; exact h.calm.good l hb)]
    rw [hfm]
    rcases lay_run h hC hb with ⟨r1, r2, r3, r4, r5⟩ | r
    · left
      exact ⟨r1, ⟨r2.off, r2.wet, r2.calm.len, r2.calm.cont, fun k hk => by rw [r4 k hk]; exact hge k hk, r2.calm.good⟩, r3, hle, r5⟩
    · right; exact r
end Go.Proofs.YtnenkclihgeacaaDoor
