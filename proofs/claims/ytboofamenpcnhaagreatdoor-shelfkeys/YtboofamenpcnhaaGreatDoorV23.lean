/- Own texts, packed: Q31. -/
import Derived.Test.YtboofamenpcnhaaGreatDoorV22
import Derived.Test.YtboofamenpcnhaaGreatDoorV00
namespace Go.Proofs.YtboofamenpcnhaaGreatDoor
set_option maxRecDepth 100000
open Go.RowKit
set_option linter.unusedVariables false
set_option linter.unusedSimpArgs false
theorem Tryz.info29 : (Tryz.prog.info? 29).map (fun i => (i.zero, i.size, i.bytes)) = some (some (.slice none 0 0), 1, 24) := by kernel_rfl
/-- Sectors that were read. -/
def SecsAt (w : World) (g : Nat) (ss : List (List Int)) : Prop := ∀ i s, ss[i]? = some s → ∃ B, w.cell? ⟨g, i, none⟩ = some (.slice (some ⟨B, 0, none⟩) 64 64) ∧ w.rangeAt B 0 (secV s)
theorem SecsAt.turn {w w' : World} {g : Nat} {ss : List (List Int)} (h : SecsAt w g ss) (hs : ∀ s ∈ ss, s.length = 64) (ht : Turn (fun _ => False) w w') : SecsAt w' g ss := fun i s hi => by
  obtain ⟨B, h1, h2⟩ := h i s hi
  exact ⟨B, (ht.cell (p := ⟨g, i, none⟩) (World.block_lt_of_cell? w _ h1) id).trans h1, rangeAt_turn h2 ht id⟩
def secsOf (d : DiskM) (n : Nat) : List (List Int) := (List.range n).map d.last
theorem secsOf_at (d : DiskM) (n i : Nat) (hi : i < n) : (secsOf d n)[i]? = some (d.last i) := by simp [secsOf, hi]
def bv (B : Nat) : Value := .slice (some ⟨B, 0, none⟩) 64 64
def LoadPost (w : World) (F : Nat → Prop) (D : Nat) (d : DiskM) (e : Ending) (w' : World) : Prop :=
  ∃ g c, e = .returned (.tuple #[.slice (some ⟨g, 0, none⟩) 49 c, .int .i64 0]) ∧ 49 ≤ c ∧ SecsAt w' g (secsOf d 49) ∧ DH w' F D d ∧ Turn (fun _ => False) w w'
set_option maxHeartbeats 4000000 in
set_option maxRecDepth 100000 in
theorem load_any (w : World) (F : Nat → Prop) (D : Nat) (d : DiskM) (h : DH w F D d) (hf : Fits d) (hbig : 49 < d.safe.length) (hoff : d.off = false) :
    Calls Tryz.prog 44 #[.pointer (some ⟨D, 0, none⟩)] w (LoadPost w F D d) := by
  obtain ⟨i0, hi, hz0, hz1, hz2⟩ := info_parts Tryz.info29
  have HH := Lib.hid h
  have HF := Lib.hid hf
  clear h hf
  go_enter Tryz.func44, Tryz.ntmps44
  go_wp2_with fail
  go_loopw [4, 8] (fun lv iv wr => ∃ j : Nat, j ≤ 49 ∧ iv = .int .i64 (j : Int) ∧ ∃ bs : List Nat, bs.length = j ∧ wr.ownsRow w.heap.size 29 1 lv j (bs.map bv) ∧ (∀ i B, bs[i]? = some B → wr.rangeAt B 0 (secV (d.last i)) ∧ B < wr.heap.size ∧ lv.ownBlock ≠ some B) ∧ Turn (fun _ => False) w wr) (fun _ iv _ => (49 - intOf iv).toNat)
  case atStart => exact ⟨0, Nat.zero_le _, rfl, [], rfl, World.ownsRow_nil _ _ _ _, fun i B h => by simp at h, Turn.refl _ _⟩
  case round =>
    obtain ⟨j, hj, rfl, bs, hbl, ho, hbs, tr⟩ := hrel
    have HO := Lib.hid ho
    have HBS := Lib.hid hbs
    have HBL := Lib.hid hbl
    clear ho hbs hbl
    by_cases hlt : j < 49
    · go_wp2_with fail
      refine (read_dh wr F D d j (HH.out.turn0 tr) HF.out (by omega) hoff).mono ?_
      rintro e w2 ⟨B, rfl, hB, hr, hth, hd2, t2⟩
      have hBl : B < w2.heap.size := by
        obtain ⟨vv, hvv⟩ := Option.isSome_iff_exists.1 (hth 0 (by omega)).1
        exact World.block_lt_of_cell? w2 _ hvv
      have ho2 := t2.owns HO.out (fun _ _ => id)
      have HO2 := Lib.hid (((Turn.refl (fun _ => False) w2).alloc (.cells #[bv B] 29)).owns ho2 (fun _ _ => id))
      have HRB := Lib.hid hr
      have hnew := heap_alloc_new w2 (.cells #[bv B] 29)
      have hnews : ∀ (k : Nat) u, [bv B][k]? = some u → (w2.alloc (.cells #[bv B] 29)).cell? ((⟨w2.heap.size, 0, none⟩ : Addr).add k) = some u := by
        intro k u hk
        rw [Addr.add_mid, cell_of_row _ _ _ _ 29 (0, 0) hnew]
        match k, hk with
        | 0, hk => simpa using hk
      have HNW := Lib.hid hnews
      clear ho2 hr hth hnew hnews
      go_wp2_with (at_builtin; refine wpList_append_where _ rfl (.tmp 20) (.tmp 22) 22 rfl w.heap.size 29 i0 (.slice none 0 0) 1 24 Tryz.underlying22 hi hz0 hz1 hz2 rfl (by decide) _ j (bs.map bv) rfl HO2.out ⟨w2.heap.size, 0, none⟩ 1 1 [bv B] rfl rfl HNW.out (fun u hu => by simp at hu; subst hu; rfl) ?d3 ?d4 ?d5 ?_)
      case d3 => unfold maxLen; omega
      case d4 => omega
      case d5 => have h1 := tr.size; have h2 := t2.size; simp; omega
      intro v3 w3 ho3 hg3 hfr _
      have t3 : Turn (fun q => u4.ownBlock = some q) w2 w3 := ((Turn.refl (fun q => u4.ownBlock = some q) w2).alloc (.cells #[bv B] 29)).grown hg3 (fun k h _ => h)
      have T3 : Turn (fun _ => False) w w3 := (tr.trans t2 (fun _ _ => id)).trans t3 (fun q hq h => by have := (HO.out.lt q h).1; omega)
      have HO3 := Lib.hid ho3
      clear ho3
      go_wp2_with fail
      go_roundw
      case rel =>
        refine ⟨j + 1, by omega, by go_num, bs ++ [B], by simp [HBL.out], by simpa using HO3.out, ?_, T3⟩
        intro i B' hi'
        have hs2 := t2.size
        have hs3 := t3.size
        have hfr' : ∀ q, q < w2.heap.size → u4.ownBlock ≠ some q → v3.ownBlock ≠ some q := fun q hq hn hv => hn (hfr.old hv (by simp; omega))
        rcases Nat.lt_or_ge i j with hij | hij
        · rw [List.getElem?_append_left (by have := HBL.out; omega)] at hi'
          obtain ⟨a1, a2, a3⟩ := HBS.out i B' hi'
          exact ⟨rangeAt_turn (rangeAt_turn a1 t2 id) t3 a3, by omega, hfr' B' (by omega) a3⟩
        · rw [List.getElem?_append_right (by have := HBL.out; omega)] at hi'
          have hij' : i = j := by
            have := (List.getElem?_eq_some_iff.1 hi').1
            simp at this
            have := HBL.out; omega
          subst hij'
          rw [HBL.out] at hi'
          simp at hi'
          subst hi'
          have hnb : u4.ownBlock ≠ some B := fun hh => by have := (HO.out.lt B hh).2; omega
          exact ⟨rangeAt_turn HRB.out t3 hnb, by omega, hfr' B hBl hnb⟩
      case measure => simp [intOf]; omega
    · obtain rfl : j = 49 := by omega
      have hform : ∃ g c, u4 = .slice (some ⟨g, 0, none⟩) 49 c ∧ 49 ≤ c := by
        rcases HO.out.2 with ⟨_, h0⟩ | ⟨g, cap, cur, h1, _, _, h2, _⟩
        · omega
        · exact ⟨g, cap, h1, h2⟩
      obtain ⟨g, c, rfl, hc⟩ := hform
      go_wp2_with fail
      go_ret2
      refine ⟨g, c, rfl, hc, fun i s hs => ?_, HH.out.turn0 tr, tr⟩
      have hi49 : i < 49 := by have := (List.getElem?_eq_some_iff.1 hs).1; simpa [secsOf] using this
      rw [secsOf_at d 49 i hi49] at hs
      obtain rfl : d.last i = s := by simpa using hs
      obtain ⟨B, hB⟩ : ∃ B, bs[i]? = some B := ⟨_, List.getElem?_eq_getElem (by rw [HBL.out]; exact hi49)⟩
      refine ⟨B, ?_, (HBS.out i B hB).1⟩
      rw [HO.out.cellAt i (by omega)]
      simp [hB, bv]
end Go.Proofs.YtboofamenpcnhaaGreatDoor
namespace Go.Proofs.YtboofamenpcnhaaGreatDoor
set_option maxRecDepth 100000
open Go.RowKit
set_option linter.unusedVariables false
set_option linter.unusedSimpArgs false
theorem sec_src {w : World} {B : Nat} {s : List Int} (h : w.rangeAt B 0 (secV s)) (hl : s.length = 64) : Src w (.slice (some ⟨B, 0, none⟩) 64 64) s :=
  .inl (.inr ⟨B, 0, 64, by rw [hl], by omega, fun i hi => by rw [Nat.zero_add]; exact sec_cell h i hi⟩)
theorem sec_src_drop {w : World} {B : Nat} {s : List Int} (h : w.rangeAt B 0 (secV s)) (hl : s.length = 64) (o n c : Nat) (ho : o + n = 64 ∧ n ≤ c ∧ 0 < n) : Src w (.slice (some ⟨B, o, none⟩) n c) (s.drop o) := by
  have hn : (s.drop o).length = n := by simp; omega
  refine .inl (.inr ⟨B, o, c, by rw [hn], by omega, fun i hi => ?_⟩)
  rw [sec_cell h (o + i) (by omega)]
  simp [List.getD, List.getElem?_drop]
theorem sec_cells_mid {w : World} {B : Nat} {s : List Int} (h : w.rangeAt B 0 (secV s)) (hl : s.length = 64) : ∀ i, i < ((s.drop 8).take 32).length → w.cell? ⟨B, 8 + i, none⟩ = some (.int .u8 (((s.drop 8).take 32).getD i 0)) := fun i hi => by
  have hi' : i < 32 := by simp at hi; omega
  rw [sec_cell h (8 + i) (by omega)]
  simp [List.getD, hi', List.getElem?_take, List.getElem?_drop]
theorem reads_turn4 {w w' : World} {v : Value} {xs : List Int} (h : Reads w v xs) (t : Turn (fun _ => False) w w') : Reads w' v xs := h.turn t (fun _ _ => id)
/-- One page of the journal's sectors. -/
def pageM (ss : List (List Int)) (m j : Nat) : Option (Int × List Int) :=
  if numK (ss.getD (1 + 2 * j) []) 4 = m ∧ numK (ss.getD (2 + 2 * j) []) 4 = m then some (((numK ((ss.getD (1 + 2 * j) []).drop 4) 4 : Nat) : Int), ((ss.getD (1 + 2 * j) []).drop 8).take 32 ++ ((ss.getD (2 + 2 * j) []).drop 8).take 32) else none
def begunK (ss : List (List Int)) (m : Nat) : Nat → Option (List (Int × List Int))
  | 0 => some []
  | j + 1 => (begunK ss m j).bind fun l => (pageM ss m j).map fun p => l ++ [p]
def begunM (ss : List (List Int)) : Option (List (Int × List Int)) :=
  if numK (ss.getD 0 []) 4 = 0 ∨ 24 < numK ((ss.getD 0 []).drop 4) 4 then none else begunK ss (numK (ss.getD 0 []) 4) (numK ((ss.getD 0 []).drop 4) 4)
theorem begunK_none (ss : List (List Int)) (m j n : Nat) (hj : j < n) (h : pageM ss m j = none) : begunK ss m n = none := by
  induction n with
  | zero => omega
  | succ n ih =>
    rw [begunK]
    rcases Nat.lt_or_ge j n with h1 | h1
    · rw [ih h1]; rfl
    · obtain rfl : j = n := by omega
      rw [h]; cases begunK ss m j <;> rfl
/-- The cells of pages. -/
def flatP (ps : List (Int × Value × List Int)) : List Value := ps.flatMap fun p => [.int .i64 p.1, p.2.1]
theorem flatP_len (ps : List (Int × Value × List Int)) : (flatP ps).length = ps.length * 2 := by
  induction ps with
  | nil => rfl
  | cons p ps ih => simp only [flatP, List.flatMap_cons, List.length_append] at ih ⊢; rw [ih]; simp; omega
theorem flatP_at (ps : List (Int × Value × List Int)) (i : Nat) (p : Int × Value × List Int) (h : ps[i]? = some p) : (flatP ps)[i * 2]? = some (.int .i64 p.1) ∧ (flatP ps)[i * 2 + 1]? = some p.2.1 := by
  induction ps generalizing i with
  | nil => simp at h
  | cons q ps ih =>
    cases i with
    | zero => simp at h; subst h; simp [flatP]
    | succ i =>
      have := ih i (by simpa using h)
      rw [show (i + 1) * 2 = i * 2 + 1 + 1 by omega]
      simpa [flatP] using this
def PsOk (w wr : World) (ov : Value) (ps : List (Int × Value × List Int)) : Prop := ∀ p ∈ ps, Reads wr p.2.1 p.2.2 ∧ ∀ k, p.2.1.ownBlock = some k → w.heap.size ≤ k ∧ k < wr.heap.size ∧ ov.ownBlock ≠ some k
theorem Tryz.info88 : (Tryz.prog.info? 88).map (fun i => (i.zero, i.size, i.bytes)) = some (some (.agg #[.int .i64 0, .slice none 0 0]), 2, 32) := by kernel_rfl
theorem page_step {w wr w4 w5 : World} {ov v5 u : Value} {ps : List (Int × Value × List Int)} {l : List (Int × List Int)} {j : Nat} {x : Int} {xs : List Int}
    (hl : l = ps.map fun p => (p.1, p.2.2)) (hps : PsOk w wr ov ps) (ho : wr.ownsRow w.heap.size 88 2 ov j (flatP ps)) (tr : Turn (fun _ => False) w wr) (t4 : Turn (fun _ => False) wr w4) (t5 : Turn (fun q => ov.ownBlock = some q) w4 w5)
    (hf : Fresh w4 ov v5) (ho5 : w5.ownsRow w.heap.size 88 2 v5 (j + 1) (flatP ps ++ [.int .i64 x, u])) (hr : Reads w4 u xs) (hk1 : ∀ k, u.ownBlock = some k → wr.heap.size ≤ k) (hk2 : ∀ k, u.ownBlock = some k → k < w4.heap.size) :
    Turn (fun _ => False) w w5 ∧ ∃ ps', l ++ [(x, xs)] = ps'.map (fun p => (p.1, p.2.2)) ∧ PsOk w w5 v5 ps' ∧ w5.ownsRow w.heap.size 88 2 v5 (j + 1) (flatP ps') := by
  have hs1 := tr.size
  have hs4 := t4.size
  have hs5 := t5.size
  have hold : ∀ q, q < w4.heap.size → ov.ownBlock ≠ some q → v5.ownBlock ≠ some q := fun q hq hn hv => hn (hf.old hv hq)
  refine ⟨(tr.trans t4 (fun _ _ => id)).trans t5 (fun q hq h => by have := (ho.lt q h).1; omega), ps ++ [(x, u, xs)], by simp [hl], ?_, by simpa [flatP] using ho5⟩
  intro p hp
  rcases List.mem_append.1 hp with hp | hp
  · obtain ⟨a1, a2⟩ := hps p hp
    refine ⟨(a1.turn t4 (fun _ _ => id)).turn t5 (fun k hk => (a2 k hk).2.2), fun k hk => ?_⟩
    obtain ⟨b1, b2, b3⟩ := a2 k hk
    exact ⟨b1, by omega, hold k (by omega) b3⟩
  · simp at hp
    subst hp
    have hn : ∀ k, u.ownBlock = some k → ov.ownBlock ≠ some k := fun k hk h => by have := (ho.lt k h).2; have := hk1 k hk; omega
    exact ⟨hr.turn t5 (fun k hk => hn k hk), fun k hk => ⟨by have := hk1 k hk; omega, by have := hk2 k hk; omega, hold k (hk2 k hk) (hn k hk)⟩⟩
theorem pages_of {w wr : World} {ov : Value} {ps : List (Int × Value × List Int)} {l : List (Int × List Int)} {j : Nat} (hl : l = ps.map fun p => (p.1, p.2.2)) (hps : PsOk w wr ov ps) (ho : wr.ownsRow w.heap.size 88 2 ov j (flatP ps)) :
    PagesIn wr (fun k => w.heap.size ≤ k ∧ k < wr.heap.size) ov l := by
  have hlen : ps.length = j := by have := ho.1; rw [flatP_len] at this; omega
  rcases ho.2 with ⟨rfl, rfl⟩ | ⟨g, cap, cur, rfl, hb, hg, hc, _⟩
  · exact .inl ⟨rfl, by rw [hl, List.eq_nil_of_length_eq_zero hlen]; rfl⟩
  · have hglt : g < wr.heap.size := (Array.getElem?_eq_some_iff.1 hg).1
    have hll : l.length = j := by rw [hl, List.length_map, hlen]
    refine .inr ⟨g, cap, by rw [hll], by omega, ⟨hb, hglt⟩, hglt, fun i x hx => ?_⟩
    rw [hl, List.getElem?_map] at hx
    obtain ⟨p, hp, rfl⟩ := Option.map_eq_some_iff.1 hx
    obtain ⟨c1, c2⟩ := flatP_at ps i p hp
    have hi : i < j := by have := (List.getElem?_eq_some_iff.1 hp).1; omega
    obtain ⟨a1, a2⟩ := hps p (List.mem_of_getElem? hp)
    exact ⟨by rw [ho.cellAt (i * 2) (by omega)]; exact c1, p.2.1, by rw [ho.cellAt (i * 2 + 1) (by omega)]; exact c2, .inl a1, fun _ k hk => ⟨(a2 k hk).1, (a2 k hk).2.1⟩⟩
def BegunPost (w : World) (r : Option (List (Int × List Int))) (e : Ending) (w' : World) : Prop := Turn (fun _ => False) w w' ∧
  match r with
  | none => e = .returned (.tuple #[.slice none 0 0, .bool false])
  | some l => ∃ v, e = .returned (.tuple #[v, .bool true]) ∧ PagesIn w' (fun k => w.heap.size ≤ k ∧ k < w'.heap.size) v l
set_option maxHeartbeats 1600000 in
set_option maxRecDepth 100000 in
theorem begun_any (w : World) (g c : Nat) (ss : List (List Int)) (hss : ss.length = 49) (h64 : ∀ s ∈ ss, s.length = 64 ∧ BytesOk s) (h : SecsAt w g ss) (hc : 49 ≤ c) :
    Calls Tryz.prog 46 #[.slice (some ⟨g, 0, none⟩) 49 c] w (BegunPost w (begunM ss)) := by
  obtain ⟨i0, hi, hz0, hz1, hz2⟩ := info_parts Tryz.info88
  obtain ⟨s0, hs0⟩ : ∃ s, ss[0]? = some s := ⟨_, List.getElem?_eq_getElem (by omega)⟩
  have hg0 : ss.getD 0 [] = s0 := by simp [List.getD, hs0]
  obtain ⟨B0, q0', hrB0⟩ := h 0 s0 hs0
  have HL0 := Lib.hid (h64 s0 (List.mem_of_getElem? hs0))
  have HS0' := Lib.hid hrB0
  have HG0 := Lib.hid hg0
  have HSS := Lib.hid h
  have H64 := Lib.hid h64
  have HLS := Lib.hid hss
  clear hg0 hs0 hrB0 h h64 hss
  have q0 : w.drew.cell? ⟨g, 0, none⟩ = some (.slice (some ⟨B0, 0, none⟩) 64 64) := q0'
  have HS0 := Lib.hid (rangeAt_turn HS0'.out (Turn.refl (fun _ => False) w).drew id)
  go_enter Tryz.func46, Tryz.ntmps46
  go_wp2_with fail
  refine wp_region_held_drew (S := fun w' => w'.cell? ⟨g, 0, none⟩ = some (.slice (some ⟨B0, 0, none⟩) 64 64)) (by kernel_rfl) q0 (fun hHeld => ?_)
  refine wpAnyH_take (i := 0) (v := .slice (some ⟨g, 0, none⟩) 49 c) rfl (by kernel_rfl) (by kernel_rfl) (by kernel_rfl) (fun _ _ _ h => h) (Or.inl ⟨by rfl, ?ya0⟩) (by assumption) ?ra0
  case ya0 => (intro wq hSw; (try simp only [zq1, zq2, zq3]); go_simp; try with_reducible rfl)
  case ra0 =>
  try simp only [Act.put, zq4, zq5, zq6, zq1, zq2, zq3]
  refine wpAnyH_take (i := 1) (v := .pointer (some ⟨g, 0, none⟩)) rfl (by kernel_rfl) (by kernel_rfl) (by kernel_rfl) (fun _ _ _ h => h) (Or.inl ⟨by rfl, ?ya1⟩) (by assumption) ?ra1
  case ya1 => (intro wq hSw; (try simp only [zq1, zq2, zq3]); go_simp; try with_reducible rfl)
  case ra1 =>
  try simp only [Act.put, zq4, zq5, zq6, zq1, zq2, zq3]
  refine wpAnyH_take (i := 2) (v := .slice (some ⟨B0, 0, none⟩) 64 64) rfl (by kernel_rfl) (by kernel_rfl) (by kernel_rfl) (fun _ _ _ h => h) (Or.inl ⟨by rfl, ?ya2⟩) (by assumption) ?ra2
  case ya2 => (intro wq hSw; (have s0 := hSw); (try simp only [zq1, zq2, zq3]); go_simp; try with_reducible rfl)
  case ra2 =>
  try simp only [Act.put, zq4, zq5, zq6, zq1, zq2, zq3]
  refine wpAnyH_take (i := 4) (v := .slice (some ⟨g, 0, none⟩) 49 c) rfl (by kernel_rfl) (by kernel_rfl) (by kernel_rfl) (fun _ _ _ h => h) (Or.inl ⟨by rfl, ?ya4⟩) (by assumption) ?ra4
  case ya4 => (intro wq hSw; (try simp only [zq1, zq2, zq3]); go_simp; try with_reducible rfl)
  case ra4 =>
  try simp only [Act.put, zq4, zq5, zq6, zq1, zq2, zq3]
  refine wpAnyH_take (i := 5) (v := .pointer (some ⟨g, 0, none⟩)) rfl (by kernel_rfl) (by kernel_rfl) (by kernel_rfl) (fun _ _ _ h => h) (Or.inl ⟨by rfl, ?ya5⟩) (by assumption) ?ra5
  case ya5 => (intro wq hSw; (try simp only [zq1, zq2, zq3]); go_simp; try with_reducible rfl)
  case ra5 =>
  try simp only [Act.put, zq4, zq5, zq6, zq1, zq2, zq3]
  refine wpAnyH_take (i := 6) (v := .slice (some ⟨B0, 0, none⟩) 64 64) rfl (by kernel_rfl) (by kernel_rfl) (by kernel_rfl) (fun _ _ _ h => h) (Or.inl ⟨by rfl, ?ya6⟩) (by assumption) ?ra6
  case ya6 => (intro wq hSw; (have s0 := hSw); (try simp only [zq1, zq2, zq3]); go_simp; try with_reducible rfl)
  case ra6 =>
  try simp only [Act.put, zq4, zq5, zq6, zq1, zq2, zq3]
  refine wpAnyH_take (i := 7) (v := .slice (some ⟨B0, 4, none⟩) 60 60) rfl (by kernel_rfl) (by kernel_rfl) (by kernel_rfl) (fun _ _ _ h => h) (Or.inl ⟨by rfl, ?ya7⟩) (by assumption) ?ra7
  case ya7 => (intro wq hSw; (try simp only [zq1, zq2, zq3]); go_simp; try with_reducible rfl)
  case ra7 =>
  try simp only [Act.put, zq4, zq5, zq6, zq1, zq2, zq3]
  refine wpAnyH_ready (rs := [3]) (by kernel_rfl) (by simp) ?_
  refine AllReadyH.cons rfl (fun K hK => ?_) AllReadyH.nil
  go_simp
  refine (number_any _ s0 w.drew (sec_src HS0.out HL0.out.1) HL0.out.2).mono ?_
  rintro e w1 ⟨rfl, rfl⟩
  rw [num_min]
  refine hK.out _ _ q0 (fun _ => ?_)
  clear hK K
  try simp only [Act.put, zq4, zq5, zq6, zq1, zq2, zq3]
  refine wpAnyH_ready (rs := [8]) (by kernel_rfl) (by simp) ?_
  refine AllReadyH.cons rfl (fun K hK => ?_) AllReadyH.nil
  go_simp
  refine (number_any _ (s0.drop 4) w.drew (sec_src_drop HS0.out HL0.out.1 4 60 60 (by omega)) (fun y hy => HL0.out.2 y (List.mem_of_mem_drop hy))).mono ?_
  rintro e w1 ⟨rfl, rfl⟩
  rw [num_min]
  refine hK.out _ _ q0 (fun _ => ?_)
  clear hK K
  try simp only [Act.put, zq4, zq5, zq6, zq1, zq2, zq3]
  obtain ⟨m, hm⟩ : ∃ m, numK s0 4 = m := ⟨_, rfl⟩
  obtain ⟨n, hn⟩ : ∃ n, numK (s0.drop 4) 4 = n := ⟨_, rfl⟩
  rw [hm, hn]
  have HM := Lib.hid hm
  have HN := Lib.hid hn
  clear hm hn
  refine wpAnyH_take (i := 9) (v := .int .i64 (m : Int)) rfl (by kernel_rfl) (by kernel_rfl) (by kernel_rfl) (fun _ _ _ h => h) (Or.inl ⟨by rfl, ?ya9⟩) (by assumption) ?ra9
  case ya9 => (intro wq hSw; (try simp only [zq1, zq2, zq3]); go_simp; try with_reducible rfl)
  case ra9 =>
  try simp only [Act.put, zq4, zq5, zq6, zq1, zq2, zq3]
  refine wpAnyH_take (i := 10) (v := .int .i64 (n : Int)) rfl (by kernel_rfl) (by kernel_rfl) (by kernel_rfl) (fun _ _ _ h => h) (Or.inl ⟨by rfl, ?ya10⟩) (by assumption) ?ra10
  case ya10 => (intro wq hSw; (try simp only [zq1, zq2, zq3]); go_simp; try with_reducible rfl)
  case ra10 =>
  try simp only [Act.put, zq4, zq5, zq6, zq1, zq2, zq3]
  refine wpAnyH_done (by kernel_rfl) ?_ _
  change Exit.then _ _ _ _ w.drew
  clear hHeld
  have tw : Turn (fun _ => False) w w.drew := (Turn.refl _ w).drew
  have hbm : begunM ss = if m = 0 ∨ 24 < n then none else begunK ss m n := by unfold begunM; rw [HG0.out, HM.out, HN.out]
  have HBM := Lib.hid hbm
  clear hbm q0 q0'
  by_cases hm0 : m = 0
  · subst hm0
    go_wp2_with fail
    go_ret2
    rw [HBM.out]
    exact ⟨tw, rfl⟩
  have hm1 : ((m : Int) == 0) = false := by rw [beq_eq_false_iff_ne]; omega
  have hm2 : (m == 0) = false := by rw [beq_eq_false_iff_ne]; omega
  by_cases hn24 : 24 < n
  · have hd1 : decide ((24 : Int) < (n : Int)) = true := by simp; omega
    have hd2 : decide (24 < n) = true := by simp; omega
    go_wp2_with fail
    go_ret2
    rw [HBM.out, if_pos (.inr hn24)]
    exact ⟨tw, rfl⟩
  have hd1 : decide ((24 : Int) < (n : Int)) = false := by simp; omega
  have hd2 : decide (24 < n) = false := by simp; omega
  go_wp2_with fail
  go_loopw [6, 26] (fun ov iv wr => ∃ j : Nat, j ≤ n ∧ iv = .int .i64 (j : Int) ∧ ∃ l, begunK ss m j = some l ∧ ∃ ps, l = ps.map (fun p => (p.1, p.2.2)) ∧ PsOk w wr ov ps ∧ wr.ownsRow w.heap.size 88 2 ov j (flatP ps) ∧ Turn (fun _ => False) w wr) (fun _ iv _ => (n - intOf iv).toNat)
  case atStart => exact ⟨0, Nat.zero_le _, rfl, [], rfl, [], rfl, (fun p hp => by simp at hp), World.ownsRow_nil _ _ _ _, tw⟩
  case round =>
    obtain ⟨j, hj, rfl, l, hbk, ps, hl, hps, ho, tr⟩ := hrel
    have HBJ := Lib.hid hbk
    have HL := Lib.hid hl
    have HPS := Lib.hid hps
    have HO := Lib.hid ho
    clear hbk hl hps ho
    by_cases hlt : j < n
    · obtain ⟨sa, hsa⟩ : ∃ s, ss[1 + 2 * j]? = some s := ⟨_, List.getElem?_eq_getElem (by have := HLS.out; omega)⟩
      obtain ⟨sb, hsb⟩ : ∃ s, ss[2 + 2 * j]? = some s := ⟨_, List.getElem?_eq_getElem (by have := HLS.out; omega)⟩
      have hga : ss.getD (1 + 2 * j) [] = sa := by simp [List.getD, hsa]
      have hgb : ss.getD (2 + 2 * j) [] = sb := by simp [List.getD, hsb]
      obtain ⟨Ba, qa', hrBa⟩ := HSS.out.turn (fun s hs => (H64.out s hs).1) tr (1 + 2 * j) sa hsa
      obtain ⟨Bb, qb', hrBb⟩ := HSS.out.turn (fun s hs => (H64.out s hs).1) tr (2 + 2 * j) sb hsb
      have HLa := Lib.hid (H64.out sa (List.mem_of_getElem? hsa))
      have HLb := Lib.hid (H64.out sb (List.mem_of_getElem? hsb))
      have hpg : pageM ss m j = if numK sa 4 = m ∧ numK sb 4 = m then some (((numK (sa.drop 4) 4 : Nat) : Int), (sa.drop 8).take 32 ++ (sb.drop 8).take 32) else none := by unfold pageM; rw [hga, hgb]
      have HPG := Lib.hid hpg
      clear hsa hsb hga hgb hpg
      have qa : wr.drew.cell? ⟨g, 1 + 2 * j, none⟩ = some (.slice (some ⟨Ba, 0, none⟩) 64 64) := qa'
      have qb : wr.drew.cell? ⟨g, 2 + 2 * j, none⟩ = some (.slice (some ⟨Bb, 0, none⟩) 64 64) := qb'
      have HRA := Lib.hid hrBa
      have HRB := Lib.hid hrBb
      clear hrBa hrBb qa' qb'
      have hd3 : decide ((j : Int) < (n : Int)) = true := by simp; omega
      have hwa : IntKind.i64.wrap (2 * (j : Int)) = 2 * (j : Int) := by rw [IntKind.wrap_i64]; omega
      have hwb : IntKind.i64.wrap (1 + 2 * (j : Int)) = 1 + 2 * (j : Int) := by rw [IntKind.wrap_i64]; omega
      have hwc : IntKind.i64.wrap (2 + 2 * (j : Int)) = 2 + 2 * (j : Int) := by rw [IntKind.wrap_i64]; omega
      have hta : (1 + 2 * (j : Int)).toNat = 1 + 2 * j := by omega
      have htb : (2 + 2 * (j : Int)).toNat = 2 + 2 * j := by omega
      have hra : 0 ≤ 1 + 2 * (j : Int) ∧ 1 + 2 * (j : Int) < 49 := by omega
      have hrb : 0 ≤ 2 + 2 * (j : Int) ∧ 2 + 2 * (j : Int) < 49 := by omega
      go_wp2_with fail
      refine wp_region_held_drew (S := fun w' => w'.cell? ⟨g, 1 + 2 * j, none⟩ = some (.slice (some ⟨Ba, 0, none⟩) 64 64) ∧ w'.cell? ⟨g, 2 + 2 * j, none⟩ = some (.slice (some ⟨Bb, 0, none⟩) 64 64)) (by kernel_rfl) ⟨qa, qb⟩ (fun hHeld => ?_)
      refine wpAnyH_take (i := 0) (v := .slice (some ⟨g, 0, none⟩) 49 c) rfl (by kernel_rfl) (by kernel_rfl) (by kernel_rfl) (fun _ _ _ h => h) (Or.inl ⟨by rfl, ?yb0⟩) (by assumption) ?rb0
      case yb0 => (intro wq hSw; (try simp only [zq1, zq2, zq3]); go_simp; try with_reducible rfl)
      case rb0 =>
      try simp only [Act.put, zq4, zq5, zq6, zq1, zq2, zq3]
      refine wpAnyH_take (i := 1) (v := .int .i64 (j : Int)) rfl (by kernel_rfl) (by kernel_rfl) (by kernel_rfl) (fun _ _ _ h => h) (Or.inl ⟨by rfl, ?yb1⟩) (by assumption) ?rb1
      case yb1 => (intro wq hSw; (try simp only [zq1, zq2, zq3]); go_simp; try with_reducible rfl)
      case rb1 =>
      try simp only [Act.put, zq4, zq5, zq6, zq1, zq2, zq3]
      refine wpAnyH_take (i := 2) (v := .int .i64 (2 * (j : Int))) rfl (by kernel_rfl) (by kernel_rfl) (by kernel_rfl) (fun _ _ _ h => h) (Or.inl ⟨by rfl, ?yb2⟩) (by assumption) ?rb2
      case yb2 => (intro wq hSw; (try simp only [zq1, zq2, zq3]); go_simp; try with_reducible rfl)
      case rb2 =>
      try simp only [Act.put, zq4, zq5, zq6, zq1, zq2, zq3]
      refine wpAnyH_take (i := 3) (v := .int .i64 (1 + 2 * (j : Int))) rfl (by kernel_rfl) (by kernel_rfl) (by kernel_rfl) (fun _ _ _ h => h) (Or.inl ⟨by rfl, ?yb3⟩) (by assumption) ?rb3
      case yb3 => (intro wq hSw; (try simp only [zq1, zq2, zq3]); go_simp; try with_reducible rfl)
      case rb3 =>
      try simp only [Act.put, zq4, zq5, zq6, zq1, zq2, zq3]
      refine wpAnyH_take (i := 4) (v := .pointer (some ⟨g, 1 + 2 * j, none⟩)) rfl (by kernel_rfl) (by kernel_rfl) (by kernel_rfl) (fun _ _ _ h => h) (Or.inl ⟨by rfl, ?yb4⟩) (by assumption) ?rb4
      case yb4 => (intro wq hSw; (try simp only [zq1, zq2, zq3]); go_simp; try with_reducible rfl)
      case rb4 =>
      try simp only [Act.put, zq4, zq5, zq6, zq1, zq2, zq3]
      refine wpAnyH_take (i := 5) (v := .slice (some ⟨Ba, 0, none⟩) 64 64) rfl (by kernel_rfl) (by kernel_rfl) (by kernel_rfl) (fun _ _ _ h => h) (Or.inl ⟨by rfl, ?yb5⟩) (by assumption) ?rb5
      case yb5 => (intro wq hSw; (obtain ⟨s0, s1⟩ := hSw); (try simp only [zq1, zq2, zq3]); go_simp; try with_reducible rfl)
      case rb5 =>
      try simp only [Act.put, zq4, zq5, zq6, zq1, zq2, zq3]
      refine wpAnyH_take (i := 6) (v := .slice (some ⟨g, 0, none⟩) 49 c) rfl (by kernel_rfl) (by kernel_rfl) (by kernel_rfl) (fun _ _ _ h => h) (Or.inl ⟨by rfl, ?yb6⟩) (by assumption) ?rb6
      case yb6 => (intro wq hSw; (try simp only [zq1, zq2, zq3]); go_simp; try with_reducible rfl)
      case rb6 =>
      try simp only [Act.put, zq4, zq5, zq6, zq1, zq2, zq3]
      refine wpAnyH_take (i := 7) (v := .int .i64 (j : Int)) rfl (by kernel_rfl) (by kernel_rfl) (by kernel_rfl) (fun _ _ _ h => h) (Or.inl ⟨by rfl, ?yb7⟩) (by assumption) ?rb7
      case yb7 => (intro wq hSw; (try simp only [zq1, zq2, zq3]); go_simp; try with_reducible rfl)
      case rb7 =>
      try simp only [Act.put, zq4, zq5, zq6, zq1, zq2, zq3]
      refine wpAnyH_take (i := 8) (v := .int .i64 (2 * (j : Int))) rfl (by kernel_rfl) (by kernel_rfl) (by kernel_rfl) (fun _ _ _ h => h) (Or.inl ⟨by rfl, ?yb8⟩) (by assumption) ?rb8
      case yb8 => (intro wq hSw; (try simp only [zq1, zq2, zq3]); go_simp; try with_reducible rfl)
      case rb8 =>
      try simp only [Act.put, zq4, zq5, zq6, zq1, zq2, zq3]
      refine wpAnyH_take (i := 9) (v := .int .i64 (2 + 2 * (j : Int))) rfl (by kernel_rfl) (by kernel_rfl) (by kernel_rfl) (fun _ _ _ h => h) (Or.inl ⟨by rfl, ?yb9⟩) (by assumption) ?rb9
      case yb9 => (intro wq hSw; (try simp only [zq1, zq2, zq3]); go_simp; try with_reducible rfl)
      case rb9 =>
      try simp only [Act.put, zq4, zq5, zq6, zq1, zq2, zq3]
      refine wpAnyH_take (i := 10) (v := .pointer (some ⟨g, 2 + 2 * j, none⟩)) rfl (by kernel_rfl) (by kernel_rfl) (by kernel_rfl) (fun _ _ _ h => h) (Or.inl ⟨by rfl, ?yb10⟩) (by assumption) ?rb10
      case yb10 => (intro wq hSw; (try simp only [zq1, zq2, zq3]); go_simp; try with_reducible rfl)
      case rb10 =>
      try simp only [Act.put, zq4, zq5, zq6, zq1, zq2, zq3]
      refine wpAnyH_take (i := 11) (v := .slice (some ⟨Bb, 0, none⟩) 64 64) rfl (by kernel_rfl) (by kernel_rfl) (by kernel_rfl) (fun _ _ _ h => h) (Or.inl ⟨by rfl, ?yb11⟩) (by assumption) ?rb11
      case yb11 => (intro wq hSw; (obtain ⟨s0, s1⟩ := hSw); (try simp only [zq1, zq2, zq3]); go_simp; try with_reducible rfl)
      case rb11 =>
      try simp only [Act.put, zq4, zq5, zq6, zq1, zq2, zq3]
      refine wpAnyH_take (i := 12) (v := .slice (some ⟨Ba, 0, none⟩) 64 64) rfl (by kernel_rfl) (by kernel_rfl) (by kernel_rfl) (fun _ _ _ h => h) (Or.inl ⟨by rfl, ?yb12⟩) (by assumption) ?rb12
      case yb12 => (intro wq hSw; (try simp only [zq1, zq2, zq3]); go_simp; try with_reducible rfl)
      case rb12 =>
      try simp only [Act.put, zq4, zq5, zq6, zq1, zq2, zq3]
      refine wpAnyH_take (i := 13) (v := .slice (some ⟨Bb, 0, none⟩) 64 64) rfl (by kernel_rfl) (by kernel_rfl) (by kernel_rfl) (fun _ _ _ h => h) (Or.inl ⟨by rfl, ?yb13⟩) (by assumption) ?rb13
      case yb13 => (intro wq hSw; (try simp only [zq1, zq2, zq3]); go_simp; try with_reducible rfl)
      case rb13 =>
      try simp only [Act.put, zq4, zq5, zq6, zq1, zq2, zq3]
      refine wpAnyH_done (by kernel_rfl) ?_ _
      change Exit.then _ _ _ _ wr.drew
      clear hHeld
      clear hwa hwb hwc hta htb hra hrb qa qb
      have tq : Turn (fun _ => False) wr wr.drew := (Turn.refl _ wr).drew
      have HSAd := Lib.hid (rangeAt_turn HRA.out tq id)
      have HSBd := Lib.hid (rangeAt_turn HRB.out tq id)
      go_wp2_with fail
      refine (number_any _ sa wr.drew (sec_src HSAd.out HLa.out.1) HLa.out.2).mono ?_
      rintro e w1 ⟨rfl, hw1⟩
      subst hw1
      rw [num_min]
      by_cases hna : numK sa 4 = m
      · rw [hna]
        go_wp2_with fail
        refine (number_any _ sb wr.drew (sec_src HSBd.out HLb.out.1) HLb.out.2).mono ?_
        rintro e w1 ⟨rfl, hw1⟩
        subst hw1
        rw [num_min]
        by_cases hnb : numK sb 4 = m
        · rw [hnb]
          obtain ⟨x1, hx1⟩ : ∃ x, numK (sa.drop 4) 4 = x := ⟨_, rfl⟩
          have HX1 := Lib.hid hx1
          have hbk : begunK ss m (j + 1) = some (l ++ [((x1 : Int), (sa.drop 8).take 32 ++ (sb.drop 8).take 32)]) := by
            rw [begunK, HBJ.out, HPG.out, if_pos ⟨hna, hnb⟩, hx1]; rfl
          have HBK := Lib.hid hbk
          clear hbk hx1 hna hnb
          have tq2' : Turn (fun _ => False) wr wr.drew.drew := tq.drew
          obtain ⟨wq, hwq⟩ : ∃ wq, wr.drew.drew = wq := ⟨_, rfl⟩
          rw [hwq] at tq2'
          have HSAq := Lib.hid (rangeAt_turn HRA.out tq2' id)
          have hn2 := heap_alloc_new wq (.cells #[.slice (some ⟨Ba, 8, none⟩) 32 56, .slice (some ⟨Bb, 8, none⟩) 32 56] 29)
          have t12 : Turn (fun _ => False) wr (wq.alloc (.cells #[.slice (some ⟨Ba, 8, none⟩) 32 56, .slice (some ⟨Bb, 8, none⟩) 32 56] 29)) := tq2'.alloc _
          have k1 : (wq.alloc (.cells #[.slice (some ⟨Ba, 8, none⟩) 32 56, .slice (some ⟨Bb, 8, none⟩) 32 56] 29)).cell? ⟨wq.heap.size, 0, none⟩ = some (.slice (some ⟨Ba, 8, none⟩) 32 56) := cell_of_row _ _ 0 _ 29 (0, 0) hn2
          have k2 : (wq.alloc (.cells #[.slice (some ⟨Ba, 8, none⟩) 32 56, .slice (some ⟨Bb, 8, none⟩) 32 56] 29)).cell? ⟨wq.heap.size, 1, none⟩ = some (.slice (some ⟨Bb, 8, none⟩) 32 56) := cell_of_row _ _ 1 _ 29 (0, 0) hn2
          obtain ⟨w2, hw2⟩ : ∃ w2, wq.alloc (.cells #[.slice (some ⟨Ba, 8, none⟩) 32 56, .slice (some ⟨Bb, 8, none⟩) 32 56] 29) = w2 := ⟨_, rfl⟩
          rw [hw2] at t12 k1 k2
          clear hn2
          have HSA2 := Lib.hid (rangeAt_turn HRA.out t12 id)
          have HSB2 := Lib.hid (rangeAt_turn HRB.out t12 id)
          go_wp2_with fail
          refine wp_region_held_drew (S := fun _ => True) (by kernel_rfl) trivial (fun hHeld => ?_)
          refine wpAnyH_take (i := 0) (v := u6) rfl (by kernel_rfl) (by kernel_rfl) (by kernel_rfl) (fun _ _ _ h => h) (Or.inl ⟨by rfl, ?yd0⟩) (by assumption) ?rd0
          case yd0 => (intro wq hSw; (try simp only [zq1, zq2, zq3]); go_simp; try with_reducible rfl)
          case rd0 =>
          try simp only [Act.put, zq4, zq5, zq6, zq1, zq2, zq3]
          refine wpAnyH_take (i := 1) (v := .slice (some ⟨Ba, 0, none⟩) 64 64) rfl (by kernel_rfl) (by kernel_rfl) (by kernel_rfl) (fun _ _ _ h => h) (Or.inl ⟨by rfl, ?yd1⟩) (by assumption) ?rd1
          case yd1 => (intro wq hSw; (try simp only [zq1, zq2, zq3]); go_simp; try with_reducible rfl)
          case rd1 =>
          try simp only [Act.put, zq4, zq5, zq6, zq1, zq2, zq3]
          refine wpAnyH_take (i := 2) (v := .slice (some ⟨Ba, 4, none⟩) 60 60) rfl (by kernel_rfl) (by kernel_rfl) (by kernel_rfl) (fun _ _ _ h => h) (Or.inl ⟨by rfl, ?yd2⟩) (by assumption) ?rd2
          case yd2 => (intro wq hSw; (try simp only [zq1, zq2, zq3]); go_simp; try with_reducible rfl)
          case rd2 =>
          try simp only [Act.put, zq4, zq5, zq6, zq1, zq2, zq3]
          refine wpAnyH_take (i := 4) (v := .slice (some ⟨Ba, 0, none⟩) 64 64) rfl (by kernel_rfl) (by kernel_rfl) (by kernel_rfl) (fun _ _ _ h => h) (Or.inl ⟨by rfl, ?yd4⟩) (by assumption) ?rd4
          case yd4 => (intro wq hSw; (try simp only [zq1, zq2, zq3]); go_simp; try with_reducible rfl)
          case rd4 =>
          try simp only [Act.put, zq4, zq5, zq6, zq1, zq2, zq3]
          refine wpAnyH_take (i := 5) (v := .slice (some ⟨Ba, 8, none⟩) 32 56) rfl (by kernel_rfl) (by kernel_rfl) (by kernel_rfl) (fun _ _ _ h => h) (Or.inl ⟨by rfl, ?yd5⟩) (by assumption) ?rd5
          case yd5 => (intro wq hSw; (try simp only [zq1, zq2, zq3]); go_simp; try with_reducible rfl)
          case rd5 =>
          try simp only [Act.put, zq4, zq5, zq6, zq1, zq2, zq3]
          refine wpAnyH_take (i := 6) (v := .slice (some ⟨Bb, 0, none⟩) 64 64) rfl (by kernel_rfl) (by kernel_rfl) (by kernel_rfl) (fun _ _ _ h => h) (Or.inl ⟨by rfl, ?yd6⟩) (by assumption) ?rd6
          case yd6 => (intro wq hSw; (try simp only [zq1, zq2, zq3]); go_simp; try with_reducible rfl)
          case rd6 =>
          try simp only [Act.put, zq4, zq5, zq6, zq1, zq2, zq3]
          refine wpAnyH_take (i := 7) (v := .slice (some ⟨Bb, 8, none⟩) 32 56) rfl (by kernel_rfl) (by kernel_rfl) (by kernel_rfl) (fun _ _ _ h => h) (Or.inl ⟨by rfl, ?yd7⟩) (by assumption) ?rd7
          case yd7 => (intro wq hSw; (try simp only [zq1, zq2, zq3]); go_simp; try with_reducible rfl)
          case rd7 =>
          try simp only [Act.put, zq4, zq5, zq6, zq1, zq2, zq3]
          refine wpAnyH_ready (rs := [3, 8]) (by kernel_rfl) (by simp) ?_
          refine AllReadyH.cons rfl (fun K hK => ?_) (AllReadyH.cons rfl (fun K hK => ?_) AllReadyH.nil)
          · go_simp
            refine (number_any _ (sa.drop 4) _ (sec_src_drop HSAq.out HLa.out.1 4 60 60 (by omega)) (fun y hy => HLa.out.2 y (List.mem_of_mem_drop hy))).mono ?_
            rintro e w1 ⟨rfl, hw1⟩
            rw [num_min, HX1.out, hw1]
            clear hw1
            refine hK.out _ _ trivial (fun _ => ?_)
            clear hK K
            try simp only [Act.put, zq4, zq5, zq6, zq1, zq2, zq3]
            refine wpAnyH_ready (rs := [8]) (by kernel_rfl) (by simp) ?_
            refine AllReadyH.cons rfl (fun K hK => ?_) AllReadyH.nil
            go_simp
            
            refine hK.out _ _ trivial (fun _ => ?_)
            clear hK K
            try simp only [Act.put, zq4, zq5, zq6, zq1, zq2, zq3]
            refine wpAnyH_ready (rs := [9]) (by kernel_rfl) (by simp) ?_
            refine AllReadyH.cons rfl (fun K hK => ?_) AllReadyH.nil
            go_simp
            refine (concat_at w2 wq.heap.size 2 (by omega) Ba 8 56 Bb 8 56 ((sa.drop 8).take 32) ((sb.drop 8).take 32) 32 32 (by simp [HLa.out.1]) (by simp [HLb.out.1]) k1 k2 (sec_cells_mid HSA2.out HLa.out.1) (sec_cells_mid HSB2.out HLb.out.1) (by omega) (by omega)).mono ?_
            rintro e w3 ⟨v3, rfl, hrd3, hown3, t3⟩
            obtain ⟨g3, o3, c3, hv3, hc3⟩ := reads_pos hrd3 (by simp [HLa.out.1, HLb.out.1])
            have hl3 : ((sa.drop 8).take 32 ++ (sb.drop 8).take 32).length = 64 := by simp [HLa.out.1, HLb.out.1]
            rw [hl3] at hv3
            subst hv3
            refine hK.out _ _ trivial (fun _ => ?_)
            clear hK K
            try simp only [Act.put, zq4, zq5, zq6, zq1, zq2, zq3]
            refine wpAnyH_take (i := 10) (v := .agg #[.int .i64 (x1 : Int), .slice (some ⟨g3, o3, none⟩) 64 c3]) rfl (by kernel_rfl) (by kernel_rfl) (by kernel_rfl) (fun _ _ _ h => h) (Or.inl ⟨by rfl, ?yp10⟩) (by assumption) ?rp10
            case yp10 => (intro wq hSw; (try simp only [zq1, zq2, zq3]); go_simp; try with_reducible rfl)
            case rp10 =>
            try simp only [Act.put, zq4, zq5, zq6, zq1, zq2, zq3]
            refine wpAnyH_ready (rs := [11]) (by kernel_rfl) (by simp) ?_
            refine AllReadyH.cons rfl (fun K hK => ?_) AllReadyH.nil
            go_simp
            
            refine hK.out _ _ trivial (fun _ => ?_)
            clear hK K
            try simp only [Act.put, zq4, zq5, zq6, zq1, zq2, zq3]
            have t4 : Turn (fun _ => False) w3 (w3.alloc (.cells #[.int .i64 (x1 : Int), .slice (some ⟨g3, o3, none⟩) 64 c3] 88)) := (Turn.refl _ w3).alloc _
            have hn4 := heap_alloc_new w3 (.cells #[.int .i64 (x1 : Int), .slice (some ⟨g3, o3, none⟩) 64 c3] 88)
            have hnews : ∀ (k : Nat) u, [Value.int .i64 (x1 : Int), .slice (some ⟨g3, o3, none⟩) 64 c3][k]? = some u → (w3.alloc (.cells #[.int .i64 (x1 : Int), .slice (some ⟨g3, o3, none⟩) 64 c3] 88)).cell? ((⟨w3.heap.size, 0, none⟩ : Addr).add k) = some u := by
              intro k u hk
              rw [Addr.add_mid, Nat.zero_add, cell_of_row _ _ _ _ 88 (0, 0) hn4]
              simpa using hk
            have hsz4 : (w3.alloc (.cells #[.int .i64 (x1 : Int), .slice (some ⟨g3, o3, none⟩) 64 c3] 88)).heap.size = w3.heap.size + 1 := by simp
            obtain ⟨w4, hw4⟩ : ∃ w4, w3.alloc (.cells #[.int .i64 (x1 : Int), .slice (some ⟨g3, o3, none⟩) 64 c3] 88) = w4 := ⟨_, rfl⟩
            rw [hw4] at t4 hnews hsz4 ⊢
            clear hw4 hn4
            have T24 := (t12.trans t3 (fun _ _ => id)).trans t4 (fun _ _ => id)
            have ho4 := T24.owns HO.out (fun _ _ => id)
            obtain ⟨v5, w5, hap, ho5, hg5, hnil5⟩ := run_append_own (P := Tryz.prog) w4 w.heap.size 89 89 88 i0 _ 2 32 Tryz.underlying89 hi hz0 hz1 hz2 rfl (by decide) u6 j _ ho4 ⟨w3.heap.size, 0, none⟩ 1 1 _ rfl hnews (fun u hu => by simp at hu; rcases hu with rfl | rfl <;> rfl) (by unfold maxLen; omega) (by omega) (by have h1 := tr.size; have h2 := T24.size; omega)
            have hf5 := run_append_where (P := Tryz.prog) w4 89 89 88 i0 _ 2 32 Tryz.underlying89 hi hz0 hz1 hz2 rfl (by decide) w.heap.size u6 j _ ho4 ⟨w3.heap.size, 0, none⟩ 1 1 _ rfl hnews (fun u hu => by simp at hu; rcases hu with rfl | rfl <;> rfl) (by unfold maxLen; omega) (by omega) v5 w5 hap
            refine wpAnyH_ready (rs := [12]) (by kernel_rfl) (by simp) ?_
            refine AllReadyH.cons rfl (fun K hK => ?_) AllReadyH.nil
            rw [if_pos (by rfl)]
            refine oper_exec _ _ (exec_append _ _ (.tmp 51) (.tmp 62) 89 rfl _ _ _ _ _ rfl rfl hap) ?_
            refine hK.out _ _ trivial (fun _ => ?_)
            clear hK K
            try simp only [Act.put, zq4, zq5, zq6, zq1, zq2, zq3]
            obtain ⟨a5, n5, c5, rfl⟩ : ∃ a n c, v5 = .slice a n c := by rcases ho5.2 with ⟨h, _⟩ | ⟨_, _, _, h, _⟩ <;> exact ⟨_, _, _, h⟩
            refine wpAnyH_take (i := 13) (v := .slice a5 n5 c5) rfl (by kernel_rfl) (by kernel_rfl) (by kernel_rfl) (fun _ _ _ h => h) (Or.inl ⟨by rfl, ?yp13⟩) (by assumption) ?rp13
            case yp13 => (intro wq hSw; (try simp only [zq1, zq2, zq3]); go_simp; try with_reducible rfl)
            case rp13 =>
            try simp only [Act.put, zq4, zq5, zq6, zq1, zq2, zq3]
            refine wpAnyH_done (by kernel_rfl) ?_ _
            change Exit.inBlock _ _ _ _ w5
            have t5 : Turn (fun q => u6.ownBlock = some q) w4 w5 := (Turn.refl (fun q => u6.ownBlock = some q) w4).grown hg5 (fun k h _ => h)
            have HPOST := Lib.hid (page_step HL.out HPS.out HO.out tr (T24) t5 hf5 ho5 (reads_turn4 hrd3 t4) (fun k hk => by have := hown3 k hk; have h2 := t12.size; omega) (fun k hk => by have hq : g3 < w3.heap.size := World.block_lt_of_cell? w3 _ (hc3 0 (by rw [hl3]; omega)); simp [Value.ownBlock] at hk; subst hk; have := t4.size; omega))
            clear hHeld ho5 hg5 hf5 hap ho4 hnews hrd3 hown3 hc3
            go_wp2_with fail
            go_roundw
            case rel =>
              obtain ⟨T5, ps', hl', hps', ho'⟩ := HPOST.out
              refine ⟨j + 1, by omega, by go_num, _, HBK.out, ps', hl', hps', ho', T5⟩
            case measure => simp [intOf]; omega
          · go_simp
            refine hK.out _ _ trivial (fun _ => ?_)
            clear hK K
            try simp only [Act.put, zq4, zq5, zq6, zq1, zq2, zq3]
            refine wpAnyH_ready (rs := [3]) (by kernel_rfl) (by simp) ?_
            refine AllReadyH.cons rfl (fun K hK => ?_) AllReadyH.nil
            go_simp
            refine (number_any _ (sa.drop 4) _ (sec_src_drop HSA2.out HLa.out.1 4 60 60 (by omega)) (fun y hy => HLa.out.2 y (List.mem_of_mem_drop hy))).mono ?_
            rintro e w1 ⟨rfl, hw1⟩
            rw [num_min, HX1.out, hw1]
            clear hw1
            refine hK.out _ _ trivial (fun _ => ?_)
            clear hK K
            try simp only [Act.put, zq4, zq5, zq6, zq1, zq2, zq3]
            refine wpAnyH_ready (rs := [9]) (by kernel_rfl) (by simp) ?_
            refine AllReadyH.cons rfl (fun K hK => ?_) AllReadyH.nil
            go_simp
            refine (concat_at w2 wq.heap.size 2 (by omega) Ba 8 56 Bb 8 56 ((sa.drop 8).take 32) ((sb.drop 8).take 32) 32 32 (by simp [HLa.out.1]) (by simp [HLb.out.1]) k1 k2 (sec_cells_mid HSA2.out HLa.out.1) (sec_cells_mid HSB2.out HLb.out.1) (by omega) (by omega)).mono ?_
            rintro e w3 ⟨v3, rfl, hrd3, hown3, t3⟩
            obtain ⟨g3, o3, c3, hv3, hc3⟩ := reads_pos hrd3 (by simp [HLa.out.1, HLb.out.1])
            have hl3 : ((sa.drop 8).take 32 ++ (sb.drop 8).take 32).length = 64 := by simp [HLa.out.1, HLb.out.1]
            rw [hl3] at hv3
            subst hv3
            refine hK.out _ _ trivial (fun _ => ?_)
            clear hK K
            try simp only [Act.put, zq4, zq5, zq6, zq1, zq2, zq3]
            refine wpAnyH_take (i := 10) (v := .agg #[.int .i64 (x1 : Int), .slice (some ⟨g3, o3, none⟩) 64 c3]) rfl (by kernel_rfl) (by kernel_rfl) (by kernel_rfl) (fun _ _ _ h => h) (Or.inl ⟨by rfl, ?yr10⟩) (by assumption) ?rr10
            case yr10 => (intro wq hSw; (try simp only [zq1, zq2, zq3]); go_simp; try with_reducible rfl)
            case rr10 =>
            try simp only [Act.put, zq4, zq5, zq6, zq1, zq2, zq3]
            refine wpAnyH_ready (rs := [11]) (by kernel_rfl) (by simp) ?_
            refine AllReadyH.cons rfl (fun K hK => ?_) AllReadyH.nil
            go_simp
            
            refine hK.out _ _ trivial (fun _ => ?_)
            clear hK K
            try simp only [Act.put, zq4, zq5, zq6, zq1, zq2, zq3]
            have t4 : Turn (fun _ => False) w3 (w3.alloc (.cells #[.int .i64 (x1 : Int), .slice (some ⟨g3, o3, none⟩) 64 c3] 88)) := (Turn.refl _ w3).alloc _
            have hn4 := heap_alloc_new w3 (.cells #[.int .i64 (x1 : Int), .slice (some ⟨g3, o3, none⟩) 64 c3] 88)
            have hnews : ∀ (k : Nat) u, [Value.int .i64 (x1 : Int), .slice (some ⟨g3, o3, none⟩) 64 c3][k]? = some u → (w3.alloc (.cells #[.int .i64 (x1 : Int), .slice (some ⟨g3, o3, none⟩) 64 c3] 88)).cell? ((⟨w3.heap.size, 0, none⟩ : Addr).add k) = some u := by
              intro k u hk
              rw [Addr.add_mid, Nat.zero_add, cell_of_row _ _ _ _ 88 (0, 0) hn4]
              simpa using hk
            have hsz4 : (w3.alloc (.cells #[.int .i64 (x1 : Int), .slice (some ⟨g3, o3, none⟩) 64 c3] 88)).heap.size = w3.heap.size + 1 := by simp
            obtain ⟨w4, hw4⟩ : ∃ w4, w3.alloc (.cells #[.int .i64 (x1 : Int), .slice (some ⟨g3, o3, none⟩) 64 c3] 88) = w4 := ⟨_, rfl⟩
            rw [hw4] at t4 hnews hsz4 ⊢
            clear hw4 hn4
            have T24 := (t12.trans t3 (fun _ _ => id)).trans t4 (fun _ _ => id)
            have ho4 := T24.owns HO.out (fun _ _ => id)
            obtain ⟨v5, w5, hap, ho5, hg5, hnil5⟩ := run_append_own (P := Tryz.prog) w4 w.heap.size 89 89 88 i0 _ 2 32 Tryz.underlying89 hi hz0 hz1 hz2 rfl (by decide) u6 j _ ho4 ⟨w3.heap.size, 0, none⟩ 1 1 _ rfl hnews (fun u hu => by simp at hu; rcases hu with rfl | rfl <;> rfl) (by unfold maxLen; omega) (by omega) (by have h1 := tr.size; have h2 := T24.size; omega)
            have hf5 := run_append_where (P := Tryz.prog) w4 89 89 88 i0 _ 2 32 Tryz.underlying89 hi hz0 hz1 hz2 rfl (by decide) w.heap.size u6 j _ ho4 ⟨w3.heap.size, 0, none⟩ 1 1 _ rfl hnews (fun u hu => by simp at hu; rcases hu with rfl | rfl <;> rfl) (by unfold maxLen; omega) (by omega) v5 w5 hap
            refine wpAnyH_ready (rs := [12]) (by kernel_rfl) (by simp) ?_
            refine AllReadyH.cons rfl (fun K hK => ?_) AllReadyH.nil
            rw [if_pos (by rfl)]
            refine oper_exec _ _ (exec_append _ _ (.tmp 51) (.tmp 62) 89 rfl _ _ _ _ _ rfl rfl hap) ?_
            refine hK.out _ _ trivial (fun _ => ?_)
            clear hK K
            try simp only [Act.put, zq4, zq5, zq6, zq1, zq2, zq3]
            obtain ⟨a5, n5, c5, rfl⟩ : ∃ a n c, v5 = .slice a n c := by rcases ho5.2 with ⟨h, _⟩ | ⟨_, _, _, h, _⟩ <;> exact ⟨_, _, _, h⟩
            refine wpAnyH_take (i := 13) (v := .slice a5 n5 c5) rfl (by kernel_rfl) (by kernel_rfl) (by kernel_rfl) (fun _ _ _ h => h) (Or.inl ⟨by rfl, ?yr13⟩) (by assumption) ?rr13
            case yr13 => (intro wq hSw; (try simp only [zq1, zq2, zq3]); go_simp; try with_reducible rfl)
            case rr13 =>
            try simp only [Act.put, zq4, zq5, zq6, zq1, zq2, zq3]
            refine wpAnyH_done (by kernel_rfl) ?_ _
            change Exit.inBlock _ _ _ _ w5
            have t5 : Turn (fun q => u6.ownBlock = some q) w4 w5 := (Turn.refl (fun q => u6.ownBlock = some q) w4).grown hg5 (fun k h _ => h)
            have HPOST := Lib.hid (page_step HL.out HPS.out HO.out tr (T24) t5 hf5 ho5 (reads_turn4 hrd3 t4) (fun k hk => by have := hown3 k hk; have h2 := t12.size; omega) (fun k hk => by have hq : g3 < w3.heap.size := World.block_lt_of_cell? w3 _ (hc3 0 (by rw [hl3]; omega)); simp [Value.ownBlock] at hk; subst hk; have := t4.size; omega))
            clear hHeld ho5 hg5 hf5 hap ho4 hnews hrd3 hown3 hc3
            go_wp2_with fail
            go_roundw
            case rel =>
              obtain ⟨T5, ps', hl', hps', ho'⟩ := HPOST.out
              refine ⟨j + 1, by omega, by go_num, _, HBK.out, ps', hl', hps', ho', T5⟩
            case measure => simp [intOf]; omega
        · have hne : ((numK sb 4 : Nat) : Int) ≠ (m : Int) := by omega
          have hne1 : (((numK sb 4 : Nat) : Int) == (m : Int)) = false := by rw [beq_eq_false_iff_ne]; exact hne
          have hne2 : (numK sb 4 == m) = false := by rw [beq_eq_false_iff_ne]; exact hnb
          have hfin : begunM ss = none := by rw [HBM.out, if_neg (by omega)]; exact begunK_none ss m j n hlt (by rw [HPG.out, if_neg (fun h => hnb h.2)])
          have HFN := Lib.hid hfin
          clear hfin hna
          go_wp2_with fail
          go_ret2
          rw [HFN.out]
          exact ⟨tr.drew, rfl⟩
      · have hne : ((numK sa 4 : Nat) : Int) ≠ (m : Int) := by omega
        have hne1 : (((numK sa 4 : Nat) : Int) == (m : Int)) = false := by rw [beq_eq_false_iff_ne]; exact hne
        have hne2 : (numK sa 4 == m) = false := by rw [beq_eq_false_iff_ne]; exact hna
        have hfin : begunM ss = none := by rw [HBM.out, if_neg (by omega)]; exact begunK_none ss m j n hlt (by rw [HPG.out, if_neg (fun h => hna h.1)])
        have HFN := Lib.hid hfin
        clear hfin
        go_wp2_with fail
        go_ret2
        rw [HFN.out]
        exact ⟨tr.drew, rfl⟩
    · obtain rfl : j = n := by omega
      have hfin : begunM ss = some l := by rw [HBM.out, if_neg (by omega)]; exact HBJ.out
      have HFN := Lib.hid hfin
      clear hfin
      go_wp2_with fail
      go_ret2
      rw [HFN.out]
      exact ⟨tr, u6, rfl, pages_of HL.out HPS.out HO.out⟩
end Go.Proofs.YtboofamenpcnhaaGreatDoor
