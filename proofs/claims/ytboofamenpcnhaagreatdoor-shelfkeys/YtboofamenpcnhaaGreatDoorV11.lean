/- Own texts, packed: Q21. -/
import Derived.Test.YtboofamenpcnhaaGreatDoorV04
import Derived.Test.YtboofamenpcnhaaGreatDoorV10
import Derived.Test.YtboofamenpcnhaaGreatDoorV00
namespace Go.Proofs.YtboofamenpcnhaaGreatDoor
set_option maxRecDepth 100000
open Go.RowKit
set_option linter.unusedVariables false
set_option linter.unusedSimpArgs false
def Eight.vals (s : Eight) : List Value := [.int .u32 s.a, .int .u32 s.b, .int .u32 s.c, .int .u32 s.d, .int .u32 s.e, .int .u32 s.f, .int .u32 s.g, .int .u32 s.h]
def plusE (s t : Eight) : Eight := ⟨add32 s.a t.a, add32 s.b t.b, add32 s.c t.c, add32 s.d t.d, add32 s.e t.e, add32 s.f t.f, add32 s.g t.g, add32 s.h t.h⟩
/-- The sum behind one block more. -/
def stepE (ks : List Int) (s : Eight) (blk : List Int) : Eight := plusE s (rnds ks (sched blk 48) s 64)
/-- The sum behind n blocks. -/
def stirN (ks : List Int) (s : Eight) (ps : List Int) : Nat → Eight
  | 0 => s
  | n + 1 => stepE ks (stirN ks s ps n) ((ps.drop (64 * n)).take 64)
theorem vals_one (s : Eight) : s.vals.toArray.all (·.oneCell') = true := by simp [Eight.vals, Value.oneCell']
/-- The roots stand in the second variable. -/
def Roots (w : World) (ks : List Int) : Prop := ks.length = 64 ∧ 2 < w.heap.size ∧ ∀ i, i < 64 → w.cell? ⟨2, i, none⟩ = some (.int .u32 (ks.getD i 0))
theorem Roots.turn {w w' : World} {ks : List Int} (h : Roots w ks) (ht : Turn (fun _ => False) w w') : Roots w' ks :=
  ⟨h.1, Nat.lt_of_lt_of_le h.2.1 ht.size, fun i hi => (ht.cell (p := ⟨2, i, none⟩) h.2.1 id).trans (h.2.2 i hi)⟩
theorem stir_any (s : Eight) (ws ks : List Int) (w : World) (hl : ws.length = 64) (hr : Roots w ks) :
    Calls Tryz.prog 80 #[.agg s.vals.toArray, .agg (ws.map (Value.int .u32)).toArray] w fun e w' => e = .returned (.agg (plusE s (rnds ks ws s 64)).vals.toArray) ∧ Turn (fun _ => False) w w' :=
  (stir_try _ s.a s.b s.c s.d s.e s.f s.g s.h ws ks w rfl hl hr.1 hr.2.2 hr.2.1).mono fun e w' h => h
theorem two_sums (w W : World) (s : Eight) (h : (w.alloc (.cells s.vals.toArray 114)).alloc (.cells #[.int .u32 0, .int .u32 0, .int .u32 0, .int .u32 0, .int .u32 0, .int .u32 0, .int .u32 0, .int .u32 0] 114) = W) :
    W.rangeAt w.heap.size 0 s.vals ∧ W.there w.heap.size 0 8 ∧ W.there (w.heap.size + 1) 0 8 ∧ Turn (fun _ => False) w W := by
  subst h
  have h1 := heap_alloc2_old w (.cells s.vals.toArray 114) (.cells #[.int .u32 0, .int .u32 0, .int .u32 0, .int .u32 0, .int .u32 0, .int .u32 0, .int .u32 0, .int .u32 0] 114)
  have h2 := heap_alloc2_new w (.cells s.vals.toArray 114) (.cells #[.int .u32 0, .int .u32 0, .int .u32 0, .int .u32 0, .int .u32 0, .int .u32 0, .int .u32 0, .int .u32 0] 114)
  refine ⟨fun j v hv => ?_, fun j hj => ⟨?_, frozen_of_row _ _ _ _ 114 h1⟩, fun j hj => ⟨?_, frozen_of_row _ _ _ _ 114 h2⟩, ((Turn.refl _ w).alloc _).alloc _⟩
  · rw [Nat.zero_add, cell_of_row _ _ _ _ 114 (0, 0) h1]; simpa using hv
  · rw [Nat.zero_add, cell_of_row _ _ _ _ 114 (0, 0) h1]; simp [Eight.vals]; omega
  · rw [Nat.zero_add, cell_of_row _ _ _ _ 114 (0, 0) h2]; simp; omega
theorem reads_form {w : World} {v : Value} {xs : List Int} (h : Reads w v xs) (h0 : 0 < xs.length) : ∃ g o cap, v = .slice (some ⟨g, o, none⟩) xs.length cap ∧ xs.length ≤ cap ∧ ∀ i, i < xs.length → w.cell? ⟨g, o + i, none⟩ = some (.int .u8 (xs.getD i 0)) := by
  rcases h with ⟨_, rfl⟩ | h
  · simp at h0
  · exact h
theorem reads_slice {w : World} {v : Value} {xs : List Int} (h : Reads w v xs) : ∃ a c, v = .slice a xs.length c := by
  rcases h with ⟨rfl, rfl⟩ | ⟨g, o, cap, rfl, _⟩
  · exact ⟨_, _, rfl⟩
  · exact ⟨_, _, rfl⟩
theorem reads_drop {w : World} {g o cap k : Nat} {xs : List Int} {o' : Nat} (hc : xs.length ≤ cap) (hk : k ≤ xs.length) (ho : k < xs.length → o' = o + k)
    (hcell : ∀ i, i < xs.length → w.cell? ⟨g, o + i, none⟩ = some (.int .u8 (xs.getD i 0))) : Reads w (.slice (some ⟨g, o', none⟩) (xs.length - k) (cap - k)) (xs.drop k) := by
  refine .inr ⟨g, o', cap - k, by simp, by simp only [List.length_drop]; omega, fun i hi => ?_⟩
  simp only [List.length_drop] at hi
  rw [show o' + i = o + (k + i) by have := ho (by omega); omega, hcell (k + i) (by omega)]
  simp [List.getD, List.getElem?_drop]
theorem next_reads {w9 : World} {g o l c n : Nat} {ps : List Int} (hD : (ps.drop (64 * n)).length = l) (hcap : l ≤ c) (hlt : 64 ≤ l)
    (hC : ∀ i, i < (ps.drop (64 * n)).length → w9.cell? ⟨g, o + i, none⟩ = some (.int .u8 ((ps.drop (64 * n)).getD i 0))) :
    Reads w9 (.slice (if c = 64 then some ⟨g, o, none⟩ else some ⟨g, o + 64, none⟩) (l - 64) (c - 64)) (ps.drop (64 * (n + 1))) := by
  have e1 : ps.drop (64 * (n + 1)) = (ps.drop (64 * n)).drop 64 := by rw [List.drop_drop]; congr 1
  rw [e1, ← hD]
  split
  · exact reads_drop (by omega) (by omega) (fun h => by omega) hC
  · exact reads_drop (by omega) (by omega) (fun h => rfl) hC
def sliceLen : Value → Nat
  | .slice _ l _ => l
  | _ => 0
def AllPost (w : World) (s : Eight) (e : Ending) (w' : World) : Prop := e = .returned (.agg s.vals.toArray) ∧ Turn (fun _ => False) w w'
set_option maxHeartbeats 1000000 in
set_option maxRecDepth 100000 in
theorem all_any (s : Eight) (v : Value) (ps ks : List Int) (w : World) (hv : Reads w v ps) (hl : ps.length ≤ 70000000000000) (hr : Roots w ks) :
    Calls Tryz.prog 59 #[.agg s.vals.toArray, v] w (AllPost w (stirN ks s ps (ps.length / 64))) := by
  have HV := Lib.hid hv
  have HR := Lib.hid hr
  clear hr
  go_enter Tryz.func59, Tryz.ntmps59
  go_wp2_with fail
  generalize hW : World.alloc (World.alloc w _) _ = W
  obtain ⟨q1, q2, q3, q4⟩ := two_sums w W s hW
  have hv0 := hv.turn q4 (fun _ _ => id)
  clear hW
  go_loopw [1] (fun pv wr => ∃ (n : Nat), 64 * n ≤ ps.length ∧ Reads wr pv (ps.drop (64 * n)) ∧ wr.rangeAt w.heap.size 0 (stirN ks s ps n).vals ∧ wr.there w.heap.size 0 8 ∧ wr.there (w.heap.size + 1) 0 8 ∧ Turn (fun _ => False) w wr ∧ (∃ l c a, pv = .slice a l c ∧ l = ps.length - 64 * n ∧ ∀ g o, a = some ⟨g, o, none⟩ → 0 < l → g < w.heap.size)) (fun pv _ => sliceLen pv)
  case atStart =>
    obtain ⟨a0, c0, rfl⟩ := reads_slice hv
    refine ⟨0, by omega, by simpa using hv0, q1, q2, q3, q4, _, _, _, rfl, by simp, fun g o e h => ?_⟩
    subst e
    obtain ⟨g', o', cap', e', _, hc'⟩ := reads_form hv h
    cases e'
    exact World.block_lt_of_cell? w _ (hc' 0 h)
  case round =>
    obtain ⟨n, hn, hrd, R1, T1, T2, hT, l, c, a, rfl, hll, hgb⟩ := hrel
    have HLL := Lib.hid hll
    have hllb : l ≤ ps.length := by omega
    by_cases hlt : 64 ≤ l
    · obtain ⟨g, o, cap, hsl, hcap, hcell⟩ := reads_form hrd (by simp; omega)
      have hdl : (ps.drop (64 * n)).length = l := by simp; omega
      rw [hdl] at hsl hcap
      injection hsl with e1 e2 e3
      subst e1 e3
      have HG := Lib.hid (hgb g o rfl (by omega))
      clear hgb
      have HC := Lib.hid hcell
      have HD := Lib.hid hdl
      have h64 : decide ((64 : Int) ≤ (l : Int)) = true := by simp; omega
      have hc64 : (64 : Int) ≤ (c : Int) := by omega
      clear hcell hdl hrd e2 hv0 q1 q2 q3 q4 hll
      have hRange := R1
      generalize hs : stirN ks s ps n = sn at R1 hRange
      have HSN := Lib.hid hs
      clear hs
      go_wp2_with fail
      refine wp_region_held_drew (S := fun _ => True) (by kernel_rfl) trivial (fun hHeld => ?_)
      refine wpAnyH_take (i := 1) (v := .slice (some ⟨g, o, none⟩) l c) rfl (by kernel_rfl) (by kernel_rfl) (by kernel_rfl) (fun _ _ _ h => h) (Or.inl ⟨by rfl, ?y1⟩) (by assumption) ?r1
      case y1 => (intro w hSw; (try dsimp only at hSw); (try simp only [zq1, zq2, zq3]); go_simp; try with_reducible rfl)
      case r1 =>
      try simp only [Act.put, zq4, zq5, zq6, zq1, zq2, zq3]
      refine wpAnyH_take (i := 2) (v := .slice (some ⟨g, o, none⟩) 64 c) rfl (by kernel_rfl) (by kernel_rfl) (by kernel_rfl) (fun _ _ _ h => h) (Or.inl ⟨by rfl, ?y2⟩) (by assumption) ?r2
      case y2 => (intro w hSw; (try dsimp only at hSw); (try simp only [zq1, zq2, zq3]); go_simp; try with_reducible rfl)
      case r2 =>
      try simp only [Act.put, zq4, zq5, zq6, zq1, zq2, zq3]
      refine wpAnyH_ready (rs := [0, 3]) (by kernel_rfl) (by simp) ?_
      refine AllReadyH.cons rfl (fun K hK => ?_) (AllReadyH.cons rfl (fun K hK => ?_) AllReadyH.nil)
      · rw [if_pos (by rfl)]
        refine wp_load_mid 114 _ rfl w.heap.size 0 rfl sn.vals _ R1 Tryz.underlying114 rfl size41 ?_
        refine hK.out _ _ trivial (fun _ => ?_)
        clear hK K
        try simp only [Act.put, zq4, zq5, zq6, zq1, zq2, zq3]
        refine wpAnyH_ready (rs := [3]) (by kernel_rfl) (by simp) ?_
        refine AllReadyH.cons rfl (fun K hK => ?_) AllReadyH.nil
        go_simp
        refine (spread_any g o 64 c ((ps.drop (64 * n)).take 64) _ (by rw [List.length_take, HD.out]; omega) rfl (by omega) (fun i hi => by
          have h1 := HC.out i (by rw [HD.out]; omega)
          have e1 : ((ps.drop (64 * n)).take 64).getD i 0 = (ps.drop (64 * n)).getD i 0 := by simp [List.getD, hi]
          rw [e1]; exact h1)).mono ?_
        rintro r w2 ⟨rfl, t2'⟩
        have t2 : Turn (fun _ => False) wr w2 := t2'.of_drew
        have R2 := rangeAt_turn R1 t2 id
        refine hK.out _ _ trivial (fun _ => ?_)
        clear hK K
        try simp only [Act.put, zq4, zq5, zq6, zq1, zq2, zq3]
        refine wpAnyH_ready (rs := [4]) (by kernel_rfl) (by simp) ?_
        refine AllReadyH.cons rfl (fun K hK => ?_) AllReadyH.nil
        go_simp
        refine (stir_any sn (sched ((ps.drop (64 * n)).take 64) 48) ks _ (sched_len _ _) ((HR.out.turn hT).turn t2)).mono ?_
        rintro r w3 ⟨rfl, t3⟩
        have Th1 := there_turn (there_turn T1 t2 id) t3 id
        have Th2 := there_turn (there_turn T2 t2 id) t3 id
        refine hK.out _ _ trivial (fun _ => ?_)
        clear hK K
        try simp only [Act.put, zq4, zq5, zq6, zq1, zq2, zq3]
        refine wpAnyH_ready (rs := [5]) (by kernel_rfl) (by simp) ?_
        refine AllReadyH.cons rfl (fun K hK => ?_) AllReadyH.nil
        rw [if_pos (by rfl)]
        refine wp_store_mid 114 _ _ rfl w.heap.size 0 (plusE sn (rnds ks (sched ((ps.drop (64 * n)).take 64) 48) sn 64)).vals.toArray rfl rfl Th1 size41 (vals_one _) ?_
        refine hK.out _ _ trivial (fun _ => wpAnyH_done (by kernel_rfl) ?_ _)
        clear hK K
        have t4 := turn_setCells w.heap.size (plusE sn (rnds ks (sched ((ps.drop (64 * n)).take 64) 48) sn 64)).vals 0 w3
        have R4 := World.rangeAt_setCells_same w3 w.heap.size 0 (plusE sn (rnds ks (sched ((ps.drop (64 * n)).take 64) 48) sn 64)).vals Th1
        have U1 := World.there_setCells Th1 w.heap.size 0 (plusE sn (rnds ks (sched ((ps.drop (64 * n)).take 64) 48) sn 64)).vals
        have U2 := World.there_setCells Th2 w.heap.size 0 (plusE sn (rnds ks (sched ((ps.drop (64 * n)).take 64) 48) sn 64)).vals
        have hT4 := ((hT.trans t2 (fun _ _ => id)).trans t3 (fun _ _ => id)).trans t4 (fun q hq h => by omega)
        have hsn : stirN ks s ps (n + 1) = plusE sn (rnds ks (sched ((ps.drop (64 * n)).take 64) 48) sn 64) := by rw [stirN, HSN.out]; rfl
        have HSN2 := Lib.hid hsn
        have hct : ∀ i, i < (ps.drop (64 * n)).length → (w3.setCells w.heap.size 0 (plusE sn (rnds ks (sched ((ps.drop (64 * n)).take 64) 48) sn 64)).vals).cell? ⟨g, o + i, none⟩ = some (.int .u8 ((ps.drop (64 * n)).getD i 0)) := fun i hi => by
          have h1 := HC.out i hi
          have hgl := World.block_lt_of_cell? wr _ h1
          have tt4 := ((t2.trans t3 (fun _ _ => id)).mono (T := fun q => q = w.heap.size) (fun _ _ h => h.elim)).trans t4 (fun q hq h => h)
          exact (tt4.cell (p := ⟨g, o + i, none⟩) hgl (by have := HG.out; simp; omega)).trans h1
        have HCT := Lib.hid hct
        change Exit.inBlock _ _ _ _ (w3.setCells w.heap.size 0 (plusE sn (rnds ks (sched ((ps.drop (64 * n)).take 64) 48) sn 64)).vals)
        generalize w3.setCells w.heap.size 0 (plusE sn (rnds ks (sched ((ps.drop (64 * n)).take 64) 48) sn 64)).vals = w9 at R4 U1 U2 hT4 HCT ⊢
        clear hsn hct t4 Th1 Th2 t3 t2 t2' T1 T2 R1 hRange
        go_wp2
        go_roundw
        case rel =>
          refine ⟨n + 1, by have := HLL.out; omega, next_reads HD.out hcap hlt HCT.out, by rw [HSN2.out]; exact R4, U1, U2, hT4, _, _, _, rfl, by have := HLL.out; omega, fun g' o' e h => ?_⟩
          have hg' := HG.out
          split at e <;> (cases e; exact hg')
        case measure => simp [sliceLen]; omega
      · go_simp
        refine (spread_any g o 64 c ((ps.drop (64 * n)).take 64) _ (by rw [List.length_take, HD.out]; omega) rfl (by omega) (fun i hi => by
          have h1 := HC.out i (by rw [HD.out]; omega)
          have e1 : ((ps.drop (64 * n)).take 64).getD i 0 = (ps.drop (64 * n)).getD i 0 := by simp [List.getD, hi]
          rw [e1]; exact h1)).mono ?_
        rintro r w2 ⟨rfl, t2'⟩
        have t2 : Turn (fun _ => False) wr w2 := t2'.of_drew
        have R2 := rangeAt_turn R1 t2 id
        refine hK.out _ _ trivial (fun _ => ?_)
        clear hK K
        try simp only [Act.put, zq4, zq5, zq6, zq1, zq2, zq3]
        refine wpAnyH_ready (rs := [0]) (by kernel_rfl) (by simp) ?_
        refine AllReadyH.cons rfl (fun K hK => ?_) AllReadyH.nil
        rw [if_pos (by rfl)]
        refine wp_load_mid 114 _ rfl w.heap.size 0 rfl sn.vals _ R2 Tryz.underlying114 rfl size41 ?_
        refine hK.out _ _ trivial (fun _ => ?_)
        clear hK K
        try simp only [Act.put, zq4, zq5, zq6, zq1, zq2, zq3]
        refine wpAnyH_ready (rs := [4]) (by kernel_rfl) (by simp) ?_
        refine AllReadyH.cons rfl (fun K hK => ?_) AllReadyH.nil
        go_simp
        refine (stir_any sn (sched ((ps.drop (64 * n)).take 64) 48) ks _ (sched_len _ _) ((HR.out.turn hT).turn t2)).mono ?_
        rintro r w3 ⟨rfl, t3⟩
        have Th1 := there_turn (there_turn T1 t2 id) t3 id
        have Th2 := there_turn (there_turn T2 t2 id) t3 id
        refine hK.out _ _ trivial (fun _ => ?_)
        clear hK K
        try simp only [Act.put, zq4, zq5, zq6, zq1, zq2, zq3]
        refine wpAnyH_ready (rs := [5]) (by kernel_rfl) (by simp) ?_
        refine AllReadyH.cons rfl (fun K hK => ?_) AllReadyH.nil
        rw [if_pos (by rfl)]
        refine wp_store_mid 114 _ _ rfl w.heap.size 0 (plusE sn (rnds ks (sched ((ps.drop (64 * n)).take 64) 48) sn 64)).vals.toArray rfl rfl Th1 size41 (vals_one _) ?_
        refine hK.out _ _ trivial (fun _ => wpAnyH_done (by kernel_rfl) ?_ _)
        clear hK K
        have t4 := turn_setCells w.heap.size (plusE sn (rnds ks (sched ((ps.drop (64 * n)).take 64) 48) sn 64)).vals 0 w3
        have R4 := World.rangeAt_setCells_same w3 w.heap.size 0 (plusE sn (rnds ks (sched ((ps.drop (64 * n)).take 64) 48) sn 64)).vals Th1
        have U1 := World.there_setCells Th1 w.heap.size 0 (plusE sn (rnds ks (sched ((ps.drop (64 * n)).take 64) 48) sn 64)).vals
        have U2 := World.there_setCells Th2 w.heap.size 0 (plusE sn (rnds ks (sched ((ps.drop (64 * n)).take 64) 48) sn 64)).vals
        have hT4 := ((hT.trans t2 (fun _ _ => id)).trans t3 (fun _ _ => id)).trans t4 (fun q hq h => by omega)
        have hsn : stirN ks s ps (n + 1) = plusE sn (rnds ks (sched ((ps.drop (64 * n)).take 64) 48) sn 64) := by rw [stirN, HSN.out]; rfl
        have HSN2 := Lib.hid hsn
        have hct : ∀ i, i < (ps.drop (64 * n)).length → (w3.setCells w.heap.size 0 (plusE sn (rnds ks (sched ((ps.drop (64 * n)).take 64) 48) sn 64)).vals).cell? ⟨g, o + i, none⟩ = some (.int .u8 ((ps.drop (64 * n)).getD i 0)) := fun i hi => by
          have h1 := HC.out i hi
          have hgl := World.block_lt_of_cell? wr _ h1
          have tt4 := ((t2.trans t3 (fun _ _ => id)).mono (T := fun q => q = w.heap.size) (fun _ _ h => h.elim)).trans t4 (fun q hq h => h)
          exact (tt4.cell (p := ⟨g, o + i, none⟩) hgl (by have := HG.out; simp; omega)).trans h1
        have HCT := Lib.hid hct
        change Exit.inBlock _ _ _ _ (w3.setCells w.heap.size 0 (plusE sn (rnds ks (sched ((ps.drop (64 * n)).take 64) 48) sn 64)).vals)
        generalize w3.setCells w.heap.size 0 (plusE sn (rnds ks (sched ((ps.drop (64 * n)).take 64) 48) sn 64)).vals = w9 at R4 U1 U2 hT4 HCT ⊢
        clear hsn hct t4 Th1 Th2 t3 t2 t2' T1 T2 R1 hRange
        go_wp2
        go_roundw
        case rel =>
          refine ⟨n + 1, by have := HLL.out; omega, next_reads HD.out hcap hlt HCT.out, by rw [HSN2.out]; exact R4, U1, U2, hT4, _, _, _, rfl, by have := HLL.out; omega, fun g' o' e h => ?_⟩
          have hg' := HG.out
          split at e <;> (cases e; exact hg')
        case measure => simp [sliceLen]; omega
    · have hn2 : n = ps.length / 64 := by omega
      have HN2 := Lib.hid hn2
      have h64 : decide ((64 : Int) ≤ (l : Int)) = false := by simp; omega
      have hRange := R1
      generalize hs : stirN ks s ps n = sn at R1 hRange
      have HSN := Lib.hid hs
      clear hs hn2 hll hrd hgb hRange q1 q2 q3 q4 hv0
      go_wp2_with (first | (refine wpList_load_mid (op := ⟨some 15, .load 114 (.tmp 2), _, _, _, _⟩) rfl 114 (.tmp 2) rfl w.heap.size 0 rfl sn.vals _ R1 Tryz.underlying114 rfl size41 ?_) | (refine wpList_store_mid (op := ⟨none, .store 114 (.tmp 4) (.tmp 15), _, _, _, _⟩) rfl 114 (.tmp 4) (.tmp 15) rfl (w.heap.size + 1) 0 sn.vals.toArray rfl rfl T2 size41 (vals_one _) ?_))
      have hrg := World.rangeAt_setCells_same wr (w.heap.size + 1) 0 sn.vals T2
      refine bodyPost_ret (v := .agg sn.vals.toArray) (results_cell_mid Tryz.results59 _ _ (w.heap.size + 1) _ _ rfl hrg Tryz.underlying114 rfl size41) rfl ⟨by rw [← HN2.out, HSN.out], ?_⟩
      exact hT.trans (T := fun q => q = w.heap.size + 1) (turn_setCells _ _ _ _) (fun q hq h => by omega)
end Go.Proofs.YtboofamenpcnhaaGreatDoor
namespace Go.Proofs.YtboofamenpcnhaaGreatDoor
set_option maxRecDepth 100000
open Go.RowKit
set_option linter.unusedVariables false
set_option linter.unusedSimpArgs false
/-- Noughts till 56 of 64. -/
def pads (n : Nat) : Nat := (119 - n % 64) % 64
/-- The eight bytes of how many bits there are. -/
def lenB (n : Nat) (k : Nat) : List Int := (List.range k).map fun i => (n : Int) * 8 / 2 ^ (56 - 8 * i) % 256
theorem lenB_succ (n : Nat) (k : Nat) : lenB n (k + 1) = lenB n k ++ [(n : Int) * 8 / 2 ^ (56 - 8 * k) % 256] := by
  simp [lenB, List.range_succ]
theorem own_sliceS {w : World} {base : Nat} {v : Value} {n : Nat} {xs : List Value} (h : w.ownsRow base 5 1 v n xs) : ∃ a c, v = .slice a n c := by
  rcases h.2 with ⟨rfl, rfl⟩ | ⟨g, cap', _, rfl, _⟩
  · exact ⟨_, _, rfl⟩
  · exact ⟨_, _, rfl⟩
set_option maxHeartbeats 800000 in
set_option maxRecDepth 100000 in
theorem last_anyS (v : Value) (xs : List Int) (n : Nat) (w : World) (hl : xs.length ≤ 60000000000000) (hn : n ≤ 70000000000000) (hr : Src w v xs) :
    Calls Tryz.prog 61 #[v, .int .i64 (n : Int)] w (NewBytes w (xs ++ [128] ++ List.replicate (pads xs.length) 0 ++ lenB n 8)) := by
  obtain ⟨i0, hi, hz0, hz1, hz2⟩ := info_parts Tryz.info5
  go_enter Tryz.func61, Tryz.ntmps61
  go_wp2_with fail
  refine (clone_any v xs _ (by omega) hr).mono ?_
  rintro e w1 ⟨v1, rfl, ho1, t1⟩
  have hs1 := t1.size
  go_wp2_with (at_builtin; refine wpList_append_where _ rfl (.tmp 9) (.tmp 10) 29 rfl w.heap.size 5 i0 (.int .u8 0) 1 1 Tryz.underlying29 hi hz0 hz1 hz2 rfl (by decide) v1 xs.length (xs.map (Value.int .u8)) rfl (ho1.alloc _) ⟨w1.heap.size, 0, none⟩ 1 1 [.int .u8 128] rfl rfl (one_cell _ _) ?c2 ?c3 ?c4 ?c5 ?_)
  case c2 => intro u hu; simp at hu; subst hu; rfl
  case c3 => unfold maxLen; omega
  case c4 => omega
  case c5 => simp; omega
  intro v2 w2 ho2 hg2 _ _
  have t2 := (t1.alloc (.cells #[.int .u8 128] 5)).grown hg2 (fun k h hk => by have := (ho1.lt k h).1; omega)
  have ho2' : w2.ownsRow w.heap.size 5 1 v2 (xs ++ [128]).length ((xs ++ [128]).map (Value.int .u8)) := by simpa using ho2
  clear ho1 ho2 hg2 t1 hs1
  go_wp2_with fail
  go_loopw [5] (fun pv wr => ∃ (m l c : Nat) (a : Option Addr), m ≤ pads xs.length ∧ pv = .slice a l c ∧ l = xs.length + 1 + m ∧ wr.ownsRow w.heap.size 5 1 pv (xs ++ [128] ++ List.replicate m 0).length ((xs ++ [128] ++ List.replicate m 0).map (Value.int .u8)) ∧ Turn (fun _ => False) w wr) (fun pv _ => xs.length + 1 + pads xs.length - sliceLen pv)
  case atStart =>
    obtain ⟨a2, c2, hv2⟩ := own_sliceS ho2'
    exact ⟨0, _, _, _, by omega, hv2, by simp, by simpa using ho2', t2⟩
  case round =>
    clear ho2' t2
    obtain ⟨m, l, c, a, hm, rfl, hll, ho, hT⟩ := hrel
    have hp64 : pads xs.length = (119 - xs.length % 64) % 64 := rfl
    have HLL := Lib.hid hll
    have HP := Lib.hid hp64
    have hpl : pads xs.length < 64 := by omega
    have hsz := hT.size
    have hL : (xs ++ [128] ++ List.replicate m 0).length = l := by simp; omega
    rw [hL] at ho
    have HL := Lib.hid hL
    by_cases hlt : m < pads xs.length
    · have hne : ((l : Int) % 64 != 56) = true := by rw [bne_iff_ne]; omega
      have hl2 : l ≤ 60000000000100 := by omega
      clear hll hp64 hL
      go_wp2_with (at_builtin; refine wpList_append_where _ rfl (.tmp 16) (.tmp 17) 29 rfl w.heap.size 5 i0 (.int .u8 0) 1 1 Tryz.underlying29 hi hz0 hz1 hz2 rfl (by decide) _ l ((xs ++ [128] ++ List.replicate m 0).map (Value.int .u8)) rfl (ho.alloc _) ⟨wr.heap.size, 0, none⟩ 1 1 [.int .u8 0] rfl rfl (one_cell _ _) ?d2 ?d3 ?d4 ?d5 ?_)
      case d2 => intro u hu; simp at hu; subst hu; rfl
      case d3 => unfold maxLen; omega
      case d4 => omega
      case d5 => simp; omega
      intro v3 w3 ho3 hg3 _ _
      have t3 := (hT.alloc (.cells #[.int .u8 0] 5)).grown hg3 (fun k h hk => by have := (ho.lt k h).1; omega)
      obtain ⟨a3, c3, hv3⟩ := own_sliceS ho3
      subst hv3
      have HO3 := Lib.hid ho3
      clear ho hg3 ho3
      go_wp2
      go_roundw
      case rel =>
        refine ⟨m + 1, l + 1, c3, a3, by omega, rfl, by have := HLL.out; omega, ?_, t3⟩
        have e1 : (xs ++ [128] ++ List.replicate (m + 1) 0).length = l + 1 := by have := HL.out; simp only [List.length_append, List.length_replicate, List.length_cons, List.length_nil] at this ⊢; omega
        rw [e1, List.replicate_succ']; simpa using HO3.out
      case measure => have := HLL.out; simp [sliceLen]; omega
    · obtain rfl : m = pads xs.length := by omega
      have hne : ((l : Int) % 64 != 56) = false := by rw [bne_eq_false_iff_eq]; omega
      clear hll hp64 hL
      obtain ⟨ys, hys⟩ : ∃ ys, xs ++ [128] ++ List.replicate (pads xs.length) 0 = ys := ⟨_, rfl⟩
      rw [hys] at ho
      have hyl : ys.length = l := by rw [← hys]; exact HL.out
      have HY := Lib.hid hys
      have HYL := Lib.hid hyl
      have hl3 : l ≤ 60000000000100 := by have := HLL.out; omega
      clear hys hyl
      go_wp2_with fail
      go_loopw [5, 7] (fun pv sv wr => ∃ (k l' c : Nat) (a : Option Addr), k ≤ 8 ∧ sv = .int .i64 (56 - 8 * (k : Int)) ∧ pv = .slice a l' c ∧ l' = l + k ∧ wr.ownsRow w.heap.size 5 1 pv l' ((ys ++ lenB n k).map (Value.int .u8)) ∧ Turn (fun _ => False) w wr) (fun _ sv _ => (intOf sv + 8).toNat)
      case atStart => exact ⟨0, l, c, a, by omega, rfl, rfl, rfl, by simpa [lenB] using ho, hT⟩
      case round =>
        clear ho hT hsz
        obtain ⟨k, l', c, a, hk, rfl, rfl, hl', ho, hT⟩ := hrel
        have hsz := hT.size
        have HL' := Lib.hid hl'
        have hlb : l' ≤ 60000000000200 := by omega
        clear hl'
        by_cases hlt : k < 8
        · have hge : decide ((0 : Int) ≤ 56 - 8 * (k : Int)) = true := by simp; omega
          have hge2 : (0 : Int) ≤ 56 - 8 * (k : Int) := by omega
          go_wp2_with (at_builtin; refine wpList_append_where _ rfl (.tmp 26) (.tmp 31) 29 rfl w.heap.size 5 i0 (.int .u8 0) 1 1 Tryz.underlying29 hi hz0 hz1 hz2 rfl (by decide) _ l' ((ys ++ lenB n k).map (Value.int .u8)) rfl (ho.alloc _) ⟨wr.heap.size, 0, none⟩ 1 1 [.int .u8 ((n : Int) * 8 / 2 ^ (56 - 8 * k) % 256)] rfl rfl (one_cell _ _) ?e2 ?e3 ?e4 ?e5 ?_)
          case e2 => intro u hu; simp at hu; subst hu; rfl
          case e3 => unfold maxLen; omega
          case e4 => omega
          case e5 => simp; omega
          intro v3 w3 ho3 hg3 _ _
          have t3 := (hT.alloc (.cells #[.int .u8 ((n : Int) * 8 / 2 ^ (56 - 8 * k) % 256)] 5)).grown hg3 (fun k h hk => by have := (ho.lt k h).1; omega)
          obtain ⟨a3, c3, hv3⟩ := own_sliceS ho3
          subst hv3
          have HO3 := Lib.hid ho3
          clear ho hg3 ho3
          go_wp2
          go_roundw
          case rel =>
            refine ⟨k + 1, l' + 1, c3, a3, by omega, by go_num, rfl, by have := HL'.out; omega, ?_, t3⟩
            rw [lenB_succ]; simpa using HO3.out
          case measure => simp [intOf]; omega
        · obtain rfl : k = 8 := by omega
          go_wp2_with fail
          go_ret
          refine ⟨_, rfl, ?_, hT⟩
          have e1 : (xs ++ [128] ++ List.replicate (pads xs.length) 0 ++ lenB n 8).length = l' := by rw [HY.out, List.length_append, HYL.out, HL'.out]; rfl
          rw [e1, HY.out]; exact ho
end Go.Proofs.YtboofamenpcnhaaGreatDoor
