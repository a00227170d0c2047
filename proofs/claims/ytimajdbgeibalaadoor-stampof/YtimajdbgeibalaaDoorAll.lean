/- Own contracts: all blocks that are stirred in. No statement is proved here. -/
import Derived.Test.YtimajdbgeibalaaDoorStir
import Derived.Test.YtimajdbgeibalaaDoorBytes
namespace Go.Proofs.YtimajdbgeibalaaDoor
open Go.RowKit
set_option linter.unusedVariables false
set_option linter.unusedSimpArgs false

def Eight.vals (s : Eight) : List Value := [.int .u32 s.a, .int .u32 s.b, .int .u32 s.c, .int .u32 s.d, .int .u32 s.e, .int .u32 s.f, .int .u32 s.g, .int .u32 s.h]
def plusE (s t : Eight) : Eight := ⟨add32 s.a t.a, add32 s.b t.b, add32 s.c t.c, add32 s.d t.d, add32 s.e t.e, add32 s.f t.f, add32 s.g t.g, add32 s.h t.h⟩
/-- The sum behind one block more. -/
def stepE (ks : List Int) (s : Eight) (blk : List Int) : Eight := plusE s (rnds ks (sched blk 48) s 64)
/-- The sum behind n blocks. -/
def stirN (ks : List Int) (s : Eight) (ps : List Int) : Nat → Eight
  | 0 => s
  | n + 1 => stepE ks (stirN ks s ps n) ((ps.drop (64 * n)).take 64)

theorem vals_one (s : Eight) : s.vals.toArray.all (·.oneCell') = true := by simp [Eight.vals, Value.oneCell']
theorem rangeAt_turn {w w' : World} {S : Nat → Prop} {B o : Nat} {cs : List Value} (h : w.rangeAt B o cs) (ht : Turn S w w') (hB : ¬ S B) : w'.rangeAt B o cs := fun j v hv => by
  have h1 := h j v hv
  exact (ht.cell (p := ⟨B, o + j, none⟩) (World.block_lt_of_cell? w _ h1) hB).trans h1
theorem there_turn {w w' : World} {S : Nat → Prop} {B o n : Nat} (h : w.there B o n) (ht : Turn S w w') (hB : ¬ S B) : w'.there B o n := fun j hj => by
  obtain ⟨h1, h2⟩ := h j hj
  obtain ⟨v, hv⟩ := Option.isSome_iff_exists.1 h1
  have hb := World.block_lt_of_cell? w _ hv
  exact ⟨by rw [ht.cell (p := ⟨B, o + j, none⟩) hb hB]; exact h1, (ht.frozen (p := ⟨B, o + j, none⟩) hb hB).trans h2⟩

/-- The roots stand in the second variable. -/
def Roots (w : World) (ks : List Int) : Prop := ks.length = 64 ∧ 1 < w.heap.size ∧ ∀ i, i < 64 → w.cell? ⟨1, i, none⟩ = some (.int .u32 (ks.getD i 0))
theorem Roots.turn {w w' : World} {ks : List Int} (h : Roots w ks) (ht : Turn (fun _ => False) w w') : Roots w' ks :=
  ⟨h.1, Nat.lt_of_lt_of_le h.2.1 ht.size, fun i hi => (ht.cell (p := ⟨1, i, none⟩) h.2.1 id).trans (h.2.2 i hi)⟩

theorem stir_any (s : Eight) (ws ks : List Int) (w : World) (hl : ws.length = 64) (hr : Roots w ks) :
    Calls Tryd.prog 21 #[.agg s.vals.toArray, .agg (ws.map (Value.int .u32)).toArray] w fun e w' => e = .returned (.agg (plusE s (rnds ks ws s 64)).vals.toArray) ∧ Turn (fun _ => False) w w' :=
  (stir_try _ s.a s.b s.c s.d s.e s.f s.g s.h ws ks w rfl hl hr.1 hr.2.2 hr.2.1).mono fun e w' h => h

theorem two_sums (w W : World) (s : Eight) (h : (w.alloc (.cells s.vals.toArray 41)).alloc (.cells #[.int .u32 0, .int .u32 0, .int .u32 0, .int .u32 0, .int .u32 0, .int .u32 0, .int .u32 0, .int .u32 0] 41) = W) :
    W.rangeAt w.heap.size 0 s.vals ∧ W.there w.heap.size 0 8 ∧ W.there (w.heap.size + 1) 0 8 ∧ Turn (fun _ => False) w W := by
  subst h
  have h1 := heap_alloc2_old w (.cells s.vals.toArray 41) (.cells #[.int .u32 0, .int .u32 0, .int .u32 0, .int .u32 0, .int .u32 0, .int .u32 0, .int .u32 0, .int .u32 0] 41)
  have h2 := heap_alloc2_new w (.cells s.vals.toArray 41) (.cells #[.int .u32 0, .int .u32 0, .int .u32 0, .int .u32 0, .int .u32 0, .int .u32 0, .int .u32 0, .int .u32 0] 41)
  refine ⟨fun j v hv => ?_, fun j hj => ⟨?_, frozen_of_row _ _ _ _ 41 h1⟩, fun j hj => ⟨?_, frozen_of_row _ _ _ _ 41 h2⟩, ((Turn.refl _ w).alloc _).alloc _⟩
  · rw [Nat.zero_add, cell_of_row _ _ _ _ 41 (0, 0) h1]; simpa using hv
  · rw [Nat.zero_add, cell_of_row _ _ _ _ 41 (0, 0) h1]; simp [Eight.vals]; omega
  · rw [Nat.zero_add, cell_of_row _ _ _ _ 41 (0, 0) h2]; simp; omega

theorem reads_form {w : World} {v : Value} {xs : List Int} (h : Reads w v xs) (h0 : 0 < xs.length) : ∃ g o cap, v = .slice (some ⟨g, o, none⟩) xs.length cap ∧ xs.length ≤ cap ∧ ∀ i, i < xs.length → w.cell? ⟨g, o + i, none⟩ = some (.int .u8 (xs.getD i 0)) := by
  rcases h with ⟨_, rfl⟩ | h
  · simp at h0
  · exact h
theorem reads_slice {w : World} {v : Value} {xs : List Int} (h : Reads w v xs) : ∃ a c, v = .slice a xs.length c := by
  rcases h with ⟨rfl, rfl⟩ | ⟨g, o, cap, rfl, _⟩
  · exact ⟨_, _, rfl⟩
  · exact ⟨_, _, rfl⟩
theorem reads_drop {w : World} {g o cap k : Nat} {xs : List Int} {o' : Nat} (hc : xs.length ≤ cap) (hk : k ≤ xs.length) (ho : k < xs.length → o' = o + k)
    (hcell : ∀ i, i < xs.length → w.cell? ⟨g, o + i, none⟩ = some (.int .u8 (xs.getD i 0))) : Reads w (.slice (some ⟨g, o', none⟩) (xs.length - k) (cap - k)) (xs.drop k) := by
  refine .inr ⟨g, o', cap - k, by simp, by simp only [List.length_drop]; omega, fun i hi => ?_⟩
  simp only [List.length_drop] at hi
  rw [show o' + i = o + (k + i) by have := ho (by omega); omega, hcell (k + i) (by omega)]
  simp [List.getD, List.getElem?_drop]

theorem next_reads {w9 : World} {g o l c n : Nat} {ps : List Int} (hD : (ps.drop (64 * n)).length = l) (hcap : l ≤ c) (hlt : 64 ≤ l)
    (hC : ∀ i, i < (ps.drop (64 * n)).length → w9.cell? ⟨g, o + i, none⟩ = some (.int .u8 ((ps.drop (64 * n)).getD i 0))) :
    Reads w9 (.slice (if c = 64 then some ⟨g, o, none⟩ else some ⟨g, o + 64, none⟩) (l - 64) (c - 64)) (ps.drop (64 * (n + 1))) := by
  have e1 : ps.drop (64 * (n + 1)) = (ps.drop (64 * n)).drop 64 := by rw [List.drop_drop]; congr 1
  rw [e1, ← hD]
  split
  · exact reads_drop (by omega) (by omega) (fun h => by omega) hC
  · exact reads_drop (by omega) (by omega) (fun h => rfl) hC
def sliceLen : Value → Nat
  | .slice _ l _ => l
  | _ => 0

def AllPost (w : World) (s : Eight) (e : Ending) (w' : World) : Prop := e = .returned (.agg s.vals.toArray) ∧ Turn (fun _ => False) w w'

set_option maxHeartbeats 1000000 in
set_option maxRecDepth 100000 in
theorem all_any (s : Eight) (v : Value) (ps ks : List Int) (w : World) (hv : Reads w v ps) (hl : ps.length ≤ 70000000000000) (hr : Roots w ks) :
    Calls Tryd.prog 15 #[.agg s.vals.toArray, v] w (AllPost w (stirN ks s ps (ps.length / 64))) := by
  have HV := Lib.hid hv
  have HR := Lib.hid hr
  clear hr
  go_enter Tryd.func15, Tryd.ntmps15
  go_wp2_with fail
  generalize hW : World.alloc (World.alloc w _) _ = W
  obtain ⟨q1, q2, q3, q4⟩ := two_sums w W s hW
  have hv0 := hv.turn q4 (fun _ _ => id)
  clear hW
  go_loopw [1] (fun pv wr => ∃ (n : Nat), 64 * n ≤ ps.length ∧ Reads wr pv (ps.drop (64 * n)) ∧ wr.rangeAt w.heap.size 0 (stirN ks s ps n).vals ∧ wr.there w.heap.size 0 8 ∧ wr.there (w.heap.size + 1) 0 8 ∧ Turn (fun _ => False) w wr ∧ (∃ l c a, pv = .slice a l c ∧ l = ps.length - 64 * n ∧ ∀ g o, a = some ⟨g, o, none⟩ → 0 < l → g < w.heap.size)) (fun pv _ => sliceLen pv)
  case atStart =>
    obtain ⟨a0, c0, rfl⟩ := reads_slice hv
    refine ⟨0, by omega, by simpa using hv0, q1, q2, q3, q4, _, _, _, rfl, by simp, fun g o e h => ?_⟩
    subst e
    obtain ⟨g', o', cap', e', _, hc'⟩ := reads_form hv h
    cases e'
    exact World.block_lt_of_cell? w _ (hc' 0 h)
  case round =>
    obtain ⟨n, hn, hrd, R1, T1, T2, hT, l, c, a, rfl, hll, hgb⟩ := hrel
    have HLL := Lib.hid hll
    have hllb : l ≤ ps.length := by omega
    by_cases hlt : 64 ≤ l
    · obtain ⟨g, o, cap, hsl, hcap, hcell⟩ := reads_form hrd (by simp; omega)
      have hdl : (ps.drop (64 * n)).length = l := by simp; omega
      rw [hdl] at hsl hcap
      injection hsl with e1 e2 e3
      subst e1 e3
      have HG := Lib.hid (hgb g o rfl (by omega))
      clear hgb
      have HC := Lib.hid hcell
      have HD := Lib.hid hdl
      have h64 : decide ((64 : Int) ≤ (l : Int)) = true := by simp; omega
      have hc64 : (64 : Int) ≤ (c : Int) := by omega
      clear hcell hdl hrd e2 hv0 q1 q2 q3 q4 hll
      have hRange := R1
      generalize hs : stirN ks s ps n = sn at R1 hRange
      have HSN := Lib.hid hs
      clear hs
      go_wp2_with fail
      refine wp_region_held_drew (S := fun _ => True) (by kernel_rfl) trivial (fun hHeld => ?_)
      refine wpAnyH_take (i := 1) (v := .slice (some ⟨g, o, none⟩) l c) rfl (by kernel_rfl) (by kernel_rfl) (by kernel_rfl) (fun _ _ _ h => h) (Or.inl ⟨by rfl, ?y1⟩) (by assumption) ?r1
      case y1 => (intro w hSw; (try dsimp only at hSw); (try simp only [List.getElem_toArray, List.getElem_cons_zero, List.getElem_cons_succ]); go_simp; try with_reducible rfl)
      case r1 =>
      try simp only [Act.put, List.setIfInBounds_toArray, List.set_cons_zero, List.set_cons_succ, List.getElem_toArray, List.getElem_cons_zero, List.getElem_cons_succ]
      refine wpAnyH_take (i := 2) (v := .slice (some ⟨g, o, none⟩) 64 c) rfl (by kernel_rfl) (by kernel_rfl) (by kernel_rfl) (fun _ _ _ h => h) (Or.inl ⟨by rfl, ?y2⟩) (by assumption) ?r2
      case y2 => (intro w hSw; (try dsimp only at hSw); (try simp only [List.getElem_toArray, List.getElem_cons_zero, List.getElem_cons_succ]); go_simp; try with_reducible rfl)
      case r2 =>
      try simp only [Act.put, List.setIfInBounds_toArray, List.set_cons_zero, List.set_cons_succ, List.getElem_toArray, List.getElem_cons_zero, List.getElem_cons_succ]
      refine wpAnyH_ready (rs := [0, 3]) (by kernel_rfl) (by simp) ?_
      refine AllReadyH.cons rfl (fun K hK => ?_) (AllReadyH.cons rfl (fun K hK => ?_) AllReadyH.nil)
      · rw [if_pos (by rfl)]
        refine wp_load_mid 41 _ rfl w.heap.size 0 rfl sn.vals _ R1 Tryd.underlying41 rfl size41 ?_
        refine hK.out _ _ trivial (fun _ => ?_)
        clear hK K
        try simp only [Act.put, List.setIfInBounds_toArray, List.set_cons_zero, List.set_cons_succ, List.getElem_toArray, List.getElem_cons_zero, List.getElem_cons_succ]
        refine wpAnyH_ready (rs := [3]) (by kernel_rfl) (by simp) ?_
        refine AllReadyH.cons rfl (fun K hK => ?_) AllReadyH.nil
        go_simp
        refine (spread_any g o 64 c ((ps.drop (64 * n)).take 64) _ (by rw [List.length_take, HD.out]; omega) rfl (by omega) (fun i hi => by
          have h1 := HC.out i (by rw [HD.out]; omega)
          have e1 : ((ps.drop (64 * n)).take 64).getD i 0 = (ps.drop (64 * n)).getD i 0 := by simp [List.getD, hi]
          rw [e1]; exact h1)).mono ?_
        rintro r w2 ⟨rfl, t2'⟩
        have t2 : Turn (fun _ => False) wr w2 := t2'.of_drew
        have R2 := rangeAt_turn R1 t2 id
        refine hK.out _ _ trivial (fun _ => ?_)
        clear hK K
        try simp only [Act.put, List.setIfInBounds_toArray, List.set_cons_zero, List.set_cons_succ, List.getElem_toArray, List.getElem_cons_zero, List.getElem_cons_succ]
        refine wpAnyH_ready (rs := [4]) (by kernel_rfl) (by simp) ?_
        refine AllReadyH.cons rfl (fun K hK => ?_) AllReadyH.nil
        go_simp
        refine (stir_any sn (sched ((ps.drop (64 * n)).take 64) 48) ks _ (sched_len _ _) ((HR.out.turn hT).turn t2)).mono ?_
        rintro r w3 ⟨rfl, t3⟩
        have Th1 := there_turn (there_turn T1 t2 id) t3 id
        have Th2 := there_turn (there_turn T2 t2 id) t3 id
        refine hK.out _ _ trivial (fun _ => ?_)
        clear hK K
        try simp only [Act.put, List.setIfInBounds_toArray, List.set_cons_zero, List.set_cons_succ, List.getElem_toArray, List.getElem_cons_zero, List.getElem_cons_succ]
        refine wpAnyH_ready (rs := [5]) (by kernel_rfl) (by simp) ?_
        refine AllReadyH.cons rfl (fun K hK => ?_) AllReadyH.nil
        rw [if_pos (by rfl)]
        refine wp_store_mid 41 _ _ rfl w.heap.size 0 (plusE sn (rnds ks (sched ((ps.drop (64 * n)).take 64) 48) sn 64)).vals.toArray rfl rfl Th1 size41 (vals_one _) ?_
        refine hK.out _ _ trivial (fun _ => wpAnyH_done (by kernel_rfl) ?_ _)
        clear hK K
        have t4 := turn_setCells w.heap.size (plusE sn (rnds ks (sched ((ps.drop (64 * n)).take 64) 48) sn 64)).vals 0 w3
        have R4 := World.rangeAt_setCells_same w3 w.heap.size 0 (plusE sn (rnds ks (sched ((ps.drop (64 * n)).take 64) 48) sn 64)).vals Th1
        have U1 := World.there_setCells Th1 w.heap.size 0 (plusE sn (rnds ks (sched ((ps.drop (64 * n)).take 64) 48) sn 64)).vals
        have U2 := World.there_setCells Th2 w.heap.size 0 (plusE sn (rnds ks (sched ((ps.drop (64 * n)).take 64) 48) sn 64)).vals
        have hT4 := ((hT.trans t2 (fun _ _ => id)).trans t3 (fun _ _ => id)).trans t4 (fun q hq h => by omega)
        have hsn : stirN ks s ps (n + 1) = plusE sn (rnds ks (sched ((ps.drop (64 * n)).take 64) 48) sn 64) := by rw [stirN, HSN.out]; rfl
        have HSN2 := Lib.hid hsn
        have hct : ∀ i, i < (ps.drop (64 * n)).length → (w3.setCells w.heap.size 0 (plusE sn (rnds ks (sched ((ps.drop (64 * n)).take 64) 48) sn 64)).vals).cell? ⟨g, o + i, none⟩ = some (.int .u8 ((ps.drop (64 * n)).getD i 0)) := fun i hi => by
          have h1 := HC.out i hi
          have hgl := World.block_lt_of_cell? wr _ h1
          have tt4 := ((t2.trans t3 (fun _ _ => id)).mono (T := fun q => q = w.heap.size) (fun _ _ h => h.elim)).trans t4 (fun q hq h => h)
          exact (tt4.cell (p := ⟨g, o + i, none⟩) hgl (by have := HG.out; simp; omega)).trans h1
        have HCT := Lib.hid hct
        change Exit.inBlock _ _ _ _ (w3.setCells w.heap.size 0 (plusE sn (rnds ks (sched ((ps.drop (64 * n)).take 64) 48) sn 64)).vals)
        generalize w3.setCells w.heap.size 0 (plusE sn (rnds ks (sched ((ps.drop (64 * n)).take 64) 48) sn 64)).vals = w9 at R4 U1 U2 hT4 HCT ⊢
        clear hsn hct t4 Th1 Th2 t3 t2 t2' T1 T2 R1 hRange
        go_wp2
        go_roundw
        case rel =>
          refine ⟨n + 1, by have := HLL.out; omega, next_reads HD.out hcap hlt HCT.out, by rw [HSN2.out]; exact R4, U1, U2, hT4, _, _, _, rfl, by have := HLL.out; omega, fun g' o' e h => ?_⟩
          have hg' := HG.out
          split at e <;> (cases e; exact hg')
        case measure => simp [sliceLen]; omega
      · go_simp
        refine (spread_any g o 64 c ((ps.drop (64 * n)).take 64) _ (by rw [List.length_take, HD.out]; omega) rfl (by omega) (fun i hi => by
          have h1 := HC.out i (by rw [HD.out]; omega)
          have e1 : ((ps.drop (64 * n)).take 64).getD i 0 = (ps.drop (64 * n)).getD i 0 := by simp [List.getD, hi]
          rw [e1]; exact h1)).mono ?_
        rintro r w2 ⟨rfl, t2'⟩
        have t2 : Turn (fun _ => False) wr w2 := t2'.of_drew
        have R2 := rangeAt_turn R1 t2 id
        refine hK.out _ _ trivial (fun _ => ?_)
        clear hK K
        try simp only [Act.put, List.setIfInBounds_toArray, List.set_cons_zero, List.set_cons_succ, List.getElem_toArray, List.getElem_cons_zero, List.getElem_cons_succ]
        refine wpAnyH_ready (rs := [0]) (by kernel_rfl) (by simp) ?_
        refine AllReadyH.cons rfl (fun K hK => ?_) AllReadyH.nil
        rw [if_pos (by rfl)]
        refine wp_load_mid 41 _ rfl w.heap.size 0 rfl sn.vals _ R2 Tryd.underlying41 rfl size41 ?_
        refine hK.out _ _ trivial (fun _ => ?_)
        clear hK K
        try simp only [Act.put, List.setIfInBounds_toArray, List.set_cons_zero, List.set_cons_succ, List.getElem_toArray, List.getElem_cons_zero, List.getElem_cons_succ]
        refine wpAnyH_ready (rs := [4]) (by kernel_rfl) (by simp) ?_
        refine AllReadyH.cons rfl (fun K hK => ?_) AllReadyH.nil
        go_simp
        refine (stir_any sn (sched ((ps.drop (64 * n)).take 64) 48) ks _ (sched_len _ _) ((HR.out.turn hT).turn t2)).mono ?_
        rintro r w3 ⟨rfl, t3⟩
        have Th1 := there_turn (there_turn T1 t2 id) t3 id
        have Th2 := there_turn (there_turn T2 t2 id) t3 id
        refine hK.out _ _ trivial (fun _ => ?_)
        clear hK K
        try simp only [Act.put, List.setIfInBounds_toArray, List.set_cons_zero, List.set_cons_succ, List.getElem_toArray, List.getElem_cons_zero, List.getElem_cons_succ]
        refine wpAnyH_ready (rs := [5]) (by kernel_rfl) (by simp) ?_
        refine AllReadyH.cons rfl (fun K hK => ?_) AllReadyH.nil
        rw [if_pos (by rfl)]
        refine wp_store_mid 41 _ _ rfl w.heap.size 0 (plusE sn (rnds ks (sched ((ps.drop (64 * n)).take 64) 48) sn 64)).vals.toArray rfl rfl Th1 size41 (vals_one _) ?_
        refine hK.out _ _ trivial (fun _ => wpAnyH_done (by kernel_rfl) ?_ _)
        clear hK K
        have t4 := turn_setCells w.heap.size (plusE sn (rnds ks (sched ((ps.drop (64 * n)).take 64) 48) sn 64)).vals 0 w3
        have R4 := World.rangeAt_setCells_same w3 w.heap.size 0 (plusE sn (rnds ks (sched ((ps.drop (64 * n)).take 64) 48) sn 64)).vals Th1
        have U1 := World.there_setCells Th1 w.heap.size 0 (plusE sn (rnds ks (sched ((ps.drop (64 * n)).take 64) 48) sn 64)).vals
        have U2 := World.there_setCells Th2 w.heap.size 0 (plusE sn (rnds ks (sched ((ps.drop (64 * n)).take 64) 48) sn 64)).vals
        have hT4 := ((hT.trans t2 (fun _ _ => id)).trans t3 (fun _ _ => id)).trans t4 (fun q hq h => by omega)
        have hsn : stirN ks s ps (n + 1) = plusE sn (rnds ks (sched ((ps.drop (64 * n)).take 64) 48) sn 64) := by rw [stirN, HSN.out]; rfl
        have HSN2 := Lib.hid hsn
        have hct : ∀ i, i < (ps.drop (64 * n)).length → (w3.setCells w.heap.size 0 (plusE sn (rnds ks (sched ((ps.drop (64 * n)).take 64) 48) sn 64)).vals).cell? ⟨g, o + i, none⟩ = some (.int .u8 ((ps.drop (64 * n)).getD i 0)) := fun i hi => by
          have h1 := HC.out i hi
          have hgl := World.block_lt_of_cell? wr _ h1
          have tt4 := ((t2.trans t3 (fun _ _ => id)).mono (T := fun q => q = w.heap.size) (fun _ _ h => h.elim)).trans t4 (fun q hq h => h)
          exact (tt4.cell (p := ⟨g, o + i, none⟩) hgl (by have := HG.out; simp; omega)).trans h1
        have HCT := Lib.hid hct
        change Exit.inBlock _ _ _ _ (w3.setCells w.heap.size 0 (plusE sn (rnds ks (sched ((ps.drop (64 * n)).take 64) 48) sn 64)).vals)
        generalize w3.setCells w.heap.size 0 (plusE sn (rnds ks (sched ((ps.drop (64 * n)).take 64) 48) sn 64)).vals = w9 at R4 U1 U2 hT4 HCT ⊢
        clear hsn hct t4 Th1 Th2 t3 t2 t2' T1 T2 R1 hRange
        go_wp2
        go_roundw
        case rel =>
          refine ⟨n + 1, by have := HLL.out; omega, next_reads HD.out hcap hlt HCT.out, by rw [HSN2.out]; exact R4, U1, U2, hT4, _, _, _, rfl, by have := HLL.out; omega, fun g' o' e h => ?_⟩
          have hg' := HG.out
          split at e <;> (cases e; exact hg')
        case measure => simp [sliceLen]; omega
    · have hn2 : n = ps.length / 64 := by omega
      have HN2 := Lib.hid hn2
      have h64 : decide ((64 : Int) ≤ (l : Int)) = false := by simp; omega
      have hRange := R1
      generalize hs : stirN ks s ps n = sn at R1 hRange
      have HSN := Lib.hid hs
      clear hs hn2 hll hrd hgb hRange q1 q2 q3 q4 hv0
      go_wp2_with (first | (refine wpList_load_mid (op := ⟨some 15, .load 41 (.tmp 2), _, _, _, _⟩) rfl 41 (.tmp 2) rfl w.heap.size 0 rfl sn.vals _ R1 Tryd.underlying41 rfl size41 ?_) | (refine wpList_store_mid (op := ⟨none, .store 41 (.tmp 4) (.tmp 15), _, _, _, _⟩) rfl 41 (.tmp 4) (.tmp 15) rfl (w.heap.size + 1) 0 sn.vals.toArray rfl rfl T2 size41 (vals_one _) ?_))
      have hrg := World.rangeAt_setCells_same wr (w.heap.size + 1) 0 sn.vals T2
      refine bodyPost_ret (v := .agg sn.vals.toArray) (results_cell_mid Tryd.results15 _ _ (w.heap.size + 1) _ _ rfl hrg Tryd.underlying41 rfl size41) rfl ⟨by rw [← HN2.out, HSN.out], ?_⟩
      exact hT.trans (T := fun q => q = w.heap.size + 1) (turn_setCells _ _ _ _) (fun q hq h => by omega)
end Go.Proofs.YtimajdbgeibalaaDoor
