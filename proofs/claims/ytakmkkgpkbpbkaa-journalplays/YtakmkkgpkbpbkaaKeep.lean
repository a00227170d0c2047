/- Own contracts: what is kept of a disk's writes. No statement is proved here. -/
import Derived.Test.YtakmkkgpkbpbkaaWrite
namespace Go.Proofs.Ytakmkkgpkbpbkaa
open Go.RowKit
set_option linter.unusedVariables false
set_option linter.unusedSimpArgs false

/-- The safe sectors behind the first j writes. -/
def keepK (safe : List (List Int)) (wet : List (Nat × List Int)) (f : Nat → Bool) : Nat → List (List Int)
  | 0 => safe
  | j + 1 => if f j then (keepK safe wet f j).set (wet.getD j (0, [])).1 (wet.getD j (0, [])).2 else keepK safe wet f j
theorem keepK_len (safe : List (List Int)) (wet : List (Nat × List Int)) (f : Nat → Bool) (j : Nat) : (keepK safe wet f j).length = safe.length := by
  induction j with
  | zero => rfl
  | succ j ih => rw [keepK]; split <;> simp [ih]

/-- A sector that is made safe. -/
theorem SafeAt.set {w : World} {S : Nat} {l : List (List Int)} (h : SafeAt w S l) (k : Nat) (hk : k < l.length) (s : List Int) (hs : s.length = 64) (hl : ∀ x ∈ l, x.length = 64) : SafeAt (w.setCells S (k * 64) (secV s)) S (l.set k s) := fun i t hi => by
  have hth : ∀ i t, l[i]? = some t → w.there S (i * 64) 64 := fun i t h' => (h i t h').2
  rw [List.getElem?_set] at hi
  by_cases e : k = i
  · subst e
    rw [if_pos rfl, if_pos hk] at hi
    obtain rfl : s = t := by simpa using hi
    have h1 := hth k _ (List.getElem?_eq_getElem hk)
    exact ⟨World.rangeAt_setCells_same w S (k * 64) (secV s) (by rw [secV_len, hs]; exact h1), World.there_setCells h1 _ _ _⟩
  · rw [if_neg e] at hi
    have ht := hl t (List.mem_of_getElem? hi)
    refine ⟨World.rangeAt_setCells_apart (h i t hi).1 S (k * 64) (secV s) ?_, World.there_setCells (h i t hi).2 _ _ _⟩
    rw [secV_len, secV_len, hs, ht]
    omega
theorem DiskIn.setSafe {w : World} {F : Nat → Prop} {D S sc : Nat} {wv : Value} {d : DiskM} (h : DiskIn w F D S sc wv d) (k : Nat) (hk : k < d.safe.length) (s : List Int) (hs : s.length = 64) (hb : BytesOk s) :
    DiskIn (w.setCells S (k * 64) (secV s)) F D S sc wv { d with safe := d.safe.set k s } := by
  have ht := turn_setCells S (secV s) (k * 64) w
  refine { head := ?_, cap := by simpa using h.cap, safe := h.safe.set k hk s hs (fun x hx => (h.ok.safe x hx).1), slt := Nat.lt_of_lt_of_le h.slt ht.size, wet := ht.owns h.wet (fun q hq e => h.nSw (by rw [hq, e])), fD := h.fD, fS := h.fS, fw := h.fw, nDS := h.nDS, nDw := h.nDw, nSw := h.nSw, ok := ⟨fun x hx => ?_, fun x hx => by simpa using h.ok.wet x hx⟩, few := by simpa using h.few }
  · have h1 := h.head.turn ht h.nDS
    simpa [DiskM.head] using h1
  · rcases List.mem_or_eq_of_mem_set hx with hx | rfl
    · exact h.ok.safe x hx
    · exact ⟨hs, hb⟩
theorem DiskIn.clear {w : World} {F : Nat → Prop} {D S sc : Nat} {wv : Value} {d : DiskM} (h : DiskIn w F D S sc wv d) :
    DiskIn (w.setCell ⟨D, 1, none⟩ (.slice none 0 0)) F D S sc (.slice none 0 0) { d with wet := [] } := by
  have ht := turn_cell w D 1 (.slice none 0 0)
  exact { head := h.head.set 1 _ rfl, cap := h.cap, safe := h.safe.turn ht (fun e => h.nDS e.symm), slt := Nat.lt_of_lt_of_le h.slt ht.size, wet := World.ownsRow_nil _ _ _ _, fD := h.fD, fS := h.fS, fw := fun q hq => (by cases hq), nDS := h.nDS, nDw := fun e => (by cases e), nSw := fun e => (by cases e), ok := ⟨h.ok.safe, fun x hx => (by cases hx)⟩, few := h.few }

def KeepPost (w : World) (F : Nat → Prop) (D S sc : Nat) (d : DiskM) (f : Nat → Bool) (e : Ending) (w' : World) : Prop :=
  e = .returned (.tuple #[]) ∧ DiskIn w' F D S sc (.slice none 0 0) { d with safe := keepK d.safe d.wet f d.wet.length, wet := [] } ∧ Turn (fun q => q = S ∨ q = D) w w'

set_option maxHeartbeats 800000 in
theorem flush1_any (i : Int) (w : World) : Calls Try.prog 45 #[.int .i64 i] w fun e w' => e = .returned (.bool true) ∧ Turn (fun _ => False) w w' := by
  go_enter Try.func45, Try.ntmps45
  go_wp2_with fail
  go_ret
  exact ⟨rfl, Turn.refl _ _⟩

set_option maxHeartbeats 4000000 in
set_option maxRecDepth 100000 in
theorem keep_all (w : World) (F : Nat → Prop) (D S sc : Nat) (wv : Value) (d : DiskM) (h : DiskIn w F D S sc wv d) (hwl : d.wet.length ≤ 1000000000000) :
    Calls Try.prog 29 #[.pointer (some ⟨D, 0, none⟩), .func (.func 45) #[] #[]] w (KeepPost w F D S sc d (fun _ => true)) := by
  obtain ⟨f, hfall⟩ : ∃ f : Nat → Bool, (fun _ => true) = f := ⟨_, rfl⟩
  rw [hfall]
  have HFA := Lib.hid hfall
  clear hfall
  have hz55 := zero55
  obtain ⟨wa, wc, rfl⟩ := wet_form h.wet
  obtain ⟨_, c1, _⟩ := h.head.all
  dsimp only [DiskM.head] at c1
  have HD := Lib.hid h
  clear h
  obtain ⟨n, hn⟩ : ∃ n, d.wet.length = n := ⟨_, rfl⟩
  rw [hn] at c1 hwl
  have HN := Lib.hid hn
  go_enter Try.func29, Try.ntmps29
  go_wp2_with fail
  go_loopw [11] (fun iv wr => ∃ j : Nat, j ≤ n ∧ iv = .int .i64 (j : Int) ∧ DiskIn wr F D S sc (.slice wa n wc) { d with safe := keepK d.safe d.wet f j } ∧ Turn (fun q => q = S) w wr) (fun iv _ => (n - intOf iv).toNat)
  case atStart =>
    have h0 := HD.out
    rw [hn] at h0
    exact ⟨0, Nat.zero_le _, rfl, h0, Turn.refl _ _⟩
  case round =>
    clear c1 hn
    obtain ⟨j, hj, rfl, hdj, hTj⟩ := hrel
    have HDJ := Lib.hid hdj
    clear hdj
    by_cases hlt : j < n
    · obtain ⟨x, hx⟩ : ∃ x, d.wet[j]? = some x := ⟨_, List.getElem?_eq_getElem (by rw [HN.out]; exact hlt)⟩
      have hwet := HDJ.out.wet
      have hwok := HDJ.out.ok.wetOk
      dsimp only at hwet hwok
      obtain ⟨g, c, hsl, hcap, hc1, hr1, hr0⟩ := wet_range hwet hwok j x hx
      rw [HN.out] at hsl hcap
      injection hsl with e1 e2 e3
      subst e1
      subst e3
      have hx64 := hwok x (List.mem_of_getElem? hx)
      have hxk := HDJ.out.ok.wet x (List.mem_of_getElem? hx)
      dsimp only at hxk
      rw [keepK_len] at hxk
      have hgd : d.wet.getD j (0, []) = x := by simp [List.getD, hx]
      have hstep : keepK d.safe d.wet f (j + 1) = if f j then (keepK d.safe d.wet f j).set x.1 x.2 else keepK d.safe d.wet f j := by rw [keepK, hgd]
      have HST := Lib.hid hstep
      have hdj : decide ((j : Int) < (n : Int)) = true := by simp; omega
      clear hwet hwok e2 hx hgd hstep hc1 hr1
      obtain ⟨xa, xs⟩ := x
      dsimp only at hx64 hxk
      go_wp2_with (first
        | (with_reducible (show wpList _ _ _ (Oper.mk (some 15) (.load 78 (.tmp 14)) _ _ _ _ :: _) _ _)
           refine wpList_load_mid (op := ⟨some 15, .load 78 (.tmp 14), _, _, _, _⟩) rfl 78 (.tmp 14) rfl g (j * 65) rfl (wrV (xa, xs)) _ hr0 Try.underlying78 rfl (size_wr' hx64) ?_)
        | (with_reducible (show wpList _ _ _ (Oper.mk none (.store 78 (.tmp 5) (.tmp 15)) _ _ _ _ :: _) _ _)
           generalize hW : World.alloc wr _ = W
           obtain ⟨hth, T1⟩ := new65 wr W _ hW rfl
           clear hW
           refine wpList_store_mid (op := ⟨none, .store 78 (.tmp 5) (.tmp 15), _, _, _, _⟩) rfl 78 (.tmp 5) (.tmp 15) rfl wr.heap.size 0 (wrV (xa, xs)).toArray rfl rfl (there_wr hth hx64) (size_wr hx64) (all_oneCell_toArray (wrV_one _)) ?_
           have hr2 := World.rangeAt_setCells_same W wr.heap.size 0 (wrV (xa, xs)) (by rw [wrV_len _ hx64]; exact hth)
           have T2 := T1.trans (turn_setCells wr.heap.size (wrV (xa, xs)) 0 W) (fun q hq h => by omega)
           change wpList _ _ _ _ _ (W.setCells wr.heap.size 0 (wrV (xa, xs)))
           generalize W.setCells wr.heap.size 0 (wrV (xa, xs)) = w2 at hr2 T2 ⊢
           clear hth T1
           generalize hB : wr.heap.size = B at hr2 ⊢))
      refine (flush1_any (j : Int) w2).mono ?_
      rintro e w3 ⟨rfl, t3⟩
      have T3 := T2.trans t3 (fun _ _ => id)
      have HD3 := Lib.hid (HDJ.out.turn T3 (fun _ _ => id))
      have hr3 := rangeAt_turn hr2 t3 id
      clear T2 t3 hr2
      have hft : f j = true := by rw [← HFA.out]
      rw [show (true : Bool) = f j from hft.symm]
      clear hft
      cases hf : f j with
      | false =>
        have HF := Lib.hid hf
        clear hf
        go_wp2_with fail
        go_roundw
        case rel =>
          refine ⟨j + 1, by omega, by go_num, ?_, hTj.trans T3 (fun _ _ h => h.elim)⟩
          rw [HST.out, HF.out]; exact HD3.out
        case measure => simp [intOf]; omega
      | true =>
        have HF := Lib.hid hf
        clear hf
        obtain ⟨c0, _⟩ := HD3.out.head.all
        dsimp only [DiskM.head] at c0
        rw [keepK_len] at c0
        have hc5 : w3.cell? ⟨B, 0, none⟩ = some (.int .i64 (xa : Int)) := hr3 0 _ rfl
        have hr5 : w3.rangeAt B 1 (secV xs) := fun q v hv => by
          have := hr3 (q + 1) v (by simpa [wrV] using hv)
          rwa [show 0 + (q + 1) = 1 + q by omega] at this
        have hsx : (keepK d.safe d.wet f j)[xa]? = some ((keepK d.safe d.wet f j).getD xa []) := by
          have h1 := hxk.1
          rw [← keepK_len d.safe d.wet f j] at h1
          simp [List.getD, h1]
        have hths := (HD3.out.safe xa _ hsx).2
        have hBS : S ≠ B := by have := HDJ.out.slt; omega
        have hDS : D ≠ S := HD3.out.nDS
        have hscap : d.safe.length ≤ sc := HD.out.cap
        go_wp2_with fail
        refine wp_region_held_drew (S := fun w' => w'.cell? ⟨D, 0, none⟩ = some (.slice (some ⟨S, 0, none⟩) d.safe.length sc) ∧ w'.cell? ⟨B, 0, none⟩ = some (.int .i64 (xa : Int)) ∧ w'.rangeAt B 1 (secV xs)) (by kernel_rfl) ⟨c0, hc5, hr5⟩ (fun hHeld => ?_)
        refine wpAnyH_take (i := 0) (v := .pointer (some ⟨D, 0, none⟩)) rfl (by kernel_rfl) (by kernel_rfl) (by kernel_rfl) (fun _ _ _ h => h) (Or.inl ⟨by rfl, ?y0⟩) (by assumption) ?r0
        case y0 => (intro w hSw; (try dsimp only at hSw); (try simp only [List.getElem_toArray, List.getElem_cons_zero, List.getElem_cons_succ]); go_simp; try with_reducible rfl)
        case r0 =>
        try simp only [Act.put, List.setIfInBounds_toArray, List.set_cons_zero, List.set_cons_succ, List.getElem_toArray, List.getElem_cons_zero, List.getElem_cons_succ]
        refine wpAnyH_take (i := 1) (v := .pointer (some ⟨D, 0, none⟩)) rfl (by kernel_rfl) (by kernel_rfl) (by kernel_rfl) (fun _ _ _ h => h) (Or.inl ⟨by rfl, ?y1⟩) (by assumption) ?r1
        case y1 => (intro w hSw; (try dsimp only at hSw); (try simp only [List.getElem_toArray, List.getElem_cons_zero, List.getElem_cons_succ]); go_simp; try with_reducible rfl)
        case r1 =>
        try simp only [Act.put, List.setIfInBounds_toArray, List.set_cons_zero, List.set_cons_succ, List.getElem_toArray, List.getElem_cons_zero, List.getElem_cons_succ]
        refine wpAnyH_take (i := 2) (v := .pointer (some ⟨D, 0, none⟩)) rfl (by kernel_rfl) (by kernel_rfl) (by kernel_rfl) (fun _ _ _ h => h) (Or.inl ⟨by rfl, ?y2⟩) (by assumption) ?r2
        case y2 => (intro w hSw; (try dsimp only at hSw); (try simp only [List.getElem_toArray, List.getElem_cons_zero, List.getElem_cons_succ]); go_simp; try with_reducible rfl)
        case r2 =>
        try simp only [Act.put, List.setIfInBounds_toArray, List.set_cons_zero, List.set_cons_succ, List.getElem_toArray, List.getElem_cons_zero, List.getElem_cons_succ]
        refine wpAnyH_take (i := 3) (v := .slice (some ⟨S, 0, none⟩) d.safe.length sc) rfl (by kernel_rfl) (by kernel_rfl) (by kernel_rfl) (fun _ _ _ h => h) (Or.inl ⟨by rfl, ?y3⟩) (by assumption) ?r3
        case y3 => (intro wq hSw; (have hs1 := hSw.1); (have hs2 := hSw.2.1); (try simp only [List.getElem_toArray, List.getElem_cons_zero, List.getElem_cons_succ]); go_simp; try with_reducible rfl)
        case r3 =>
        try simp only [Act.put, List.setIfInBounds_toArray, List.set_cons_zero, List.set_cons_succ, List.getElem_toArray, List.getElem_cons_zero, List.getElem_cons_succ]
        refine wpAnyH_take (i := 4) (v := .pointer (some ⟨B, 0, none⟩)) rfl (by kernel_rfl) (by kernel_rfl) (by kernel_rfl) (fun _ _ _ h => h) (Or.inl ⟨by rfl, ?y4⟩) (by assumption) ?r4
        case y4 => (intro w hSw; (try dsimp only at hSw); (try simp only [List.getElem_toArray, List.getElem_cons_zero, List.getElem_cons_succ]); go_simp; try with_reducible rfl)
        case r4 =>
        try simp only [Act.put, List.setIfInBounds_toArray, List.set_cons_zero, List.set_cons_succ, List.getElem_toArray, List.getElem_cons_zero, List.getElem_cons_succ]
        refine wpAnyH_take (i := 5) (v := .int .i64 (xa : Int)) rfl (by kernel_rfl) (by kernel_rfl) (by kernel_rfl) (fun _ _ _ h => h) (Or.inl ⟨by rfl, ?y5⟩) (by assumption) ?r5
        case y5 => (intro wq hSw; (have hs1 := hSw.1); (have hs2 := hSw.2.1); (try simp only [List.getElem_toArray, List.getElem_cons_zero, List.getElem_cons_succ]); go_simp; try with_reducible rfl)
        case r5 =>
        try simp only [Act.put, List.setIfInBounds_toArray, List.set_cons_zero, List.set_cons_succ, List.getElem_toArray, List.getElem_cons_zero, List.getElem_cons_succ]
        refine wpAnyH_take (i := 6) (v := .pointer (some ⟨B, 1, none⟩)) rfl (by kernel_rfl) (by kernel_rfl) (by kernel_rfl) (fun _ _ _ h => h) (Or.inl ⟨by rfl, ?y6⟩) (by assumption) ?r6
        case y6 => (intro w hSw; (try dsimp only at hSw); (try simp only [List.getElem_toArray, List.getElem_cons_zero, List.getElem_cons_succ]); go_simp; try with_reducible rfl)
        case r6 =>
        try simp only [Act.put, List.setIfInBounds_toArray, List.set_cons_zero, List.set_cons_succ, List.getElem_toArray, List.getElem_cons_zero, List.getElem_cons_succ]
        refine wpAnyH_take (i := 7) (v := .agg (secV xs).toArray) rfl (by kernel_rfl) (by kernel_rfl) (by kernel_rfl) (fun _ _ _ h => h) (yieldsIf_load_mid (by rfl) 76 (.tmp 25) rfl B 1 rfl (secV xs) _ (fun w hw => hw.2.2) Try.underlying76 rfl (sec_size' hx64)) (by assumption) ?r7
        case r7 =>
        try simp only [Act.put, List.setIfInBounds_toArray, List.set_cons_zero, List.set_cons_succ, List.getElem_toArray, List.getElem_cons_zero, List.getElem_cons_succ]
        refine wpAnyH_take (i := 8) (v := .pointer (some ⟨S, xa * 64, none⟩)) rfl (by kernel_rfl) (by kernel_rfl) (by kernel_rfl) (fun _ _ _ h => h) (Or.inl ⟨by rfl, ?y8⟩) (by assumption) ?r8
        case y8 => (intro w hSw; (try dsimp only at hSw); (try simp only [List.getElem_toArray, List.getElem_cons_zero, List.getElem_cons_succ]); go_simp; try with_reducible rfl)
        case r8 =>
        try simp only [Act.put, List.setIfInBounds_toArray, List.set_cons_zero, List.set_cons_succ, List.getElem_toArray, List.getElem_cons_zero, List.getElem_cons_succ]
        refine wpAnyH_ready (rs := [9]) (by kernel_rfl) (by simp) ?_
        refine AllReadyH.cons rfl (fun K hK => ?_) AllReadyH.nil
        rw [if_pos (by rfl)]
        refine wp_store_mid (op := ⟨none, .store 76 (.tmp 27) (.tmp 26), _, _, _, _⟩) 76 (.tmp 27) (.tmp 26) rfl S (xa * 64) (secV xs).toArray rfl rfl (sec_there hths hx64) (sec_size hx64) (all_oneCell_toArray (secV_one xs)) ?_
        have t6 := turn_setCells S (secV xs) (xa * 64) w3.drew
        change K _ (w3.drew.setCells S (xa * 64) (secV xs))
        have hd6 := (HD3.out.turn ((Turn.refl (fun _ => False) w3).drew) (fun _ _ => id)).setSafe xa (by rw [keepK_len]; exact hxk.1) xs hx64 hxk.2.2
        have HD6 := Lib.hid hd6
        have T6 := hTj.trans (T3.drew) (fun _ _ h => h.elim)
        have T7 := T6.trans t6 (fun _ _ h => h)
        refine hK.out _ _ ⟨(t6.cell (p := ⟨D, 0, none⟩) HD3.out.head.lt hDS).trans c0, (t6.cell (p := ⟨B, 0, none⟩) (World.block_lt_of_cell? w3 _ hc5) (fun e => hBS e.symm)).trans hc5, rangeAt_turn hr5 (((Turn.refl (fun q => q = S) w3).drew).trans t6 (fun _ _ h => h)) (fun e => hBS e.symm)⟩ (fun _ => ?_)
        clear hK K
        try simp only [Act.put, List.setIfInBounds_toArray, List.set_cons_zero, List.set_cons_succ, List.getElem_toArray, List.getElem_cons_zero, List.getElem_cons_succ]
        refine wpAnyH_done (by kernel_rfl) ?_ _
        clear hd6 t6 T6
        generalize w3.drew.setCells S (xa * 64) (secV xs) = w6 at HD6 T7 ⊢
        go_wp2_with fail
        go_roundw
        case rel =>
          refine ⟨j + 1, by omega, by go_num, ?_, T7⟩
          rw [HST.out, HF.out]; exact HD6.out
        case measure => simp [intOf]; omega
    · obtain rfl : j = n := by omega
      have hdj : decide ((j : Int) < (j : Int)) = false := by simp
      obtain ⟨_, c1, _⟩ := HDJ.out.head.all
      have f1 := HDJ.out.head.free 1
      dsimp only [DiskM.head] at c1
      have HCL := Lib.hid HDJ.out.clear
      have t7 := turn_cell wr D 1 (.slice none 0 0)
      go_wp2_with fail
      go_end0
      refine ⟨rfl, ?_, (hTj.mono (fun _ _ h => .inl h)).trans t7 (fun _ _ h => .inr h)⟩
      have h9 := HCL.out
      rw [← HN.out] at h9
      exact h9

theorem src_turn_pos {S : Nat → Prop} {w w' : World} {v : Value} {xs : List Int} (h : Src w v xs) (ht : Turn S w w') (hn : 0 < xs.length → ∀ k, v.ownBlock = some k → ¬ S k) : Src w' v xs := by
  by_cases h0 : 0 < xs.length
  · exact h.turn ht (hn h0)
  · have hx : xs = [] := List.eq_nil_of_length_eq_zero (by omega)
    subst hx
    rcases h with (⟨rfl, _⟩ | ⟨g, o, cap, rfl, _, _⟩) | ⟨x, c, rfl, _⟩
    · exact .inl (.inl ⟨rfl, rfl⟩)
    · exact .inr ⟨_, _, rfl, rfl⟩
    · exact .inr ⟨_, _, rfl, rfl⟩
/-- Bit i of a mask, the mask again and again. -/
def maskB (ms : List Int) (i : Nat) : Bool := if ms.length = 0 then false else decide ((ms.getD (i / 8 % ms.length) 0).toNat / 2 ^ (i % 8) % 2 = 1)
def BoolPost (w : World) (b : Bool) (e : Ending) (w' : World) : Prop := e = .returned (.bool b) ∧ Turn (fun _ => False) w w'
theorem and1_u8 (n : Nat) (h : n < 256) : bits .and .u8 (n : Int) 1 = ((n % 2 : Nat) : Int) := by
  have h1 := u8_and_nat n 1 h (by omega)
  rw [Nat.and_one_is_mod] at h1
  exact h1
set_option maxHeartbeats 1600000 in
set_option maxRecDepth 100000 in
theorem crash1_any (i M : Nat) (v : Value) (ms : List Int) (w : World) (hM : w.cell? ⟨M, 0, none⟩ = some v) (hv : Src w v ms) (hb : BytesOk ms) (hi : i ≤ 1000000000000) (hl : ms.length ≤ 9223372036854775807) :
    Calls Try.prog 30 #[.int .i64 (i : Int), .pointer (some ⟨M, 0, none⟩)] w (BoolPost w (maskB ms i)) := by
  obtain ⟨a, c, rfl, hc⟩ := src_any hv
  have HC := Lib.hid hc
  clear hc hv
  obtain ⟨L, hL⟩ : ∃ L, ms.length = L := ⟨_, rfl⟩
  rw [hL] at hM hl
  have HL := Lib.hid hL
  clear hL
  by_cases h0 : L = 0
  · subst h0
    have hmb : maskB ms i = false := by unfold maskB; rw [if_pos HL.out]
    rw [hmb]
    clear hmb
    go_enter Try.func30, Try.ntmps30
    go_wp2_with fail
    go_region
    go_wp2_with fail
    go_ret
    exact ⟨rfl, (Turn.refl _ w).drew⟩
  · obtain ⟨hcap, g, o, rfl, hcell⟩ := HC.out (by rw [HL.out]; omega)
    have hq : i / 8 % L < L := Nat.mod_lt _ (by omega)
    have hcl := hcell (i / 8 % L) (by rw [HL.out]; exact hq)
    have hm : ms.getD (i / 8 % L) 0 ∈ ms := by have := HL.out; simp [List.getD, show i / 8 % L < ms.length by omega]
    obtain ⟨b, hbb⟩ := Int.eq_ofNat_of_zero_le (hb _ hm).1
    have hb2 := (hb _ hm).2
    have hmb : maskB ms i = decide (b / 2 ^ (i % 8) % 2 = 1) := by
      unfold maskB; rw [if_neg (by rw [HL.out]; exact h0), HL.out, hbb]; rfl
    rw [hbb] at hcl hb2
    rw [HL.out] at hcap
    have hblt : b < 256 := by omega
    have hsh : b / 2 ^ (i % 8) < 256 := Nat.lt_of_le_of_lt (Nat.div_le_self _ _) hblt
    have hand := and1_u8 (b / 2 ^ (i % 8)) hsh
    have hcast : (b : Int) / 2 ^ (i % 8) = ((b / 2 ^ (i % 8) : Nat) : Int) := by rw [Int.natCast_ediv, Int.natCast_pow]; rfl
    rw [← hcast] at hand
    have hrem : ((i : Int) / 8).tmod (L : Int) = ((i / 8 % L : Nat) : Int) := by
      rw [Int.tmod_eq_emod_of_nonneg (by omega), Int.natCast_emod, Int.natCast_ediv]; rfl
    have hrem2 : (((i / 8 : Nat) : Int)).tmod (L : Int) = ((i / 8 % L : Nat) : Int) := by
      rw [Int.tmod_eq_emod_of_nonneg (by omega), Int.natCast_emod]
    have h0L : decide ((0 : Int) < (L : Int)) = true := by simp; omega
    have hLne : ((L : Int) == 0) = false := by rw [beq_eq_false_iff_ne]; omega
    have hLne2 : ¬ (L : Int) = 0 := by omega
    have h0N : decide (0 < L) = true := by simp; omega
    have hw8 : IntKind.i64.wrap ((i : Int) / 8) = ((i / 8 : Nat) : Int) := by rw [show (i : Int) / 8 = ((i / 8 : Nat) : Int) by omega]; exact IntWalk.i64_in _ (by omega)
    have hw9 : IntKind.i64.wrap (((i / 8 : Nat) : Int)) = ((i / 8 : Nat) : Int) := IntWalk.i64_in _ (by omega)
    have hm8 : ((i : Int)).tmod 8 = ((i % 8 : Nat) : Int) := by rw [Int.tmod_eq_emod_of_nonneg (by omega)]; omega
    have hm9 : IntKind.i64.wrap (((i % 8 : Nat) : Int)) = ((i % 8 : Nat) : Int) := IntWalk.i64_in _ (by omega)
    have hq0 : (0 : Int) ≤ ((i / 8 % L : Nat) : Int) ∧ ((i / 8 % L : Nat) : Int) < (L : Int) := by omega
    have hwq : IntKind.i64.wrap (((i / 8 % L : Nat) : Int)) = ((i / 8 % L : Nat) : Int) := IntWalk.i64_in _ (by omega)
    have hqt : (((i / 8 % L : Nat) : Int)).toNat = i / 8 % L := by omega
    have HMB := Lib.hid hmb
    clear hcell hm hbb hmb hcast hrem
    generalize hqq : i / 8 % L = q at *
    generalize hpp : i / 8 = p8 at *
    generalize hrr : i % 8 = r8 at *
    go_enter Try.func30, Try.ntmps30
    go_wp2_with fail
    go_region
    go_wp2_with fail
    go_ret
    refine ⟨?_, (Turn.refl _ w).drew⟩
    show Ending.returned (.bool ((b : Int) / 2 ^ r8 % 2 == 1)) = _
    have hcast : (b : Int) / 2 ^ r8 % 2 = ((b / 2 ^ r8 % 2 : Nat) : Int) := by rw [Int.natCast_emod, Int.natCast_ediv, Int.natCast_pow]; rfl
    rw [HMB.out, hcast]
    congr 2
    rw [Bool.eq_iff_iff]
    simp
    omega

set_option maxHeartbeats 4000000 in
set_option maxRecDepth 100000 in
theorem keep_mask (w : World) (F : Nat → Prop) (D S sc : Nat) (wv : Value) (d : DiskM) (h : DiskIn w F D S sc wv d) (hwl : d.wet.length ≤ 1000000000000) (M : Nat) (v : Value) (ms : List Int) (hM : w.cell? ⟨M, 0, none⟩ = some v) (hMS : M ≠ S) (hv : Src w v ms) (hvS : 0 < ms.length → v.ownBlock ≠ some S) (hbm : BytesOk ms) (hml : ms.length ≤ 9223372036854775807) :
    Calls Try.prog 29 #[.pointer (some ⟨D, 0, none⟩), .func (.func 30) #[] #[.pointer (some ⟨M, 0, none⟩)]] w (KeepPost w F D S sc d (maskB ms)) := by
  obtain ⟨f, hfall⟩ : ∃ f : Nat → Bool, maskB ms = f := ⟨_, rfl⟩
  rw [hfall]
  have HFA := Lib.hid hfall
  clear hfall
  have HMS := Lib.hid hM
  have HVS := Lib.hid hv
  clear hM hv
  have hz55 := zero55
  obtain ⟨wa, wc, rfl⟩ := wet_form h.wet
  obtain ⟨_, c1, _⟩ := h.head.all
  dsimp only [DiskM.head] at c1
  have HD := Lib.hid h
  clear h
  obtain ⟨n, hn⟩ : ∃ n, d.wet.length = n := ⟨_, rfl⟩
  rw [hn] at c1 hwl
  have HN := Lib.hid hn
  go_enter Try.func29, Try.ntmps29
  go_wp2_with fail
  go_loopw [11] (fun iv wr => ∃ j : Nat, j ≤ n ∧ iv = .int .i64 (j : Int) ∧ DiskIn wr F D S sc (.slice wa n wc) { d with safe := keepK d.safe d.wet f j } ∧ Turn (fun q => q = S) w wr) (fun iv _ => (n - intOf iv).toNat)
  case atStart =>
    have h0 := HD.out
    rw [hn] at h0
    exact ⟨0, Nat.zero_le _, rfl, h0, Turn.refl _ _⟩
  case round =>
    clear c1 hn
    obtain ⟨j, hj, rfl, hdj, hTj⟩ := hrel
    have HDJ := Lib.hid hdj
    have HMC := Lib.hid (fun (w2 : World) (T2 : Turn (fun _ => False) wr w2) => (T2.cell (p := ⟨M, 0, none⟩) (Nat.lt_of_lt_of_le (World.block_lt_of_cell? w _ HMS.out) hTj.size) id).trans ((hTj.cell (p := ⟨M, 0, none⟩) (World.block_lt_of_cell? w _ HMS.out) hMS).trans HMS.out))
    have HSC := Lib.hid (fun (w2 : World) (T2 : Turn (fun _ => False) wr w2) => src_turn_pos (src_turn_pos HVS.out hTj (fun h0 k hk e => hvS h0 (by rw [hk, e]))) T2 (fun _ _ _ => id))
    clear hdj
    by_cases hlt : j < n
    · obtain ⟨x, hx⟩ : ∃ x, d.wet[j]? = some x := ⟨_, List.getElem?_eq_getElem (by rw [HN.out]; exact hlt)⟩
      have hwet := HDJ.out.wet
      have hwok := HDJ.out.ok.wetOk
      dsimp only at hwet hwok
      obtain ⟨g, c, hsl, hcap, hc1, hr1, hr0⟩ := wet_range hwet hwok j x hx
      rw [HN.out] at hsl hcap
      injection hsl with e1 e2 e3
      subst e1
      subst e3
      have hx64 := hwok x (List.mem_of_getElem? hx)
      have hxk := HDJ.out.ok.wet x (List.mem_of_getElem? hx)
      dsimp only at hxk
      rw [keepK_len] at hxk
      have hgd : d.wet.getD j (0, []) = x := by simp [List.getD, hx]
      have hstep : keepK d.safe d.wet f (j + 1) = if f j then (keepK d.safe d.wet f j).set x.1 x.2 else keepK d.safe d.wet f j := by rw [keepK, hgd]
      have HST := Lib.hid hstep
      have hdj : decide ((j : Int) < (n : Int)) = true := by simp; omega
      clear hwet hwok e2 hx hgd hstep hc1 hr1
      obtain ⟨xa, xs⟩ := x
      dsimp only at hx64 hxk
      go_wp2_with (first
        | (with_reducible (show wpList _ _ _ (Oper.mk (some 15) (.load 78 (.tmp 14)) _ _ _ _ :: _) _ _)
           refine wpList_load_mid (op := ⟨some 15, .load 78 (.tmp 14), _, _, _, _⟩) rfl 78 (.tmp 14) rfl g (j * 65) rfl (wrV (xa, xs)) _ hr0 Try.underlying78 rfl (size_wr' hx64) ?_)
        | (with_reducible (show wpList _ _ _ (Oper.mk none (.store 78 (.tmp 5) (.tmp 15)) _ _ _ _ :: _) _ _)
           generalize hW : World.alloc wr _ = W
           obtain ⟨hth, T1⟩ := new65 wr W _ hW rfl
           clear hW
           refine wpList_store_mid (op := ⟨none, .store 78 (.tmp 5) (.tmp 15), _, _, _, _⟩) rfl 78 (.tmp 5) (.tmp 15) rfl wr.heap.size 0 (wrV (xa, xs)).toArray rfl rfl (there_wr hth hx64) (size_wr hx64) (all_oneCell_toArray (wrV_one _)) ?_
           have hr2 := World.rangeAt_setCells_same W wr.heap.size 0 (wrV (xa, xs)) (by rw [wrV_len _ hx64]; exact hth)
           have T2 := T1.trans (turn_setCells wr.heap.size (wrV (xa, xs)) 0 W) (fun q hq h => by omega)
           change wpList _ _ _ _ _ (W.setCells wr.heap.size 0 (wrV (xa, xs)))
           generalize W.setCells wr.heap.size 0 (wrV (xa, xs)) = w2 at hr2 T2 ⊢
           clear hth T1
           generalize hB : wr.heap.size = B at hr2 ⊢))
      refine (crash1_any j M v ms w2 (HMC.out w2 T2) (HSC.out w2 T2) hbm (by omega) hml).mono ?_
      rintro e w3 ⟨rfl, t3⟩
      have T3 := T2.trans t3 (fun _ _ => id)
      have HD3 := Lib.hid (HDJ.out.turn T3 (fun _ _ => id))
      have hr3 := rangeAt_turn hr2 t3 id
      clear T2 t3 hr2
      rw [HFA.out]
      cases hf : f j with
      | false =>
        have HF := Lib.hid hf
        clear hf
        go_wp2_with fail
        go_roundw
        case rel =>
          refine ⟨j + 1, by omega, by go_num, ?_, hTj.trans T3 (fun _ _ h => h.elim)⟩
          rw [HST.out, HF.out]; exact HD3.out
        case measure => simp [intOf]; omega
      | true =>
        have HF := Lib.hid hf
        clear hf
        obtain ⟨c0, _⟩ := HD3.out.head.all
        dsimp only [DiskM.head] at c0
        rw [keepK_len] at c0
        have hc5 : w3.cell? ⟨B, 0, none⟩ = some (.int .i64 (xa : Int)) := hr3 0 _ rfl
        have hr5 : w3.rangeAt B 1 (secV xs) := fun q v hv => by
          have := hr3 (q + 1) v (by simpa [wrV] using hv)
          rwa [show 0 + (q + 1) = 1 + q by omega] at this
        have hsx : (keepK d.safe d.wet f j)[xa]? = some ((keepK d.safe d.wet f j).getD xa []) := by
          have h1 := hxk.1
          rw [← keepK_len d.safe d.wet f j] at h1
          simp [List.getD, h1]
        have hths := (HD3.out.safe xa _ hsx).2
        have hBS : S ≠ B := by have := HDJ.out.slt; omega
        have hDS : D ≠ S := HD3.out.nDS
        have hscap : d.safe.length ≤ sc := HD.out.cap
        go_wp2_with fail
        refine wp_region_held_drew (S := fun w' => w'.cell? ⟨D, 0, none⟩ = some (.slice (some ⟨S, 0, none⟩) d.safe.length sc) ∧ w'.cell? ⟨B, 0, none⟩ = some (.int .i64 (xa : Int)) ∧ w'.rangeAt B 1 (secV xs)) (by kernel_rfl) ⟨c0, hc5, hr5⟩ (fun hHeld => ?_)
        refine wpAnyH_take (i := 0) (v := .pointer (some ⟨D, 0, none⟩)) rfl (by kernel_rfl) (by kernel_rfl) (by kernel_rfl) (fun _ _ _ h => h) (Or.inl ⟨by rfl, ?y0⟩) (by assumption) ?r0
        case y0 => (intro w hSw; (try dsimp only at hSw); (try simp only [List.getElem_toArray, List.getElem_cons_zero, List.getElem_cons_succ]); go_simp; try with_reducible rfl)
        case r0 =>
        try simp only [Act.put, List.setIfInBounds_toArray, List.set_cons_zero, List.set_cons_succ, List.getElem_toArray, List.getElem_cons_zero, List.getElem_cons_succ]
        refine wpAnyH_take (i := 1) (v := .pointer (some ⟨D, 0, none⟩)) rfl (by kernel_rfl) (by kernel_rfl) (by kernel_rfl) (fun _ _ _ h => h) (Or.inl ⟨by rfl, ?y1⟩) (by assumption) ?r1
        case y1 => (intro w hSw; (try dsimp only at hSw); (try simp only [List.getElem_toArray, List.getElem_cons_zero, List.getElem_cons_succ]); go_simp; try with_reducible rfl)
        case r1 =>
        try simp only [Act.put, List.setIfInBounds_toArray, List.set_cons_zero, List.set_cons_succ, List.getElem_toArray, List.getElem_cons_zero, List.getElem_cons_succ]
        refine wpAnyH_take (i := 2) (v := .pointer (some ⟨D, 0, none⟩)) rfl (by kernel_rfl) (by kernel_rfl) (by kernel_rfl) (fun _ _ _ h => h) (Or.inl ⟨by rfl, ?y2⟩) (by assumption) ?r2
        case y2 => (intro w hSw; (try dsimp only at hSw); (try simp only [List.getElem_toArray, List.getElem_cons_zero, List.getElem_cons_succ]); go_simp; try with_reducible rfl)
        case r2 =>
        try simp only [Act.put, List.setIfInBounds_toArray, List.set_cons_zero, List.set_cons_succ, List.getElem_toArray, List.getElem_cons_zero, List.getElem_cons_succ]
        refine wpAnyH_take (i := 3) (v := .slice (some ⟨S, 0, none⟩) d.safe.length sc) rfl (by kernel_rfl) (by kernel_rfl) (by kernel_rfl) (fun _ _ _ h => h) (Or.inl ⟨by rfl, ?y3⟩) (by assumption) ?r3
        case y3 => (intro wq hSw; (have hs1 := hSw.1); (have hs2 := hSw.2.1); (try simp only [List.getElem_toArray, List.getElem_cons_zero, List.getElem_cons_succ]); go_simp; try with_reducible rfl)
        case r3 =>
        try simp only [Act.put, List.setIfInBounds_toArray, List.set_cons_zero, List.set_cons_succ, List.getElem_toArray, List.getElem_cons_zero, List.getElem_cons_succ]
        refine wpAnyH_take (i := 4) (v := .pointer (some ⟨B, 0, none⟩)) rfl (by kernel_rfl) (by kernel_rfl) (by kernel_rfl) (fun _ _ _ h => h) (Or.inl ⟨by rfl, ?y4⟩) (by assumption) ?r4
        case y4 => (intro w hSw; (try dsimp only at hSw); (try simp only [List.getElem_toArray, List.getElem_cons_zero, List.getElem_cons_succ]); go_simp; try with_reducible rfl)
        case r4 =>
        try simp only [Act.put, List.setIfInBounds_toArray, List.set_cons_zero, List.set_cons_succ, List.getElem_toArray, List.getElem_cons_zero, List.getElem_cons_succ]
        refine wpAnyH_take (i := 5) (v := .int .i64 (xa : Int)) rfl (by kernel_rfl) (by kernel_rfl) (by kernel_rfl) (fun _ _ _ h => h) (Or.inl ⟨by rfl, ?y5⟩) (by assumption) ?r5
        case y5 => (intro wq hSw; (have hs1 := hSw.1); (have hs2 := hSw.2.1); (try simp only [List.getElem_toArray, List.getElem_cons_zero, List.getElem_cons_succ]); go_simp; try with_reducible rfl)
        case r5 =>
        try simp only [Act.put, List.setIfInBounds_toArray, List.set_cons_zero, List.set_cons_succ, List.getElem_toArray, List.getElem_cons_zero, List.getElem_cons_succ]
        refine wpAnyH_take (i := 6) (v := .pointer (some ⟨B, 1, none⟩)) rfl (by kernel_rfl) (by kernel_rfl) (by kernel_rfl) (fun _ _ _ h => h) (Or.inl ⟨by rfl, ?y6⟩) (by assumption) ?r6
        case y6 => (intro w hSw; (try dsimp only at hSw); (try simp only [List.getElem_toArray, List.getElem_cons_zero, List.getElem_cons_succ]); go_simp; try with_reducible rfl)
        case r6 =>
        try simp only [Act.put, List.setIfInBounds_toArray, List.set_cons_zero, List.set_cons_succ, List.getElem_toArray, List.getElem_cons_zero, List.getElem_cons_succ]
        refine wpAnyH_take (i := 7) (v := .agg (secV xs).toArray) rfl (by kernel_rfl) (by kernel_rfl) (by kernel_rfl) (fun _ _ _ h => h) (yieldsIf_load_mid (by rfl) 76 (.tmp 25) rfl B 1 rfl (secV xs) _ (fun w hw => hw.2.2) Try.underlying76 rfl (sec_size' hx64)) (by assumption) ?r7
        case r7 =>
        try simp only [Act.put, List.setIfInBounds_toArray, List.set_cons_zero, List.set_cons_succ, List.getElem_toArray, List.getElem_cons_zero, List.getElem_cons_succ]
        refine wpAnyH_take (i := 8) (v := .pointer (some ⟨S, xa * 64, none⟩)) rfl (by kernel_rfl) (by kernel_rfl) (by kernel_rfl) (fun _ _ _ h => h) (Or.inl ⟨by rfl, ?y8⟩) (by assumption) ?r8
        case y8 => (intro w hSw; (try dsimp only at hSw); (try simp only [List.getElem_toArray, List.getElem_cons_zero, List.getElem_cons_succ]); go_simp; try with_reducible rfl)
        case r8 =>
        try simp only [Act.put, List.setIfInBounds_toArray, List.set_cons_zero, List.set_cons_succ, List.getElem_toArray, List.getElem_cons_zero, List.getElem_cons_succ]
        refine wpAnyH_ready (rs := [9]) (by kernel_rfl) (by simp) ?_
        refine AllReadyH.cons rfl (fun K hK => ?_) AllReadyH.nil
        rw [if_pos (by rfl)]
        refine wp_store_mid (op := ⟨none, .store 76 (.tmp 27) (.tmp 26), _, _, _, _⟩) 76 (.tmp 27) (.tmp 26) rfl S (xa * 64) (secV xs).toArray rfl rfl (sec_there hths hx64) (sec_size hx64) (all_oneCell_toArray (secV_one xs)) ?_
        have t6 := turn_setCells S (secV xs) (xa * 64) w3.drew
        change K _ (w3.drew.setCells S (xa * 64) (secV xs))
        have hd6 := (HD3.out.turn ((Turn.refl (fun _ => False) w3).drew) (fun _ _ => id)).setSafe xa (by rw [keepK_len]; exact hxk.1) xs hx64 hxk.2.2
        have HD6 := Lib.hid hd6
        have T6 := hTj.trans (T3.drew) (fun _ _ h => h.elim)
        have T7 := T6.trans t6 (fun _ _ h => h)
        refine hK.out _ _ ⟨(t6.cell (p := ⟨D, 0, none⟩) HD3.out.head.lt hDS).trans c0, (t6.cell (p := ⟨B, 0, none⟩) (World.block_lt_of_cell? w3 _ hc5) (fun e => hBS e.symm)).trans hc5, rangeAt_turn hr5 (((Turn.refl (fun q => q = S) w3).drew).trans t6 (fun _ _ h => h)) (fun e => hBS e.symm)⟩ (fun _ => ?_)
        clear hK K
        try simp only [Act.put, List.setIfInBounds_toArray, List.set_cons_zero, List.set_cons_succ, List.getElem_toArray, List.getElem_cons_zero, List.getElem_cons_succ]
        refine wpAnyH_done (by kernel_rfl) ?_ _
        clear hd6 t6 T6
        generalize w3.drew.setCells S (xa * 64) (secV xs) = w6 at HD6 T7 ⊢
        go_wp2_with fail
        go_roundw
        case rel =>
          refine ⟨j + 1, by omega, by go_num, ?_, T7⟩
          rw [HST.out, HF.out]; exact HD6.out
        case measure => simp [intOf]; omega
    · obtain rfl : j = n := by omega
      have hdj : decide ((j : Int) < (j : Int)) = false := by simp
      obtain ⟨_, c1, _⟩ := HDJ.out.head.all
      have f1 := HDJ.out.head.free 1
      dsimp only [DiskM.head] at c1
      have HCL := Lib.hid HDJ.out.clear
      have t7 := turn_cell wr D 1 (.slice none 0 0)
      go_wp2_with fail
      go_end0
      refine ⟨rfl, ?_, (hTj.mono (fun _ _ h => .inl h)).trans t7 (fun _ _ h => .inr h)⟩
      have h9 := HCL.out
      rw [← HN.out] at h9
      exact h9
end Go.Proofs.Ytakmkkgpkbpbkaa
