/- Own: the walk of StampReads. -/
import Derived.Test.YtimajdbgeibalaaDoorStrs
import Derived.Test.YtimajdbgeibalaaDoorSless
namespace Go.Proofs.YtimajdbgeibalaaDoor
open Go.RowKit
set_option linter.unusedVariables false
set_option linter.unusedSimpArgs false

theorem exec_convert {P : Program} (ev : Operand → Value) (op : Oper) (t u : TypeId) (x : Operand) (ho : op.op = .convert t u x) (a v : Value) (w : World) (hx : ev x = a)
    (h : (convert t u a).run P w = .ok v w) : (execOp ev op).run P w = .ok (.value v) w := by
  unfold execOp
  simp only [ho, hx, Sem.run_bind, Sem.run_pure, Result.andThen_ok, h]

theorem byt_set'' {xs : List Int} (h : ∀ x ∈ xs, Byt x) (q : Nat) {v : Int} (hv : Byt v) : ∀ x ∈ xs.set q v, Byt x := fun x hx => by
  rcases List.mem_or_eq_of_mem_set hx with h1 | h1
  · exact h x h1
  · exact h1 ▸ hv

set_option maxHeartbeats 8000000 in
set_option maxRecDepth 100000 in
theorem sreads_walk (xs0 ks : List Int) (at_ c : Int) (w : World) (hb0 : ∀ x ∈ xs0, Byt x) (hlk : ks.length = 32) (hbk : ∀ x ∈ ks, Byt x) (hat : Byt at_) (hc : Byt c) (ht : Tables w) (hl0 : xs0.length ≤ 9223372036854775807) :
    Calls Tryd.prog 6 #[.string (strOfNums xs0), .agg (ks.map (Value.int .u8)).toArray, .int .u8 at_, .int .u8 c] w fun e w' => e = .returned (.bool true) ∧ Turn (fun _ => False) w w' := by
  have HT := Lib.hid ht
  clear ht
  have hsz := nums_size xs0
  obtain ⟨st, hst⟩ : ∃ st, strOfNums xs0 = st := ⟨_, rfl⟩
  rw [hst] at hsz ⊢
  have HST := Lib.hid hst
  obtain ⟨n, hn⟩ : ∃ n, xs0.length = n := ⟨_, rfl⟩
  rw [hn] at hsz
  have HN := Lib.hid hn
  clear hst
  have hik : (Tryd.prog.info? 24).map (·.size) = some (ks.map (Value.int .u8)).length := by rw [size24]; simp [hlk]
  go_enter Tryd.func6, Tryd.ntmps6
  go_wp2_with fail
  have T0 := (Turn.refl (fun _ => False) w).alloc (.cells (ks.map (Value.int .u8)).toArray 24)
  have hB0 : BytesAt (w.alloc (.cells (ks.map (Value.int .u8)).toArray 24)) w.heap.size 24 ks := texts_start ks w
  generalize w.alloc (.cells (ks.map (Value.int .u8)).toArray 24) = w0 at T0 hB0 ⊢
  refine (awake_any _ (HT.out.turn T0)).mono ?_
  rintro e w1 ⟨rfl, t1⟩
  have T1 := T0.trans t1 (fun _ _ => id)
  have hB1 := hB0.turn t1 id
  clear T0 hB0 t1
  by_cases hlong : 100 < n
  · have hd : decide ((100 : Int) < (n : Int)) = true := by simp; omega
    go_wp2_with fail
    refine (awake_any _ (HT.out.turn T1)).mono ?_
    rintro e w2 ⟨rfl, t2⟩
    have T2 := T1.trans t2 (fun _ _ => id)
    go_wp2
    go_ret
    exact ⟨rfl, T2⟩
  have hd : decide ((100 : Int) < (n : Int)) = false := by simp; omega
  go_wp2_with (refine wpList_load_want (op := ⟨some 24, .load 24 (.tmp 5), _, _, _, _⟩) rfl 24 (.tmp 5) rfl w.heap.size 0 rfl (ks.map (Value.int .u8)) _ hB1.range Tryd.underlying24 rfl hik ?_)
  refine (text_any ks _ hlk hbk).mono ?_
  rintro e w2 ⟨rfl, t2⟩
  have T2 := T1.trans t2 (fun _ _ => id)
  have hB2 := hB1.turn t2 id
  clear T1 hB1 t2
  obtain ⟨cp, w3, hcv, t3, hs3, cells3, froz3, hcp⟩ := bytes_row (hexB ks) (hexB_bytes ks hbk) w2
  have h64 : (hexB ks).length = 64 := by rw [hexB_len]; omega
  rw [h64] at hcv cells3 froz3 hcp
  have hcp2 : (64 : Int) ≤ (cp : Int) := by omega
  have hcp3 : (63 : Int) ≤ (cp : Int) := by omega
  have hcp4 : ¬ (cp : Int) < 63 := by omega
  obtain ⟨q, hq⟩ : ∃ q : Nat, at_ % 64 = (q : Int) := ⟨(at_ % 64).toNat, by omega⟩
  have hq64 : q < 64 := by omega
  have hqi : (0 : Int) ≤ (q : Int) ∧ (q : Int) < 64 := by omega
  have hq2 : at_.tmod 64 = (q : Int) := by rw [Int.tmod_eq_emod_of_nonneg hat.1]; exact hq
  have c0 := cells3 q hq64
  have f0 := froz3 q hq64
  have HC3 := Lib.hid cells3
  have HF3 := Lib.hid froz3
  obtain ⟨B, hB⟩ : ∃ B, w2.heap.size = B := ⟨_, rfl⟩
  rw [hB] at hcv c0 f0
  have HBB := Lib.hid hB
  generalize (hexB ks).getD q 0 = y0 at c0
  generalize strOfNums (hexB ks) = su at hcv ⊢
  clear cells3 froz3 hB
  go_wp2_with fail
  have cells4 : ∀ j, j < 64 → (w3.setCell ⟨B, q, none⟩ (.int .u8 c)).cell? ⟨B, j, none⟩ = some (.int .u8 (((hexB ks).set q c).getD j 0)) := fun j hj => by
    have h3 := HC3.out j hj
    rw [HBB.out] at h3
    by_cases e : q = j
    · subst e
      rw [World.cell?_setCell_same (h := h3)]
      simp [List.getD, h64, hj]
    · rw [World.cell?_setCell_other (h := by simp [e]), h3]
      simp [List.getD, e]
  have t4 : Turn (fun k => k = B) w3 (w3.setCell ⟨B, q, none⟩ (.int .u8 c)) := Turn.setCell (S := fun k => k = B) (Turn.refl _ w3) (p := ⟨B, q, none⟩) (fun _ => rfl) _
  have hs2 := T2.size
  have T4 : Turn (fun _ => False) w (w3.setCell ⟨B, q, none⟩ (.int .u8 c)) := (T2.trans t3 (fun _ _ => id)).trans t4 (fun k hk h => by have := HBB.out; omega)
  have hbt : ∀ x ∈ (hexB ks).set q c, Byt x := byt_set'' (hexB_bytes ks hbk) q hc
  have hlt : ((hexB ks).set q c).length = 64 := by simp [h64]
  generalize (hexB ks).set q c = ts at cells4 hbt hlt
  generalize w3.setCell ⟨B, q, none⟩ (.int .u8 c) = w4 at cells4 T4 ⊢
  clear t4 t3 T2 hB2 hcv c0 f0 HC3 HF3 hs3 hs2
  obtain ⟨s1, hs1⟩ : ∃ s1, strOfNums ts = s1 := ⟨_, rfl⟩
  obtain ⟨s2, hs2⟩ : ∃ s2, strOfNums (ts.take 63) = s2 := ⟨_, rfl⟩
  have hz1 : s1.size = 64 := by rw [← hs1, nums_size, hlt]
  have hs3 : s1 ++ (⟨#[48]⟩ : ByteArray) = strOfNums (ts ++ [48]) := by rw [← hs1, ← nums_add]; rfl
  have conv64 : ∀ w', (∀ j, j < 64 → w'.cell? ⟨B, j, none⟩ = some (.int .u8 (ts.getD j 0))) → (convert 22 9 (.slice (some ⟨B, 0, none⟩) 64 cp)).run Tryd.prog w' = .ok (.string s1) w' := fun w' h => by
    rw [← hs1]
    exact Reads.conv (.inr ⟨B, 0, cp, by rw [hlt], by omega, fun i hi => by rw [Nat.zero_add]; exact h i (by omega)⟩)
  have conv63 : ∀ w', (∀ j, j < 64 → w'.cell? ⟨B, j, none⟩ = some (.int .u8 (ts.getD j 0))) → (convert 22 9 (.slice (some ⟨B, 0, none⟩) 63 cp)).run Tryd.prog w' = .ok (.string s2) w' := fun w' h => by
    rw [← hs2]
    refine Reads.conv (.inr ⟨B, 0, cp, by simp [hlt], by simp [hlt]; omega, fun i hi => ?_⟩)
    simp [hlt] at hi
    rw [Nat.zero_add, h i (by omega)]
    simp [List.getD, hi]
  have H64 := Lib.hid conv64
  have H63 := Lib.hid conv63
  have HS1 := Lib.hid hs1
  have HS2 := Lib.hid hs2
  have HS3 := Lib.hid hs3
  clear conv64 conv63 hs1 hs2 hs3
  refine wp_region_held_drew (S := fun w' => ∀ j, j < 64 → w'.cell? ⟨B, j, none⟩ = some (.int .u8 (ts.getD j 0))) (by kernel_rfl) cells4 (fun hHeld => ?_)
  refine wpAnyH_take (i := 0) (v := .string st) rfl (by kernel_rfl) (by kernel_rfl) (by kernel_rfl) (fun _ _ _ h => h) (Or.inl ⟨by rfl, ?y0⟩) (by assumption) ?r0
  case y0 => (intro w hSw; (try dsimp only at hSw); (try simp only [List.getElem_toArray, List.getElem_cons_zero, List.getElem_cons_succ]); go_simp; try with_reducible rfl)
  case r0 =>
  try simp only [Act.put, List.setIfInBounds_toArray, List.set_cons_zero, List.set_cons_succ, List.getElem_toArray, List.getElem_cons_zero, List.getElem_cons_succ]
  refine wpAnyH_take (i := 1) (v := .slice (some ⟨B, 0, none⟩) 64 cp) rfl (by kernel_rfl) (by kernel_rfl) (by kernel_rfl) (fun _ _ _ h => h) (Or.inl ⟨by rfl, ?y1⟩) (by assumption) ?r1
  case y1 => (intro w hSw; (try dsimp only at hSw); (try simp only [List.getElem_toArray, List.getElem_cons_zero, List.getElem_cons_succ]); go_simp; try with_reducible rfl)
  case r1 =>
  try simp only [Act.put, List.setIfInBounds_toArray, List.set_cons_zero, List.set_cons_succ, List.getElem_toArray, List.getElem_cons_zero, List.getElem_cons_succ]
  refine wpAnyH_take (i := 2) (v := .string s1) rfl (by kernel_rfl) (by kernel_rfl) (by kernel_rfl) (fun _ _ _ h => h) (Or.inl ⟨by rfl, ?y2⟩) (by assumption) ?r2
  case y2 => (intro wq hSw; exact exec_convert _ _ 22 9 (.tmp 36) rfl _ _ _ rfl (H64.out _ hSw))
  case r2 =>
  try simp only [Act.put, List.setIfInBounds_toArray, List.set_cons_zero, List.set_cons_succ, List.getElem_toArray, List.getElem_cons_zero, List.getElem_cons_succ]
  refine wpAnyH_take (i := 3) (v := .slice (some ⟨B, 0, none⟩) 64 cp) rfl (by kernel_rfl) (by kernel_rfl) (by kernel_rfl) (fun _ _ _ h => h) (Or.inl ⟨by rfl, ?y3⟩) (by assumption) ?r3
  case y3 => (intro w hSw; (try dsimp only at hSw); (try simp only [List.getElem_toArray, List.getElem_cons_zero, List.getElem_cons_succ]); go_simp; try with_reducible rfl)
  case r3 =>
  try simp only [Act.put, List.setIfInBounds_toArray, List.set_cons_zero, List.set_cons_succ, List.getElem_toArray, List.getElem_cons_zero, List.getElem_cons_succ]
  refine wpAnyH_take (i := 4) (v := .slice (some ⟨B, 0, none⟩) 63 cp) rfl (by kernel_rfl) (by kernel_rfl) (by kernel_rfl) (fun _ _ _ h => h) (Or.inl ⟨by rfl, ?y4⟩) (by assumption) ?r4
  case y4 => (intro w hSw; (try dsimp only at hSw); (try simp only [List.getElem_toArray, List.getElem_cons_zero, List.getElem_cons_succ]); go_simp; try with_reducible rfl)
  case r4 =>
  try simp only [Act.put, List.setIfInBounds_toArray, List.set_cons_zero, List.set_cons_succ, List.getElem_toArray, List.getElem_cons_zero, List.getElem_cons_succ]
  refine wpAnyH_take (i := 5) (v := .string s2) rfl (by kernel_rfl) (by kernel_rfl) (by kernel_rfl) (fun _ _ _ h => h) (Or.inl ⟨by rfl, ?y5⟩) (by assumption) ?r5
  case y5 => (intro wq hSw; exact exec_convert _ _ 22 9 (.tmp 39) rfl _ _ _ rfl (H63.out _ hSw))
  case r5 =>
  try simp only [Act.put, List.setIfInBounds_toArray, List.set_cons_zero, List.set_cons_succ, List.getElem_toArray, List.getElem_cons_zero, List.getElem_cons_succ]
  refine wpAnyH_take (i := 6) (v := .slice (some ⟨B, 0, none⟩) 64 cp) rfl (by kernel_rfl) (by kernel_rfl) (by kernel_rfl) (fun _ _ _ h => h) (Or.inl ⟨by rfl, ?y6⟩) (by assumption) ?r6
  case y6 => (intro w hSw; (try dsimp only at hSw); (try simp only [List.getElem_toArray, List.getElem_cons_zero, List.getElem_cons_succ]); go_simp; try with_reducible rfl)
  case r6 =>
  try simp only [Act.put, List.setIfInBounds_toArray, List.set_cons_zero, List.set_cons_succ, List.getElem_toArray, List.getElem_cons_zero, List.getElem_cons_succ]
  refine wpAnyH_take (i := 7) (v := .string s1) rfl (by kernel_rfl) (by kernel_rfl) (by kernel_rfl) (fun _ _ _ h => h) (Or.inl ⟨by rfl, ?y7⟩) (by assumption) ?r7
  case y7 => (intro wq hSw; exact exec_convert _ _ 22 9 (.tmp 41) rfl _ _ _ rfl (H64.out _ hSw))
  case r7 =>
  try simp only [Act.put, List.setIfInBounds_toArray, List.set_cons_zero, List.set_cons_succ, List.getElem_toArray, List.getElem_cons_zero, List.getElem_cons_succ]
  refine wpAnyH_take (i := 8) (v := .string (s1 ++ (⟨#[48]⟩ : ByteArray))) rfl (by kernel_rfl) (by kernel_rfl) (by kernel_rfl) (fun _ _ _ h => h) (Or.inl ⟨by rfl, ?y8⟩) (by assumption) ?r8
  case y8 => (intro w hSw; (try dsimp only at hSw); (try simp only [List.getElem_toArray, List.getElem_cons_zero, List.getElem_cons_succ]); go_simp; try with_reducible rfl)
  case r8 =>
  try simp only [Act.put, List.setIfInBounds_toArray, List.set_cons_zero, List.set_cons_succ, List.getElem_toArray, List.getElem_cons_zero, List.getElem_cons_succ]
  refine wpAnyH_take (i := 11) (v := .int .i64 0) rfl (by kernel_rfl) (by kernel_rfl) (by kernel_rfl) (fun _ _ _ h => h) (Or.inl ⟨by rfl, ?y11⟩) (by assumption) ?r11
  case y11 => (intro w hSw; (try dsimp only at hSw); (try simp only [List.getElem_toArray, List.getElem_cons_zero, List.getElem_cons_succ]); go_simp; try with_reducible rfl)
  case r11 =>
  try simp only [Act.put, List.setIfInBounds_toArray, List.set_cons_zero, List.set_cons_succ, List.getElem_toArray, List.getElem_cons_zero, List.getElem_cons_succ]
  have T5 := T4.drew
  generalize w4.drew = w5 at T5 hHeld ⊢
  clear T4 cells4 H64 H63
  refine wpAnyH_ready (rs := [9]) (by kernel_rfl) (by simp) ?_
  refine AllReadyH.cons rfl (fun K hK => ?_) AllReadyH.nil
  go_simp
  refine hK.out _ _ (fun j hj => by rw [World.cell?_alloc_past _ _ _ (World.block_lt_of_cell? w5 _ (hHeld j hj))]; exact hHeld j hj) (fun _ => ?_)
  clear hK K
  try simp only [Act.put, List.setIfInBounds_toArray, List.set_cons_zero, List.set_cons_succ, List.getElem_toArray, List.getElem_cons_zero, List.getElem_cons_succ]
  refine wpAnyH_take (i := 10) (v := .int .i64 4) rfl (by kernel_rfl) (by kernel_rfl) (by kernel_rfl) (fun _ _ _ h => h) (Or.inl ⟨by rfl, ?y10⟩) (by assumption) ?r10
  case y10 => (intro w hSw; (try dsimp only at hSw); (try simp only [List.getElem_toArray, List.getElem_cons_zero, List.getElem_cons_succ]); go_simp; try with_reducible rfl)
  case r10 =>
  try simp only [Act.put, List.setIfInBounds_toArray, List.set_cons_zero, List.set_cons_succ, List.getElem_toArray, List.getElem_cons_zero, List.getElem_cons_succ]
  refine wpAnyH_done (by kernel_rfl) ?_ _
  have T6 := T5.alloc (.cells #[.string st, .string s1, .string s2, .string (s1 ++ (⟨#[48]⟩ : ByteArray))] 9)
  have hcs : ∀ i, i < 4 → ∃ xs : List Int, (w5.alloc (.cells #[.string st, .string s1, .string s2, .string (s1 ++ (⟨#[48]⟩ : ByteArray))] 9)).cell? ⟨w5.heap.size, i, none⟩ = some (.string (strOfNums xs)) ∧ (∀ x ∈ xs, Byt x) ∧ xs.length ≤ 200 := fun i hi => by
    rw [cell_of_row _ _ _ _ 9 (0, 0) (heap_alloc_new w5 _)]
    match i, hi with
    | 0, _ => exact ⟨xs0, by rw [HST.out]; rfl, hb0, by omega⟩
    | 1, _ => exact ⟨ts, by rw [HS1.out]; rfl, hbt, by omega⟩
    | 2, _ => exact ⟨ts.take 63, by rw [HS2.out]; rfl, fun x hx => hbt x (List.mem_of_mem_take hx), by simp; omega⟩
    | 3, _ => exact ⟨ts ++ [48], by rw [← HS3.out]; rfl, fun x hx => by
        rcases List.mem_append.1 hx with h | h
        · exact hbt x h
        · obtain rfl : x = 48 := by simpa using h
          exact ⟨by decide, by decide⟩, by simp; omega⟩
  generalize w5.alloc (.cells #[.string st, .string s1, .string s2, .string (s1 ++ (⟨#[48]⟩ : ByteArray))] 9) = w6 at T6 hcs ⊢
  have HB4 := Lib.hid (show w.heap.size ≤ w5.heap.size from T5.size)
  generalize w5.heap.size = B4 at hcs HB4 ⊢
  generalize s1 ++ (⟨#[48]⟩ : ByteArray) = s4 at HS3 ⊢
  clear T5 hHeld
  go_wp2_with fail
  go_loopw [46] (fun iv wr => ∃ k : Nat, k ≤ 4 ∧ iv = .int .i64 (k : Int) ∧ Turn (fun _ => False) w6 wr ∧ Turn (fun _ => False) w wr) (fun iv _ => (4 - intOf iv).toNat)
  case atStart => exact ⟨0, by omega, rfl, Turn.refl _ _, T6⟩
  case round =>
    clear T6
    obtain ⟨k, hk, rfl, h6, hT⟩ := hrel
    by_cases hk4 : k < 4
    · obtain ⟨xs, hcell0, hbx, hlx⟩ := hcs k hk4
      have hcell := (h6.cell (p := ⟨B4, k, none⟩) (World.block_lt_of_cell? w6 _ hcell0) id).trans hcell0
      have hd : decide ((k : Int) < 4) = true := by simp; omega
      have hkk : (0 : Int) ≤ (k : Int) ∧ (k : Int) < 4 := by omega
      have hkj : (k : Int) < 4 := by omega
      have hsx := nums_size xs
      obtain ⟨m, hm⟩ : ∃ m, xs.length = m := ⟨_, rfl⟩
      rw [hm] at hsx
      have HM := Lib.hid hm
      have HCS := Lib.hid hcs
      have i25 : (Tryd.prog.info? 25).map (·.size) = some ((readK xs).map (Value.int .u8)).toArray.size := by rw [size25]; simp [readK_len]
      have i25' : (Tryd.prog.info? 25).map (·.size) = some ((readK xs).map (Value.int .u8)).length := by rw [size25]; simp [readK_len]
      have h1c : ((readK xs).map (Value.int .u8)).toArray.all (·.oneCell') = true := all_oneCell_toArray (ints_oneCell _ _)
      have hix : ∀ (j : Nat) (w : World), j < m → (Instr.index 9 (.string (strOfNums xs)) (.int .i64 (j : Int))).run Tryd.prog w = .ok (.int .u8 (xs.getD j 0)) w := fun j w hj => run_index_nums xs j w (by omega) hbx
      have HIX := Lib.hid hix
      clear hcs hcell0 hm hix
      go_wp2_with fail
      rcases Bool.eq_false_or_eq_true (readOk xs) with hok | hok
      · refine (read_any xs _ hbx (by have := HM.out; omega)).mono ?_
        rintro e wa ⟨rfl, tA⟩
        rw [hok]
        go_wp2_with (first | (generalize hW : World.alloc wa _ = W; refine wpList_store_mid (op := ⟨none, .store 25 (.tmp 12) (.tmp 53), _, _, _, _⟩) rfl 25 (.tmp 12) (.tmp 53) rfl wa.heap.size 0 ((readK xs).map (Value.int .u8)).toArray rfl rfl (texts_there wa W (readK xs) (readK_len xs) hW) i25 h1c ?_; have tW : Turn (fun _ => False) wa W := (by subst hW; exact (Turn.refl _ wa).alloc _); have hth := texts_there wa W (readK xs) (readK_len xs) hW; clear hW; have hrg := World.rangeAt_setCells_same W wa.heap.size 0 ((readK xs).map (Value.int .u8)) (by simpa using hth); have tS := turn_setCells wa.heap.size ((readK xs).map (Value.int .u8)) 0 W; have tB := (tA.trans tW (fun _ _ => id)).trans tS (fun z hz h => by have := tA.size; omega); change wpList _ _ _ _ _ (W.setCells wa.heap.size 0 ((readK xs).map (Value.int .u8))); generalize W.setCells wa.heap.size 0 ((readK xs).map (Value.int .u8)) = wb at hrg tS tB ⊢; clear tS tW hth; generalize wa.heap.size = Bx at hrg ⊢) | (refine wpList_load_want (op := ⟨some 57, .load 25 (.tmp 12), _, _, _, _⟩) rfl 25 (.tmp 12) rfl Bx 0 rfl ((readK xs).map (Value.int .u8)) _ hrg Tryd.underlying25 rfl i25' ?_))
        refine (text_any (readK xs) _ (readK_len xs) (readK_byt xs)).mono ?_
        rintro e wc ⟨rfl, tC⟩
        rw [hex_read xs hbx hok]
        have tD := tB.trans tC (fun _ _ => id)
        clear tA tB tC hrg
        go_wp2_with fail
        have h7 := h6.trans tD (fun _ _ => id)
        have hT7 := hT.trans tD (fun _ _ => id)
        clear tD h6 hT hcell
        go_loopw [14, 15] (fun rv jv wr2 => ∃ j : Nat, j ≤ m ∧ jv = .int .i64 (j : Int) ∧ rv = .bool (rightB xs j) ∧ wr2 = wc) (fun _ jv _ => (m - intOf jv).toNat)
        case atStart => exact ⟨0, by omega, rfl, by rw [show rightB xs 0 = (m == 64) by simp [rightB, HM.out]]; congr 1; rw [Bool.eq_iff_iff]; simp <;> omega, rfl⟩
        case round =>
          obtain ⟨j, hj, rfl, rfl, rfl⟩ := hrel
          by_cases hjm : j < m
          · have hdj : decide ((j : Int) < (m : Int)) = true := by simp; omega
            have HIJ := Lib.hid (fun w => HIX.out j w hjm)
            have hst := rightB_succ xs j
            obtain ⟨cc, hcc⟩ : ∃ cc, xs.getD j 0 = cc := ⟨_, rfl⟩
            rw [hcc] at hst HIJ
            obtain ⟨rr, hrr⟩ : ∃ rr, rightB xs j = rr := ⟨_, rfl⟩
            rw [hrr] at hst ⊢
            have HSTP := Lib.hid hst
            clear hst hcc hrr
            have hm200 : m ≤ 200 := by rw [← HM.out]; exact hlx
            have jw : IntKind.i64.wrap ((j : Int) + 1) = (j : Int) + 1 := IntWalk.i64_in _ (by omega)
            cases rr
            · go_wp2_with fail
              go_roundw
              case rel => exact ⟨j + 1, by omega, by go_num, by rw [HSTP.out]; rfl, trivial⟩
              case measure => simp [intOf]; omega
            · rcases (show cc < 48 ∨ (48 ≤ cc ∧ cc ≤ 57) ∨ (57 < cc ∧ cc < 97) ∨ (97 ≤ cc ∧ cc ≤ 102) ∨ 102 < cc by omega) with hcc | hcc | hcc | hcc | hcc
              · have a1 : decide ((48 : Int) ≤ cc) = false := by simp; omega
                have a2 : decide (cc ≤ (57 : Int)) = true := by simp; omega
                have a3 : decide ((97 : Int) ≤ cc) = false := by simp; omega
                have a4 : decide (cc ≤ (102 : Int)) = true := by simp; omega
                have hdg : digitB cc = false := by unfold digitB; rw [a1, a2, a3, a4]; rfl
                go_wp2_with (first | (refine wpList_exec_want (op := ⟨some 84, .index 9 (.tmp 82) (.tmp 83), _, _, _, _⟩) rfl (.int .u8 cc) _ (exec_index _ _ 9 (.tmp 82) (.tmp 83) rfl (.string (strOfNums xs)) (.int .i64 (j : Int)) _ _ rfl rfl (HIJ.out _)) ?_) | (refine wpList_exec_want (op := ⟨some 89, .index 9 (.tmp 87) (.tmp 88), _, _, _, _⟩) rfl (.int .u8 cc) _ (exec_index _ _ 9 (.tmp 87) (.tmp 88) rfl (.string (strOfNums xs)) (.int .i64 (j : Int)) _ _ rfl rfl (HIJ.out _)) ?_) | (refine wpList_exec_want (op := ⟨some 95, .index 9 (.tmp 93) (.tmp 94), _, _, _, _⟩) rfl (.int .u8 cc) _ (exec_index _ _ 9 (.tmp 93) (.tmp 94) rfl (.string (strOfNums xs)) (.int .i64 (j : Int)) _ _ rfl rfl (HIJ.out _)) ?_) | (refine wpList_exec_want (op := ⟨some 100, .index 9 (.tmp 98) (.tmp 99), _, _, _, _⟩) rfl (.int .u8 cc) _ (exec_index _ _ 9 (.tmp 98) (.tmp 99) rfl (.string (strOfNums xs)) (.int .i64 (j : Int)) _ _ rfl rfl (HIJ.out _)) ?_))
                go_roundw
                case rel => exact ⟨j + 1, by omega, by go_num, by rw [HSTP.out, hdg]; rfl, trivial⟩
                case measure => simp [intOf]; omega
              · have a1 : decide ((48 : Int) ≤ cc) = true := by simp; omega
                have a2 : decide (cc ≤ (57 : Int)) = true := by simp; omega
                have a3 : decide ((97 : Int) ≤ cc) = false := by simp; omega
                have a4 : decide (cc ≤ (102 : Int)) = true := by simp; omega
                have hdg : digitB cc = true := by unfold digitB; rw [a1, a2, a3, a4]; rfl
                go_wp2_with (first | (refine wpList_exec_want (op := ⟨some 84, .index 9 (.tmp 82) (.tmp 83), _, _, _, _⟩) rfl (.int .u8 cc) _ (exec_index _ _ 9 (.tmp 82) (.tmp 83) rfl (.string (strOfNums xs)) (.int .i64 (j : Int)) _ _ rfl rfl (HIJ.out _)) ?_) | (refine wpList_exec_want (op := ⟨some 89, .index 9 (.tmp 87) (.tmp 88), _, _, _, _⟩) rfl (.int .u8 cc) _ (exec_index _ _ 9 (.tmp 87) (.tmp 88) rfl (.string (strOfNums xs)) (.int .i64 (j : Int)) _ _ rfl rfl (HIJ.out _)) ?_) | (refine wpList_exec_want (op := ⟨some 95, .index 9 (.tmp 93) (.tmp 94), _, _, _, _⟩) rfl (.int .u8 cc) _ (exec_index _ _ 9 (.tmp 93) (.tmp 94) rfl (.string (strOfNums xs)) (.int .i64 (j : Int)) _ _ rfl rfl (HIJ.out _)) ?_) | (refine wpList_exec_want (op := ⟨some 100, .index 9 (.tmp 98) (.tmp 99), _, _, _, _⟩) rfl (.int .u8 cc) _ (exec_index _ _ 9 (.tmp 98) (.tmp 99) rfl (.string (strOfNums xs)) (.int .i64 (j : Int)) _ _ rfl rfl (HIJ.out _)) ?_))
                go_roundw
                case rel => exact ⟨j + 1, by omega, by go_num, by rw [HSTP.out, hdg]; rfl, trivial⟩
                case measure => simp [intOf]; omega
              · have a1 : decide ((48 : Int) ≤ cc) = true := by simp; omega
                have a2 : decide (cc ≤ (57 : Int)) = false := by simp; omega
                have a3 : decide ((97 : Int) ≤ cc) = false := by simp; omega
                have a4 : decide (cc ≤ (102 : Int)) = true := by simp; omega
                have hdg : digitB cc = false := by unfold digitB; rw [a1, a2, a3, a4]; rfl
                go_wp2_with (first | (refine wpList_exec_want (op := ⟨some 84, .index 9 (.tmp 82) (.tmp 83), _, _, _, _⟩) rfl (.int .u8 cc) _ (exec_index _ _ 9 (.tmp 82) (.tmp 83) rfl (.string (strOfNums xs)) (.int .i64 (j : Int)) _ _ rfl rfl (HIJ.out _)) ?_) | (refine wpList_exec_want (op := ⟨some 89, .index 9 (.tmp 87) (.tmp 88), _, _, _, _⟩) rfl (.int .u8 cc) _ (exec_index _ _ 9 (.tmp 87) (.tmp 88) rfl (.string (strOfNums xs)) (.int .i64 (j : Int)) _ _ rfl rfl (HIJ.out _)) ?_) | (refine wpList_exec_want (op := ⟨some 95, .index 9 (.tmp 93) (.tmp 94), _, _, _, _⟩) rfl (.int .u8 cc) _ (exec_index _ _ 9 (.tmp 93) (.tmp 94) rfl (.string (strOfNums xs)) (.int .i64 (j : Int)) _ _ rfl rfl (HIJ.out _)) ?_) | (refine wpList_exec_want (op := ⟨some 100, .index 9 (.tmp 98) (.tmp 99), _, _, _, _⟩) rfl (.int .u8 cc) _ (exec_index _ _ 9 (.tmp 98) (.tmp 99) rfl (.string (strOfNums xs)) (.int .i64 (j : Int)) _ _ rfl rfl (HIJ.out _)) ?_))
                go_roundw
                case rel => exact ⟨j + 1, by omega, by go_num, by rw [HSTP.out, hdg]; rfl, trivial⟩
                case measure => simp [intOf]; omega
              · have a1 : decide ((48 : Int) ≤ cc) = true := by simp; omega
                have a2 : decide (cc ≤ (57 : Int)) = false := by simp; omega
                have a3 : decide ((97 : Int) ≤ cc) = true := by simp; omega
                have a4 : decide (cc ≤ (102 : Int)) = true := by simp; omega
                have hdg : digitB cc = true := by unfold digitB; rw [a1, a2, a3, a4]; rfl
                go_wp2_with (first | (refine wpList_exec_want (op := ⟨some 84, .index 9 (.tmp 82) (.tmp 83), _, _, _, _⟩) rfl (.int .u8 cc) _ (exec_index _ _ 9 (.tmp 82) (.tmp 83) rfl (.string (strOfNums xs)) (.int .i64 (j : Int)) _ _ rfl rfl (HIJ.out _)) ?_) | (refine wpList_exec_want (op := ⟨some 89, .index 9 (.tmp 87) (.tmp 88), _, _, _, _⟩) rfl (.int .u8 cc) _ (exec_index _ _ 9 (.tmp 87) (.tmp 88) rfl (.string (strOfNums xs)) (.int .i64 (j : Int)) _ _ rfl rfl (HIJ.out _)) ?_) | (refine wpList_exec_want (op := ⟨some 95, .index 9 (.tmp 93) (.tmp 94), _, _, _, _⟩) rfl (.int .u8 cc) _ (exec_index _ _ 9 (.tmp 93) (.tmp 94) rfl (.string (strOfNums xs)) (.int .i64 (j : Int)) _ _ rfl rfl (HIJ.out _)) ?_) | (refine wpList_exec_want (op := ⟨some 100, .index 9 (.tmp 98) (.tmp 99), _, _, _, _⟩) rfl (.int .u8 cc) _ (exec_index _ _ 9 (.tmp 98) (.tmp 99) rfl (.string (strOfNums xs)) (.int .i64 (j : Int)) _ _ rfl rfl (HIJ.out _)) ?_))
                go_roundw
                case rel => exact ⟨j + 1, by omega, by go_num, by rw [HSTP.out, hdg]; rfl, trivial⟩
                case measure => simp [intOf]; omega
              · have a1 : decide ((48 : Int) ≤ cc) = true := by simp; omega
                have a2 : decide (cc ≤ (57 : Int)) = false := by simp; omega
                have a3 : decide ((97 : Int) ≤ cc) = true := by simp; omega
                have a4 : decide (cc ≤ (102 : Int)) = false := by simp; omega
                have hdg : digitB cc = false := by unfold digitB; rw [a1, a2, a3, a4]; rfl
                go_wp2_with (first | (refine wpList_exec_want (op := ⟨some 84, .index 9 (.tmp 82) (.tmp 83), _, _, _, _⟩) rfl (.int .u8 cc) _ (exec_index _ _ 9 (.tmp 82) (.tmp 83) rfl (.string (strOfNums xs)) (.int .i64 (j : Int)) _ _ rfl rfl (HIJ.out _)) ?_) | (refine wpList_exec_want (op := ⟨some 89, .index 9 (.tmp 87) (.tmp 88), _, _, _, _⟩) rfl (.int .u8 cc) _ (exec_index _ _ 9 (.tmp 87) (.tmp 88) rfl (.string (strOfNums xs)) (.int .i64 (j : Int)) _ _ rfl rfl (HIJ.out _)) ?_) | (refine wpList_exec_want (op := ⟨some 95, .index 9 (.tmp 93) (.tmp 94), _, _, _, _⟩) rfl (.int .u8 cc) _ (exec_index _ _ 9 (.tmp 93) (.tmp 94) rfl (.string (strOfNums xs)) (.int .i64 (j : Int)) _ _ rfl rfl (HIJ.out _)) ?_) | (refine wpList_exec_want (op := ⟨some 100, .index 9 (.tmp 98) (.tmp 99), _, _, _, _⟩) rfl (.int .u8 cc) _ (exec_index _ _ 9 (.tmp 98) (.tmp 99) rfl (.string (strOfNums xs)) (.int .i64 (j : Int)) _ _ rfl rfl (HIJ.out _)) ?_))
                go_roundw
                case rel => exact ⟨j + 1, by omega, by go_num, by rw [HSTP.out, hdg]; rfl, trivial⟩
                case measure => simp [intOf]; omega
          · obtain rfl : j = m := by omega
            have hdj : decide ((j : Int) < (j : Int)) = false := by simp
            have hrd : rightB xs j = true := by rw [← HM.out, right_read xs hbx]; exact hok
            rw [hrd]
            go_wp2
            go_roundw
            case rel => exact ⟨k + 1, by omega, by go_num, h7, hT7⟩
            case measure => simp [intOf]; omega
      · have HZ := Lib.hid (show readK xs = List.replicate 32 0 by unfold readK; rw [hok]; rfl)
        refine (read_any xs _ hbx (by have := HM.out; omega)).mono ?_
        rintro e wa ⟨rfl, tA⟩
        rw [hok]
        go_wp2_with (first | (generalize hW : World.alloc wa _ = W; refine wpList_store_mid (op := ⟨none, .store 25 (.tmp 12) (.tmp 53), _, _, _, _⟩) rfl 25 (.tmp 12) (.tmp 53) rfl wa.heap.size 0 ((readK xs).map (Value.int .u8)).toArray rfl rfl (texts_there wa W (readK xs) (readK_len xs) hW) i25 h1c ?_; have tW : Turn (fun _ => False) wa W := (by subst hW; exact (Turn.refl _ wa).alloc _); have hth := texts_there wa W (readK xs) (readK_len xs) hW; clear hW; have hrg := World.rangeAt_setCells_same W wa.heap.size 0 ((readK xs).map (Value.int .u8)) (by simpa using hth); have tS := turn_setCells wa.heap.size ((readK xs).map (Value.int .u8)) 0 W; have tB := (tA.trans tW (fun _ _ => id)).trans tS (fun z hz h => by have := tA.size; omega); change wpList _ _ _ _ _ (W.setCells wa.heap.size 0 ((readK xs).map (Value.int .u8))); generalize W.setCells wa.heap.size 0 ((readK xs).map (Value.int .u8)) = wb at hrg tS tB ⊢; clear tS tW hth; generalize wa.heap.size = Bx at hrg ⊢) | (refine wpList_load_want (op := ⟨some 66, .load 25 (.tmp 12), _, _, _, _⟩) rfl 25 (.tmp 12) rfl Bx 0 rfl ((readK xs).map (Value.int .u8)) _ hrg Tryd.underlying25 rfl i25' ?_) | (refine wpList_exec_want (op := ⟨some 68, .binOp .neq 25 (.tmp 66) (.tmp 67) 25, _, _, _, _⟩) rfl (.bool false) _ (exec_bin _ _ .neq 25 (.tmp 66) (.tmp 67) 25 rfl (.agg ((readK xs).map (Value.int .u8)).toArray) (.agg ((List.replicate 32 (0 : Int)).map (Value.int .u8)).toArray) _ _ rfl rfl (run_eqGuard_agg (P := Tryd.prog) _ .neq 25 _ _ _ _ (by kernel_rfl)) ((run_apart 25 32 Tryd.underlying25 _ _ (readK_len xs) (by simp) _).trans (by rw [HZ.out]; simp))) ?_))
        clear tA hrg
        have h7 := h6.trans tB (fun _ _ => id)
        have hT7 := hT.trans tB (fun _ _ => id)
        clear tB h6 hT hcell
        go_loopw [14, 15] (fun rv jv wr2 => ∃ j : Nat, j ≤ m ∧ jv = .int .i64 (j : Int) ∧ rv = .bool (rightB xs j) ∧ wr2 = wb) (fun _ jv _ => (m - intOf jv).toNat)
        case atStart => exact ⟨0, by omega, rfl, by rw [show rightB xs 0 = (m == 64) by simp [rightB, HM.out]]; congr 1; rw [Bool.eq_iff_iff]; simp <;> omega, rfl⟩
        case round =>
          obtain ⟨j, hj, rfl, rfl, rfl⟩ := hrel
          by_cases hjm : j < m
          · have hdj : decide ((j : Int) < (m : Int)) = true := by simp; omega
            have HIJ := Lib.hid (fun w => HIX.out j w hjm)
            have hst := rightB_succ xs j
            obtain ⟨cc, hcc⟩ : ∃ cc, xs.getD j 0 = cc := ⟨_, rfl⟩
            rw [hcc] at hst HIJ
            obtain ⟨rr, hrr⟩ : ∃ rr, rightB xs j = rr := ⟨_, rfl⟩
            rw [hrr] at hst ⊢
            have HSTP := Lib.hid hst
            clear hst hcc hrr
            have hm200 : m ≤ 200 := by rw [← HM.out]; exact hlx
            have jw : IntKind.i64.wrap ((j : Int) + 1) = (j : Int) + 1 := IntWalk.i64_in _ (by omega)
            cases rr
            · go_wp2_with fail
              go_roundw
              case rel => exact ⟨j + 1, by omega, by go_num, by rw [HSTP.out]; rfl, trivial⟩
              case measure => simp [intOf]; omega
            · rcases (show cc < 48 ∨ (48 ≤ cc ∧ cc ≤ 57) ∨ (57 < cc ∧ cc < 97) ∨ (97 ≤ cc ∧ cc ≤ 102) ∨ 102 < cc by omega) with hcc | hcc | hcc | hcc | hcc
              · have a1 : decide ((48 : Int) ≤ cc) = false := by simp; omega
                have a2 : decide (cc ≤ (57 : Int)) = true := by simp; omega
                have a3 : decide ((97 : Int) ≤ cc) = false := by simp; omega
                have a4 : decide (cc ≤ (102 : Int)) = true := by simp; omega
                have hdg : digitB cc = false := by unfold digitB; rw [a1, a2, a3, a4]; rfl
                go_wp2_with (first | (refine wpList_exec_want (op := ⟨some 84, .index 9 (.tmp 82) (.tmp 83), _, _, _, _⟩) rfl (.int .u8 cc) _ (exec_index _ _ 9 (.tmp 82) (.tmp 83) rfl (.string (strOfNums xs)) (.int .i64 (j : Int)) _ _ rfl rfl (HIJ.out _)) ?_) | (refine wpList_exec_want (op := ⟨some 89, .index 9 (.tmp 87) (.tmp 88), _, _, _, _⟩) rfl (.int .u8 cc) _ (exec_index _ _ 9 (.tmp 87) (.tmp 88) rfl (.string (strOfNums xs)) (.int .i64 (j : Int)) _ _ rfl rfl (HIJ.out _)) ?_) | (refine wpList_exec_want (op := ⟨some 95, .index 9 (.tmp 93) (.tmp 94), _, _, _, _⟩) rfl (.int .u8 cc) _ (exec_index _ _ 9 (.tmp 93) (.tmp 94) rfl (.string (strOfNums xs)) (.int .i64 (j : Int)) _ _ rfl rfl (HIJ.out _)) ?_) | (refine wpList_exec_want (op := ⟨some 100, .index 9 (.tmp 98) (.tmp 99), _, _, _, _⟩) rfl (.int .u8 cc) _ (exec_index _ _ 9 (.tmp 98) (.tmp 99) rfl (.string (strOfNums xs)) (.int .i64 (j : Int)) _ _ rfl rfl (HIJ.out _)) ?_))
                go_roundw
                case rel => exact ⟨j + 1, by omega, by go_num, by rw [HSTP.out, hdg]; rfl, trivial⟩
                case measure => simp [intOf]; omega
              · have a1 : decide ((48 : Int) ≤ cc) = true := by simp; omega
                have a2 : decide (cc ≤ (57 : Int)) = true := by simp; omega
                have a3 : decide ((97 : Int) ≤ cc) = false := by simp; omega
                have a4 : decide (cc ≤ (102 : Int)) = true := by simp; omega
                have hdg : digitB cc = true := by unfold digitB; rw [a1, a2, a3, a4]; rfl
                go_wp2_with (first | (refine wpList_exec_want (op := ⟨some 84, .index 9 (.tmp 82) (.tmp 83), _, _, _, _⟩) rfl (.int .u8 cc) _ (exec_index _ _ 9 (.tmp 82) (.tmp 83) rfl (.string (strOfNums xs)) (.int .i64 (j : Int)) _ _ rfl rfl (HIJ.out _)) ?_) | (refine wpList_exec_want (op := ⟨some 89, .index 9 (.tmp 87) (.tmp 88), _, _, _, _⟩) rfl (.int .u8 cc) _ (exec_index _ _ 9 (.tmp 87) (.tmp 88) rfl (.string (strOfNums xs)) (.int .i64 (j : Int)) _ _ rfl rfl (HIJ.out _)) ?_) | (refine wpList_exec_want (op := ⟨some 95, .index 9 (.tmp 93) (.tmp 94), _, _, _, _⟩) rfl (.int .u8 cc) _ (exec_index _ _ 9 (.tmp 93) (.tmp 94) rfl (.string (strOfNums xs)) (.int .i64 (j : Int)) _ _ rfl rfl (HIJ.out _)) ?_) | (refine wpList_exec_want (op := ⟨some 100, .index 9 (.tmp 98) (.tmp 99), _, _, _, _⟩) rfl (.int .u8 cc) _ (exec_index _ _ 9 (.tmp 98) (.tmp 99) rfl (.string (strOfNums xs)) (.int .i64 (j : Int)) _ _ rfl rfl (HIJ.out _)) ?_))
                go_roundw
                case rel => exact ⟨j + 1, by omega, by go_num, by rw [HSTP.out, hdg]; rfl, trivial⟩
                case measure => simp [intOf]; omega
              · have a1 : decide ((48 : Int) ≤ cc) = true := by simp; omega
                have a2 : decide (cc ≤ (57 : Int)) = false := by simp; omega
                have a3 : decide ((97 : Int) ≤ cc) = false := by simp; omega
                have a4 : decide (cc ≤ (102 : Int)) = true := by simp; omega
                have hdg : digitB cc = false := by unfold digitB; rw [a1, a2, a3, a4]; rfl
                go_wp2_with (first | (refine wpList_exec_want (op := ⟨some 84, .index 9 (.tmp 82) (.tmp 83), _, _, _, _⟩) rfl (.int .u8 cc) _ (exec_index _ _ 9 (.tmp 82) (.tmp 83) rfl (.string (strOfNums xs)) (.int .i64 (j : Int)) _ _ rfl rfl (HIJ.out _)) ?_) | (refine wpList_exec_want (op := ⟨some 89, .index 9 (.tmp 87) (.tmp 88), _, _, _, _⟩) rfl (.int .u8 cc) _ (exec_index _ _ 9 (.tmp 87) (.tmp 88) rfl (.string (strOfNums xs)) (.int .i64 (j : Int)) _ _ rfl rfl (HIJ.out _)) ?_) | (refine wpList_exec_want (op := ⟨some 95, .index 9 (.tmp 93) (.tmp 94), _, _, _, _⟩) rfl (.int .u8 cc) _ (exec_index _ _ 9 (.tmp 93) (.tmp 94) rfl (.string (strOfNums xs)) (.int .i64 (j : Int)) _ _ rfl rfl (HIJ.out _)) ?_) | (refine wpList_exec_want (op := ⟨some 100, .index 9 (.tmp 98) (.tmp 99), _, _, _, _⟩) rfl (.int .u8 cc) _ (exec_index _ _ 9 (.tmp 98) (.tmp 99) rfl (.string (strOfNums xs)) (.int .i64 (j : Int)) _ _ rfl rfl (HIJ.out _)) ?_))
                go_roundw
                case rel => exact ⟨j + 1, by omega, by go_num, by rw [HSTP.out, hdg]; rfl, trivial⟩
                case measure => simp [intOf]; omega
              · have a1 : decide ((48 : Int) ≤ cc) = true := by simp; omega
                have a2 : decide (cc ≤ (57 : Int)) = false := by simp; omega
                have a3 : decide ((97 : Int) ≤ cc) = true := by simp; omega
                have a4 : decide (cc ≤ (102 : Int)) = true := by simp; omega
                have hdg : digitB cc = true := by unfold digitB; rw [a1, a2, a3, a4]; rfl
                go_wp2_with (first | (refine wpList_exec_want (op := ⟨some 84, .index 9 (.tmp 82) (.tmp 83), _, _, _, _⟩) rfl (.int .u8 cc) _ (exec_index _ _ 9 (.tmp 82) (.tmp 83) rfl (.string (strOfNums xs)) (.int .i64 (j : Int)) _ _ rfl rfl (HIJ.out _)) ?_) | (refine wpList_exec_want (op := ⟨some 89, .index 9 (.tmp 87) (.tmp 88), _, _, _, _⟩) rfl (.int .u8 cc) _ (exec_index _ _ 9 (.tmp 87) (.tmp 88) rfl (.string (strOfNums xs)) (.int .i64 (j : Int)) _ _ rfl rfl (HIJ.out _)) ?_) | (refine wpList_exec_want (op := ⟨some 95, .index 9 (.tmp 93) (.tmp 94), _, _, _, _⟩) rfl (.int .u8 cc) _ (exec_index _ _ 9 (.tmp 93) (.tmp 94) rfl (.string (strOfNums xs)) (.int .i64 (j : Int)) _ _ rfl rfl (HIJ.out _)) ?_) | (refine wpList_exec_want (op := ⟨some 100, .index 9 (.tmp 98) (.tmp 99), _, _, _, _⟩) rfl (.int .u8 cc) _ (exec_index _ _ 9 (.tmp 98) (.tmp 99) rfl (.string (strOfNums xs)) (.int .i64 (j : Int)) _ _ rfl rfl (HIJ.out _)) ?_))
                go_roundw
                case rel => exact ⟨j + 1, by omega, by go_num, by rw [HSTP.out, hdg]; rfl, trivial⟩
                case measure => simp [intOf]; omega
              · have a1 : decide ((48 : Int) ≤ cc) = true := by simp; omega
                have a2 : decide (cc ≤ (57 : Int)) = false := by simp; omega
                have a3 : decide ((97 : Int) ≤ cc) = true := by simp; omega
                have a4 : decide (cc ≤ (102 : Int)) = false := by simp; omega
                have hdg : digitB cc = false := by unfold digitB; rw [a1, a2, a3, a4]; rfl
                go_wp2_with (first | (refine wpList_exec_want (op := ⟨some 84, .index 9 (.tmp 82) (.tmp 83), _, _, _, _⟩) rfl (.int .u8 cc) _ (exec_index _ _ 9 (.tmp 82) (.tmp 83) rfl (.string (strOfNums xs)) (.int .i64 (j : Int)) _ _ rfl rfl (HIJ.out _)) ?_) | (refine wpList_exec_want (op := ⟨some 89, .index 9 (.tmp 87) (.tmp 88), _, _, _, _⟩) rfl (.int .u8 cc) _ (exec_index _ _ 9 (.tmp 87) (.tmp 88) rfl (.string (strOfNums xs)) (.int .i64 (j : Int)) _ _ rfl rfl (HIJ.out _)) ?_) | (refine wpList_exec_want (op := ⟨some 95, .index 9 (.tmp 93) (.tmp 94), _, _, _, _⟩) rfl (.int .u8 cc) _ (exec_index _ _ 9 (.tmp 93) (.tmp 94) rfl (.string (strOfNums xs)) (.int .i64 (j : Int)) _ _ rfl rfl (HIJ.out _)) ?_) | (refine wpList_exec_want (op := ⟨some 100, .index 9 (.tmp 98) (.tmp 99), _, _, _, _⟩) rfl (.int .u8 cc) _ (exec_index _ _ 9 (.tmp 98) (.tmp 99) rfl (.string (strOfNums xs)) (.int .i64 (j : Int)) _ _ rfl rfl (HIJ.out _)) ?_))
                go_roundw
                case rel => exact ⟨j + 1, by omega, by go_num, by rw [HSTP.out, hdg]; rfl, trivial⟩
                case measure => simp [intOf]; omega
          · obtain rfl : j = m := by omega
            have hdj : decide ((j : Int) < (j : Int)) = false := by simp
            have hrd : rightB xs j = false := by rw [← HM.out, right_read xs hbx]; exact hok
            rw [hrd]
            go_wp2
            go_roundw
            case rel => exact ⟨k + 1, by omega, by go_num, h7, hT7⟩
            case measure => simp [intOf]; omega
    · obtain rfl : k = 4 := by omega
      have hd : decide ((4 : Int) < 4) = false := by decide
      go_wp2
      go_ret
      exact ⟨rfl, hT⟩
end Go.Proofs.YtimajdbgeibalaaDoor
