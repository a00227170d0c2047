/- Own: the walk of CheckOpens. -/
import Derived.Test.YtckeackepolhdaaDoorSeals
import Derived.Deep.RegionHeld3
namespace Go.Proofs.YtckeackepolhdaaDoor
open Go.RowKit
set_option linter.unusedVariables false
set_option linter.unusedSimpArgs false

theorem nums_inj {xs ys : List Int} (hx : BytesOk xs) (hy : BytesOk ys) (h1 : (strOfNums xs).toList = (strOfNums ys).toList) : xs = ys := by
  rw [toList_nums, toList_nums] at h1
  have hl : xs.length = ys.length := by simpa using congrArg List.length h1
  apply List.ext_getElem hl
  intro i a b
  have h2 := congrArg (·[i]?) h1
  simp only [List.getElem?_map, List.getElem?_eq_getElem a, List.getElem?_eq_getElem b, Option.map_some, Option.some.injEq] at h2
  have h3 := congrArg UInt8.toNat h2
  rw [UInt8.toNat_ofNat', UInt8.toNat_ofNat'] at h3
  have hxi := hx _ (List.getElem_mem a)
  have hyi := hy _ (List.getElem_mem b)
  omega
theorem seal_take (ys : List Int) (h : ys.length = 64) : sealB (ys.take 60) = sealB ys := by
  have : padB (ys.take 60) = padB ys := by
    unfold padB
    rw [List.take_take, List.length_take, h]; rfl
  unfold sealB; rw [this]
theorem exec_convert {P : Program} (ev : Operand → Value) (op : Oper) (t u : TypeId) (x : Operand) (ho : op.op = .convert t u x) (a v : Value) (w : World) (hx : ev x = a)
    (h : (convert t u a).run P w = .ok v w) : (execOp ev op).run P w = .ok (.value v) w := by
  unfold execOp
  simp only [ho, hx, Sem.run_bind, Sem.run_pure, Result.andThen_ok, h]
theorem owns_of_bytes {w : World} {B base n : Nat} {ws : List Int} (h : BytesAt w B 5 ws) (hb : base ≤ B) (hn : ws.length = n) (hm : n ≤ maxLen) : w.ownsRow base 5 1 (.slice (some ⟨B, 0, none⟩) n n) n (ws.map (Value.int .u8)) := by
  refine ⟨by simp [hn], .inr ⟨B, n, _, rfl, hb, h, Nat.le_refl _, hm, by simp [hn], ?_⟩⟩
  rw [List.take_of_length_le (by simp [hn])]
theorem one_cell' (w : World) (x : Int) (n : Nat) (hn : w.heap.size = n) : ∀ (j : Nat) u, [Value.int .u8 x][j]? = some u → (w.alloc (.cells #[.int .u8 x] 5)).cell? ((⟨n, 0, none⟩ : Addr).add j) = some u := by
  subst hn; exact one_cell w x

set_option maxHeartbeats 8000000 in
set_option maxRecDepth 100000 in
theorem opens_walk (v : Value) (xs : List Int) (at_ tn : Int) (long : Bool) (w : World) (hv : Src w v xs) (hx : BytesOk xs) (hat : 0 ≤ at_ ∧ at_ < 256) (htn : 0 ≤ tn ∧ tn < 256) (ht : Tab w) (h100 : xs.length ≤ 100) :
    Calls Tryd.prog 5 #[v, .int .u8 at_, .int .u8 tn, .bool long] w (AwakePost w) := by
  obtain ⟨i0, hi, hz0, hz1, hz2⟩ := info_parts Tryd.info5
  have HV := Lib.hid hv
  have HX := Lib.hid hx
  have HT := Lib.hid ht
  obtain ⟨a, c, rfl, q⟩ := src_any hv
  clear hv hx ht q
  have hd : decide ((100 : Int) < (xs.length : Int)) = false := by simp; omega
  go_enter Tryd.func5, Tryd.ntmps5
  go_wp2_with fail
  refine (awake_any w HT.out).mono ?_
  rintro e w1 ⟨rfl, t1⟩
  go_wp2_with fail
  refine (seal_any _ xs w1 (HV.out.turn t1 (fun _ _ => id)) HX.out (HT.out.turn t1)).mono ?_
  rintro e w2 ⟨rfl, b2, t2⟩
  have hs1 := t1.size
  generalize w1.heap.size = B at b2 hs1 ⊢
  have T2 := t1.trans t2 (fun _ _ => id)
  clear t2 t1
  obtain ⟨q, hq⟩ : ∃ q : Nat, at_ % 64 = (q : Int) := ⟨(at_ % 64).toNat, by omega⟩
  have hq64 : q < 64 := by omega
  have hqi : (0 : Int) ≤ (q : Int) ∧ (q : Int) < 64 := by omega
  have hq2 : at_.tmod 64 = (q : Int) := by rw [Int.tmod_eq_emod_of_nonneg hat.1]; exact hq
  have cq := b2.cell q (by rw [sealB_len]; exact hq64)
  have fq := b2.open_ q
  have hm : (sealB xs).getD q 0 ∈ sealB xs := by simp [List.getD, sealB_len, hq64]
  have hbq := sealB_ok xs HX.out _ hm
  obtain ⟨y, hy⟩ : ∃ y, bits .xor .u8 ((sealB xs).getD q 0) tn = y := ⟨_, rfl⟩
  have hyr : 0 ≤ y ∧ y < 256 := by
    rw [← hy, u8_xor _ _ hbq.1 hbq.2 htn.1 htn.2]
    have : ((sealB xs).getD q 0).toNat ^^^ tn.toNat < 2 ^ 8 := Nat.xor_lt_two_pow (by omega) (by omega)
    omega
  have b3 := b2.set q y
  have hlt : ((sealB xs).set q y).length = 64 := by rw [List.length_set, sealB_len]
  have hbt : BytesOk ((sealB xs).set q y) := fun x hx => by
    rcases List.mem_or_eq_of_mem_set hx with h1 | h1
    · exact sealB_ok xs HX.out x h1
    · exact h1 ▸ hyr
  have T3 := T2.setCell (p := ⟨B, q, none⟩) (fun h => by have h2 : B < w.heap.size := h; omega) (.int .u8 y)
  generalize (sealB xs).getD q 0 = old at cq hy
  generalize (sealB xs).set q y = ts at b3 hlt hbt
  clear b2 hm hbq T2
  cases long with
  | false =>
    go_wp2_with fail
    have hR3 := b3.reads 64 64 hlt.symm (by omega)
    have hsz : (w2.setCell ⟨B, q, none⟩ (.int .u8 y)).heap.size = w2.heap.size := by simp [World.setCell]
    generalize w2.setCell ⟨B, q, none⟩ (.int .u8 y) = w3 at b3 T3 hR3 hsz ⊢
    have hc4 : ∀ k, k < 2 → ∃ vx ys, (w3.alloc (.cells #[.slice (some ⟨B, 0, none⟩) 64 64, .slice a xs.length c] 22)).cell? ⟨w3.heap.size, k, none⟩ = some vx ∧ Src (w3.alloc (.cells #[.slice (some ⟨B, 0, none⟩) 64 64, .slice a xs.length c] 22)) vx ys ∧ BytesOk ys ∧ ys.length ≤ 100 := fun k hk => by
      have tt := (Turn.refl (fun _ => False) w3).alloc (.cells #[.slice (some ⟨B, 0, none⟩) 64 64, .slice a xs.length c] 22)
      rw [cell_of_row _ _ _ _ 22 (0, 0) (heap_alloc_new w3 _)]
      match k, hk with
      | 0, _ => exact ⟨_, ts, rfl, .inl (hR3.turn tt (fun _ _ => id)), hbt, by omega⟩
      | 1, _ => exact ⟨_, xs, rfl, HV.out.turn (T3.trans tt (fun _ _ => id)) (fun _ _ => id), HX.out, h100⟩
    have T4 := T3.alloc (.cells #[.slice (some ⟨B, 0, none⟩) 64 64, .slice a xs.length c] 22)
    generalize w3.alloc (.cells #[.slice (some ⟨B, 0, none⟩) 64 64, .slice a xs.length c] 22) = w4 at hc4 T4 ⊢
    rw [hsz] at hc4
    generalize w2.heap.size = B3 at hc4 ⊢
    have HX2 := Lib.hid hc4
    clear hc4 b3 T3 hR3 cq fq hq hq2 hqi hy
    go_loopw [44] (fun iv wr => ∃ k : Nat, k ≤ 2 ∧ iv = .int .i64 (k : Int) ∧ Turn (fun _ => False) w4 wr) (fun iv _ => (2 - intOf iv).toNat)
    case atStart => exact ⟨0, by omega, rfl, Turn.refl _ _⟩
    case round =>
      obtain ⟨k, hk, rfl, h4⟩ := hrel
      by_cases hk2 : k < 2
      · obtain ⟨vx, ys, hc0, hs0, hyb, hyl⟩ := HX2.out k hk2
        have hcell := (h4.cell (p := ⟨B3, k, none⟩) (World.block_lt_of_cell? w4 _ hc0) id).trans hc0
        have hsr := hs0.turn h4 (fun _ _ => id)
        obtain ⟨ya, yc, rfl, hq⟩ := src_any hsr
        obtain ⟨l, hl⟩ : ∃ l, ys.length = l := ⟨_, rfl⟩
        simp only [hl] at hcell hsr hq hyl
        have HL := Lib.hid hl
        have HSR := Lib.hid hsr
        have HQ := Lib.hid hq
        have HT4 := Lib.hid (T4.trans h4 (fun _ _ => id))
        have hkk : (0 : Int) ≤ (k : Int) ∧ (k : Int) < 2 := by omega
        have hd2 : decide ((k : Int) < 2) = true := by simp; omega
        clear hc0 hs0 hl hsr hq
        go_wp2_with fail
        refine (open_any _ ys wr HSR.out hyb (HT.out.turn HT4.out)).mono ?_
        rintro e w5 ⟨t5, h5⟩
        have HSR5 := Lib.hid (HSR.out.turn t5 (fun _ _ => id))
        have h45 := h4.trans t5 (fun _ _ => id)
        by_cases hl64 : l = 64
        · subst hl64
          obtain ⟨hcap, g, o, rfl, hcell5⟩ := HQ.out (by omega)
          have hR5 : Reads w5 (.slice (some ⟨g, o, none⟩) 64 yc) ys := by
            rcases HSR5.out with h | ⟨_, _, hh, he⟩
            · exact h
            · rw [he] at HL; exact absurd HL.out (by simp)
          have hR6 : Reads w5 (.slice (some ⟨g, o, none⟩) 60 yc) (ys.take 60) := by
            refine .inr ⟨g, o, yc, by simp [HL.out], by simp [HL.out]; omega, fun i hi => ?_⟩
            simp [HL.out] at hi
            have h1 := hcell5 i (by omega)
            rw [(t5.cell (p := ⟨g, o + i, none⟩) (World.block_lt_of_cell? wr _ h1) id).trans h1]
            simp [List.getD, hi]
          have HR5 := Lib.hid hR5
          have HR6 := Lib.hid hR6
          have h60 : (60 : Int) ≤ (yc : Int) := by omega
          have h60' : ¬ (yc : Int) < 60 := by omega
          have HSEAL := Lib.hid (seal_take ys HL.out)
          obtain ⟨st, hst⟩ : ∃ st, strOfNums ys = st := ⟨_, rfl⟩
          have HST := Lib.hid hst
          have hb60 : BytesOk (ys.take 60) := fun x hx => hyb x (List.mem_of_mem_take hx)
          clear hcell5 hR5 hR6 hcell h4 hst
          rcases h5 with ⟨hs, v5, rfl, hR8⟩ | ⟨hs, rfl⟩
          · have HS := Lib.hid hs
            clear hs
            go_wp2_with fail
            refine wp_region_held_drew (S := fun w' => Turn (fun _ => False) w5 w') (by kernel_rfl) ((Turn.refl _ w5).drew) (fun hHeld => ?_)
            refine wpAnyH_take (i := 0) (v := .slice (some ⟨g, o, none⟩) 64 yc) rfl (by kernel_rfl) (by kernel_rfl) (by kernel_rfl) (fun _ _ _ h => h) (Or.inl ⟨by rfl, ?y0⟩) (by assumption) ?r0
            case y0 => (intro w hSw; (try dsimp only at hSw); (try simp only [List.getElem_toArray, List.getElem_cons_zero, List.getElem_cons_succ]); go_simp; try with_reducible rfl)
            case r0 =>
            try simp only [Act.put, List.setIfInBounds_toArray, List.set_cons_zero, List.set_cons_succ, List.getElem_toArray, List.getElem_cons_zero, List.getElem_cons_succ]
            refine wpAnyH_take (i := 1) (v := .int .i64 64) rfl (by kernel_rfl) (by kernel_rfl) (by kernel_rfl) (fun _ _ _ h => h) (Or.inl ⟨by rfl, ?y1⟩) (by assumption) ?r1
            case y1 => (intro w hSw; (try dsimp only at hSw); (try simp only [List.getElem_toArray, List.getElem_cons_zero, List.getElem_cons_succ]); go_simp; try with_reducible rfl)
            case r1 =>
            try simp only [Act.put, List.setIfInBounds_toArray, List.set_cons_zero, List.set_cons_succ, List.getElem_toArray, List.getElem_cons_zero, List.getElem_cons_succ]
            refine wpAnyH_take (i := 2) (v := .bool true) rfl (by kernel_rfl) (by kernel_rfl) (by kernel_rfl) (fun _ _ _ h => h) (Or.inl ⟨by rfl, ?y2⟩) (by assumption) ?r2
            case y2 => (intro w hSw; (try dsimp only at hSw); (try simp only [List.getElem_toArray, List.getElem_cons_zero, List.getElem_cons_succ]); go_simp; try with_reducible rfl)
            case r2 =>
            try simp only [Act.put, List.setIfInBounds_toArray, List.set_cons_zero, List.set_cons_succ, List.getElem_toArray, List.getElem_cons_zero, List.getElem_cons_succ]
            refine wpAnyH_take (i := 3) (v := .bool true) rfl (by kernel_rfl) (by kernel_rfl) (by kernel_rfl) (fun _ _ _ h => h) (Or.inl ⟨by rfl, ?y3⟩) (by assumption) ?r3
            case y3 => (intro w hSw; (try dsimp only at hSw); (try simp only [List.getElem_toArray, List.getElem_cons_zero, List.getElem_cons_succ]); go_simp; try with_reducible rfl)
            case r3 =>
            try simp only [Act.put, List.setIfInBounds_toArray, List.set_cons_zero, List.set_cons_succ, List.getElem_toArray, List.getElem_cons_zero, List.getElem_cons_succ]
            refine wpAnyH_take (i := 4) (v := .slice (some ⟨g, o, none⟩) 64 yc) rfl (by kernel_rfl) (by kernel_rfl) (by kernel_rfl) (fun _ _ _ h => h) (Or.inl ⟨by rfl, ?y4⟩) (by assumption) ?r4
            case y4 => (intro w hSw; (try dsimp only at hSw); (try simp only [List.getElem_toArray, List.getElem_cons_zero, List.getElem_cons_succ]); go_simp; try with_reducible rfl)
            case r4 =>
            try simp only [Act.put, List.setIfInBounds_toArray, List.set_cons_zero, List.set_cons_succ, List.getElem_toArray, List.getElem_cons_zero, List.getElem_cons_succ]
            refine wpAnyH_take (i := 5) (v := .slice (some ⟨g, o, none⟩) 64 yc) rfl (by kernel_rfl) (by kernel_rfl) (by kernel_rfl) (fun _ _ _ h => h) (Or.inl ⟨by rfl, ?y5⟩) (by assumption) ?r5
            case y5 => (intro w hSw; (try dsimp only at hSw); (try simp only [List.getElem_toArray, List.getElem_cons_zero, List.getElem_cons_succ]); go_simp; try with_reducible rfl)
            case r5 =>
            try simp only [Act.put, List.setIfInBounds_toArray, List.set_cons_zero, List.set_cons_succ, List.getElem_toArray, List.getElem_cons_zero, List.getElem_cons_succ]
            refine wpAnyH_take (i := 6) (v := .int .i64 64) rfl (by kernel_rfl) (by kernel_rfl) (by kernel_rfl) (fun _ _ _ h => h) (Or.inl ⟨by rfl, ?y6⟩) (by assumption) ?r6
            case y6 => (intro w hSw; (try dsimp only at hSw); (try simp only [List.getElem_toArray, List.getElem_cons_zero, List.getElem_cons_succ]); go_simp; try with_reducible rfl)
            case r6 =>
            try simp only [Act.put, List.setIfInBounds_toArray, List.set_cons_zero, List.set_cons_succ, List.getElem_toArray, List.getElem_cons_zero, List.getElem_cons_succ]
            refine wpAnyH_take (i := 7) (v := .int .i64 60) rfl (by kernel_rfl) (by kernel_rfl) (by kernel_rfl) (fun _ _ _ h => h) (Or.inl ⟨by rfl, ?y7⟩) (by assumption) ?r7
            case y7 => (intro w hSw; (try dsimp only at hSw); (try simp only [List.getElem_toArray, List.getElem_cons_zero, List.getElem_cons_succ]); go_simp; try with_reducible rfl)
            case r7 =>
            try simp only [Act.put, List.setIfInBounds_toArray, List.set_cons_zero, List.set_cons_succ, List.getElem_toArray, List.getElem_cons_zero, List.getElem_cons_succ]
            refine wpAnyH_take (i := 8) (v := .slice (some ⟨g, o, none⟩) 60 yc) rfl (by kernel_rfl) (by kernel_rfl) (by kernel_rfl) (fun _ _ _ h => h) (Or.inl ⟨by rfl, ?y8⟩) (by assumption) ?r8
            case y8 => (intro w hSw; (try dsimp only at hSw); (try simp only [List.getElem_toArray, List.getElem_cons_zero, List.getElem_cons_succ]); go_simp; try with_reducible rfl)
            case r8 =>
            try simp only [Act.put, List.setIfInBounds_toArray, List.set_cons_zero, List.set_cons_succ, List.getElem_toArray, List.getElem_cons_zero, List.getElem_cons_succ]
            refine wpAnyH_take (i := 11) (v := .slice (some ⟨g, o, none⟩) 64 yc) rfl (by kernel_rfl) (by kernel_rfl) (by kernel_rfl) (fun _ _ _ h => h) (Or.inl ⟨by rfl, ?y11⟩) (by assumption) ?r11
            case y11 => (intro w hSw; (try dsimp only at hSw); (try simp only [List.getElem_toArray, List.getElem_cons_zero, List.getElem_cons_succ]); go_simp; try with_reducible rfl)
            case r11 =>
            try simp only [Act.put, List.setIfInBounds_toArray, List.set_cons_zero, List.set_cons_succ, List.getElem_toArray, List.getElem_cons_zero, List.getElem_cons_succ]
            refine wpAnyH_take (i := 12) (v := .string st) rfl (by kernel_rfl) (by kernel_rfl) (by kernel_rfl) (fun _ _ _ h => h) (Or.inl ⟨by rfl, ?y12⟩) (by assumption) ?r12
            case y12 => (intro wq hSw; exact exec_convert _ _ 22 9 (.tmp 64) rfl _ _ _ rfl (by rw [← HST.out]; exact (HR5.out.turn hSw (fun _ _ => id)).conv))
            case r12 =>
            try simp only [Act.put, List.setIfInBounds_toArray, List.set_cons_zero, List.set_cons_succ, List.getElem_toArray, List.getElem_cons_zero, List.getElem_cons_succ]
            refine wpAnyH_ready (rs := [9]) (by kernel_rfl) (by simp) ?_
            refine AllReadyH.cons rfl (fun K hK => ?_) AllReadyH.nil
            go_simp
            refine (refseal_any _ (ys.take 60) w5.drew (.inl (HR6.out.turn hHeld (fun _ _ => id))) hb60).mono ?_
            rintro e w6 ⟨v6, rfl, hR7, t6⟩
            rw [HSEAL.out] at hR7
            have t56 := hHeld.trans t6 (fun _ _ => id)
            refine hK.out _ _ t56 (fun _ => ?_)
            clear hK K
            try simp only [Act.put, List.setIfInBounds_toArray, List.set_cons_zero, List.set_cons_succ, List.getElem_toArray, List.getElem_cons_zero, List.getElem_cons_succ]
            have kc := hR7.conv
            obtain ⟨su, hsu⟩ : ∃ su, strOfNums (sealB ys) = su := ⟨_, rfl⟩
            rw [hsu] at kc
            have HSU := Lib.hid hsu
            clear hsu hR7
            refine wpAnyH_ready (rs := [10]) (by kernel_rfl) (by simp) ?_
            refine AllReadyH.cons rfl (fun K hK => ?_) AllReadyH.nil
            go_simp
            refine hK.out _ _ t56 (fun _ => ?_)
            clear hK K
            try simp only [Act.put, List.setIfInBounds_toArray, List.set_cons_zero, List.set_cons_succ, List.getElem_toArray, List.getElem_cons_zero, List.getElem_cons_succ]
            have hsu2 : su = st := by rw [← HSU.out, ← HST.out, ← HS.out]
            subst hsu2
            refine wpAnyH_take (i := 13) (v := .bool true) rfl (by kernel_rfl) (by kernel_rfl) (by kernel_rfl) (fun _ _ _ h => h) (Or.inl ⟨by rfl, ?y13⟩) (by assumption) ?r13
            case y13 => (intro w hSw; (try dsimp only at hSw); (try simp only [List.getElem_toArray, List.getElem_cons_zero, List.getElem_cons_succ]); go_simp; try with_reducible rfl)
            case r13 =>
            try simp only [Act.put, List.setIfInBounds_toArray, List.set_cons_zero, List.set_cons_succ, List.getElem_toArray, List.getElem_cons_zero, List.getElem_cons_succ]
            refine wpAnyH_take (i := 14) (v := .bool true) rfl (by kernel_rfl) (by kernel_rfl) (by kernel_rfl) (fun _ _ _ h => h) (Or.inl ⟨by rfl, ?y14⟩) (by assumption) ?r14
            case y14 => (intro w hSw; (try dsimp only at hSw); (try simp only [List.getElem_toArray, List.getElem_cons_zero, List.getElem_cons_succ]); go_simp; try with_reducible rfl)
            case r14 =>
            try simp only [Act.put, List.setIfInBounds_toArray, List.set_cons_zero, List.set_cons_succ, List.getElem_toArray, List.getElem_cons_zero, List.getElem_cons_succ]
            refine wpAnyH_take (i := 15) (v := .bool true) rfl (by kernel_rfl) (by kernel_rfl) (by kernel_rfl) (fun _ _ _ h => h) (Or.inl ⟨by rfl, ?y15⟩) (by assumption) ?r15
            case y15 => (intro w hSw; (try dsimp only at hSw); (try simp only [List.getElem_toArray, List.getElem_cons_zero, List.getElem_cons_succ]); go_simp; try with_reducible rfl)
            case r15 =>
            try simp only [Act.put, List.setIfInBounds_toArray, List.set_cons_zero, List.set_cons_succ, List.getElem_toArray, List.getElem_cons_zero, List.getElem_cons_succ]
            refine wpAnyH_done (by kernel_rfl) ?_ _
            have k8 := (hR8.turn t56 (fun _ _ => id)).drew.conv
            have k9 := (HR6.out.turn t56 (fun _ _ => id)).drew.conv
            generalize strOfNums (ys.take 60) = sv at k8 k9
            clear kc hR8
            go_wp2_with fail
            go_region
            go_wp2_with fail
            go_roundw
            case rel => exact ⟨k + 1, by omega, by go_num, (h45.trans t56 (fun _ _ => id)).drew⟩
            case measure => simp [intOf]; omega
          · have HS := Lib.hid hs
            clear hs
            go_wp2_with fail
            refine wp_region_held_drew (S := fun w' => Turn (fun _ => False) w5 w') (by kernel_rfl) ((Turn.refl _ w5).drew) (fun hHeld => ?_)
            refine wpAnyH_take (i := 0) (v := .slice (some ⟨g, o, none⟩) 64 yc) rfl (by kernel_rfl) (by kernel_rfl) (by kernel_rfl) (fun _ _ _ h => h) (Or.inl ⟨by rfl, ?y0⟩) (by assumption) ?r0
            case y0 => (intro w hSw; (try dsimp only at hSw); (try simp only [List.getElem_toArray, List.getElem_cons_zero, List.getElem_cons_succ]); go_simp; try with_reducible rfl)
            case r0 =>
            try simp only [Act.put, List.setIfInBounds_toArray, List.set_cons_zero, List.set_cons_succ, List.getElem_toArray, List.getElem_cons_zero, List.getElem_cons_succ]
            refine wpAnyH_take (i := 1) (v := .int .i64 64) rfl (by kernel_rfl) (by kernel_rfl) (by kernel_rfl) (fun _ _ _ h => h) (Or.inl ⟨by rfl, ?y1⟩) (by assumption) ?r1
            case y1 => (intro w hSw; (try dsimp only at hSw); (try simp only [List.getElem_toArray, List.getElem_cons_zero, List.getElem_cons_succ]); go_simp; try with_reducible rfl)
            case r1 =>
            try simp only [Act.put, List.setIfInBounds_toArray, List.set_cons_zero, List.set_cons_succ, List.getElem_toArray, List.getElem_cons_zero, List.getElem_cons_succ]
            refine wpAnyH_take (i := 2) (v := .bool true) rfl (by kernel_rfl) (by kernel_rfl) (by kernel_rfl) (fun _ _ _ h => h) (Or.inl ⟨by rfl, ?y2⟩) (by assumption) ?r2
            case y2 => (intro w hSw; (try dsimp only at hSw); (try simp only [List.getElem_toArray, List.getElem_cons_zero, List.getElem_cons_succ]); go_simp; try with_reducible rfl)
            case r2 =>
            try simp only [Act.put, List.setIfInBounds_toArray, List.set_cons_zero, List.set_cons_succ, List.getElem_toArray, List.getElem_cons_zero, List.getElem_cons_succ]
            refine wpAnyH_take (i := 3) (v := .bool true) rfl (by kernel_rfl) (by kernel_rfl) (by kernel_rfl) (fun _ _ _ h => h) (Or.inl ⟨by rfl, ?y3⟩) (by assumption) ?r3
            case y3 => (intro w hSw; (try dsimp only at hSw); (try simp only [List.getElem_toArray, List.getElem_cons_zero, List.getElem_cons_succ]); go_simp; try with_reducible rfl)
            case r3 =>
            try simp only [Act.put, List.setIfInBounds_toArray, List.set_cons_zero, List.set_cons_succ, List.getElem_toArray, List.getElem_cons_zero, List.getElem_cons_succ]
            refine wpAnyH_take (i := 4) (v := .slice (some ⟨g, o, none⟩) 64 yc) rfl (by kernel_rfl) (by kernel_rfl) (by kernel_rfl) (fun _ _ _ h => h) (Or.inl ⟨by rfl, ?y4⟩) (by assumption) ?r4
            case y4 => (intro w hSw; (try dsimp only at hSw); (try simp only [List.getElem_toArray, List.getElem_cons_zero, List.getElem_cons_succ]); go_simp; try with_reducible rfl)
            case r4 =>
            try simp only [Act.put, List.setIfInBounds_toArray, List.set_cons_zero, List.set_cons_succ, List.getElem_toArray, List.getElem_cons_zero, List.getElem_cons_succ]
            refine wpAnyH_take (i := 5) (v := .slice (some ⟨g, o, none⟩) 64 yc) rfl (by kernel_rfl) (by kernel_rfl) (by kernel_rfl) (fun _ _ _ h => h) (Or.inl ⟨by rfl, ?y5⟩) (by assumption) ?r5
            case y5 => (intro w hSw; (try dsimp only at hSw); (try simp only [List.getElem_toArray, List.getElem_cons_zero, List.getElem_cons_succ]); go_simp; try with_reducible rfl)
            case r5 =>
            try simp only [Act.put, List.setIfInBounds_toArray, List.set_cons_zero, List.set_cons_succ, List.getElem_toArray, List.getElem_cons_zero, List.getElem_cons_succ]
            refine wpAnyH_take (i := 6) (v := .int .i64 64) rfl (by kernel_rfl) (by kernel_rfl) (by kernel_rfl) (fun _ _ _ h => h) (Or.inl ⟨by rfl, ?y6⟩) (by assumption) ?r6
            case y6 => (intro w hSw; (try dsimp only at hSw); (try simp only [List.getElem_toArray, List.getElem_cons_zero, List.getElem_cons_succ]); go_simp; try with_reducible rfl)
            case r6 =>
            try simp only [Act.put, List.setIfInBounds_toArray, List.set_cons_zero, List.set_cons_succ, List.getElem_toArray, List.getElem_cons_zero, List.getElem_cons_succ]
            refine wpAnyH_take (i := 7) (v := .int .i64 60) rfl (by kernel_rfl) (by kernel_rfl) (by kernel_rfl) (fun _ _ _ h => h) (Or.inl ⟨by rfl, ?y7⟩) (by assumption) ?r7
            case y7 => (intro w hSw; (try dsimp only at hSw); (try simp only [List.getElem_toArray, List.getElem_cons_zero, List.getElem_cons_succ]); go_simp; try with_reducible rfl)
            case r7 =>
            try simp only [Act.put, List.setIfInBounds_toArray, List.set_cons_zero, List.set_cons_succ, List.getElem_toArray, List.getElem_cons_zero, List.getElem_cons_succ]
            refine wpAnyH_take (i := 8) (v := .slice (some ⟨g, o, none⟩) 60 yc) rfl (by kernel_rfl) (by kernel_rfl) (by kernel_rfl) (fun _ _ _ h => h) (Or.inl ⟨by rfl, ?y8⟩) (by assumption) ?r8
            case y8 => (intro w hSw; (try dsimp only at hSw); (try simp only [List.getElem_toArray, List.getElem_cons_zero, List.getElem_cons_succ]); go_simp; try with_reducible rfl)
            case r8 =>
            try simp only [Act.put, List.setIfInBounds_toArray, List.set_cons_zero, List.set_cons_succ, List.getElem_toArray, List.getElem_cons_zero, List.getElem_cons_succ]
            refine wpAnyH_take (i := 11) (v := .slice (some ⟨g, o, none⟩) 64 yc) rfl (by kernel_rfl) (by kernel_rfl) (by kernel_rfl) (fun _ _ _ h => h) (Or.inl ⟨by rfl, ?y11⟩) (by assumption) ?r11
            case y11 => (intro w hSw; (try dsimp only at hSw); (try simp only [List.getElem_toArray, List.getElem_cons_zero, List.getElem_cons_succ]); go_simp; try with_reducible rfl)
            case r11 =>
            try simp only [Act.put, List.setIfInBounds_toArray, List.set_cons_zero, List.set_cons_succ, List.getElem_toArray, List.getElem_cons_zero, List.getElem_cons_succ]
            refine wpAnyH_take (i := 12) (v := .string st) rfl (by kernel_rfl) (by kernel_rfl) (by kernel_rfl) (fun _ _ _ h => h) (Or.inl ⟨by rfl, ?y12⟩) (by assumption) ?r12
            case y12 => (intro wq hSw; exact exec_convert _ _ 22 9 (.tmp 64) rfl _ _ _ rfl (by rw [← HST.out]; exact (HR5.out.turn hSw (fun _ _ => id)).conv))
            case r12 =>
            try simp only [Act.put, List.setIfInBounds_toArray, List.set_cons_zero, List.set_cons_succ, List.getElem_toArray, List.getElem_cons_zero, List.getElem_cons_succ]
            refine wpAnyH_ready (rs := [9]) (by kernel_rfl) (by simp) ?_
            refine AllReadyH.cons rfl (fun K hK => ?_) AllReadyH.nil
            go_simp
            refine (refseal_any _ (ys.take 60) w5.drew (.inl (HR6.out.turn hHeld (fun _ _ => id))) hb60).mono ?_
            rintro e w6 ⟨v6, rfl, hR7, t6⟩
            rw [HSEAL.out] at hR7
            have t56 := hHeld.trans t6 (fun _ _ => id)
            refine hK.out _ _ t56 (fun _ => ?_)
            clear hK K
            try simp only [Act.put, List.setIfInBounds_toArray, List.set_cons_zero, List.set_cons_succ, List.getElem_toArray, List.getElem_cons_zero, List.getElem_cons_succ]
            have kc := hR7.conv
            obtain ⟨su, hsu⟩ : ∃ su, strOfNums (sealB ys) = su := ⟨_, rfl⟩
            rw [hsu] at kc
            have HSU := Lib.hid hsu
            clear hsu hR7
            refine wpAnyH_ready (rs := [10]) (by kernel_rfl) (by simp) ?_
            refine AllReadyH.cons rfl (fun K hK => ?_) AllReadyH.nil
            go_simp
            refine hK.out _ _ t56 (fun _ => ?_)
            clear hK K
            try simp only [Act.put, List.setIfInBounds_toArray, List.set_cons_zero, List.set_cons_succ, List.getElem_toArray, List.getElem_cons_zero, List.getElem_cons_succ]
            have hsu2 : ¬ su.toList = st.toList := by
              rw [← HSU.out, ← HST.out]
              exact fun h => HS.out (nums_inj hyb (sealB_ok ys hyb) h.symm)
            refine wpAnyH_take (i := 13) (v := .bool false) rfl (by kernel_rfl) (by kernel_rfl) (by kernel_rfl) (fun _ _ _ h => h) (Or.inl ⟨by rfl, ?y13⟩) (by assumption) ?r13
            case y13 => (intro wq hSw; (try dsimp only at hSw); (try simp only [List.getElem_toArray, List.getElem_cons_zero, List.getElem_cons_succ]); go_simp)
            case r13 =>
            try simp only [Act.put, List.setIfInBounds_toArray, List.set_cons_zero, List.set_cons_succ, List.getElem_toArray, List.getElem_cons_zero, List.getElem_cons_succ]
            refine wpAnyH_take (i := 14) (v := .bool false) rfl (by kernel_rfl) (by kernel_rfl) (by kernel_rfl) (fun _ _ _ h => h) (Or.inl ⟨by rfl, ?y14⟩) (by assumption) ?r14
            case y14 => (intro w hSw; (try dsimp only at hSw); (try simp only [List.getElem_toArray, List.getElem_cons_zero, List.getElem_cons_succ]); go_simp; try with_reducible rfl)
            case r14 =>
            try simp only [Act.put, List.setIfInBounds_toArray, List.set_cons_zero, List.set_cons_succ, List.getElem_toArray, List.getElem_cons_zero, List.getElem_cons_succ]
            refine wpAnyH_take (i := 15) (v := .bool false) rfl (by kernel_rfl) (by kernel_rfl) (by kernel_rfl) (fun _ _ _ h => h) (Or.inl ⟨by rfl, ?y15⟩) (by assumption) ?r15
            case y15 => (intro w hSw; (try dsimp only at hSw); (try simp only [List.getElem_toArray, List.getElem_cons_zero, List.getElem_cons_succ]); go_simp; try with_reducible rfl)
            case r15 =>
            try simp only [Act.put, List.setIfInBounds_toArray, List.set_cons_zero, List.set_cons_succ, List.getElem_toArray, List.getElem_cons_zero, List.getElem_cons_succ]
            refine wpAnyH_done (by kernel_rfl) ?_ _
            clear kc
            go_wp2_with fail
            go_region
            go_wp2_with fail
            go_roundw
            case rel => exact ⟨k + 1, by omega, by go_num, (h45.trans t56 (fun _ _ => id)).drew⟩
            case measure => simp [intOf]; omega
        · have hb : ((l : Int) == 64) = false := by rw [beq_eq_false_iff_ne]; omega
          rcases h5 with ⟨hs, _⟩ | ⟨hs, rfl⟩
          · have := congrArg List.length hs
            rw [HL.out, sealB_len] at this
            exact absurd this hl64
          · clear hs
            go_wp2_with fail
            go_region
            go_wp2_with fail
            go_region
            go_wp2_with fail
            go_roundw
            case rel => exact ⟨k + 1, by omega, by go_num, h45.drew.drew⟩
            case measure => simp [intOf]; omega
      · obtain rfl : k = 2 := by omega
        have hd2 : decide ((2 : Int) < 2) = false := by decide
        go_wp2_with fail
        go_ret
        exact ⟨rfl, T4.trans h4 (fun _ _ => id)⟩
  | true =>
    have hs3 := T3.size
    have ho3 := owns_of_bytes (base := w.heap.size) b3 hs1 hlt (by unfold maxLen; omega)
    have hsz : (w2.setCell ⟨B, q, none⟩ (.int .u8 y)).heap.size = w2.heap.size := by simp [World.setCell]
    go_wp2_with (at_builtin; refine wpList_append_where _ rfl (.tmp 37) (.tmp 38) 22 rfl w.heap.size 5 i0 (.int .u8 0) 1 1 Tryd.underlying22 hi hz0 hz1 hz2 rfl (by decide) _ 64 (ts.map (Value.int .u8)) rfl (ho3.alloc _) ⟨w2.heap.size, 0, none⟩ 1 1 [.int .u8 0] rfl rfl (one_cell' _ _ _ hsz) ?d2 ?d3 ?d4 ?d5 ?_)
    case d2 => intro u hu; simp at hu; subst hu; rfl
    case d3 => unfold maxLen; omega
    case d4 => omega
    case d5 => simp; omega
    intro v5 w5 ho5 hg5 _ _
    have T5 := (T3.alloc (.cells #[.int .u8 0] 5)).grown hg5 (fun k h hk => by have := (ho3.lt k h).1; omega)
    have hR5 : Reads w5 v5 (ts ++ [0]) := Reads.of_owns (base := w.heap.size) (by rw [List.length_append, hlt]; simpa using ho5)
    obtain ⟨a5, c5, rfl⟩ := own_slice ho5
    clear ho5 hg5 ho3 b3 T3 hs3 hsz
    go_wp2_with fail
    have hc4 : ∀ k, k < 2 → ∃ vx ys, (w5.alloc (.cells #[.slice a5 65 c5, .slice a xs.length c] 22)).cell? ⟨w5.heap.size, k, none⟩ = some vx ∧ Src (w5.alloc (.cells #[.slice a5 65 c5, .slice a xs.length c] 22)) vx ys ∧ BytesOk ys ∧ ys.length ≤ 100 := fun k hk => by
      have tt := (Turn.refl (fun _ => False) w5).alloc (.cells #[.slice a5 65 c5, .slice a xs.length c] 22)
      rw [cell_of_row _ _ _ _ 22 (0, 0) (heap_alloc_new w5 _)]
      match k, hk with
      | 0, _ => exact ⟨_, ts ++ [0], rfl, .inl (hR5.turn tt (fun _ _ => id)), (fun x hx => by
          rcases List.mem_append.1 hx with h | h
          · exact hbt x h
          · obtain rfl : x = 0 := by simpa using h
            omega), by simp [hlt]⟩
      | 1, _ => exact ⟨_, xs, rfl, HV.out.turn (T5.trans tt (fun _ _ => id)) (fun _ _ => id), HX.out, h100⟩
    have T4 := T5.alloc (.cells #[.slice a5 65 c5, .slice a xs.length c] 22)
    generalize w5.alloc (.cells #[.slice a5 65 c5, .slice a xs.length c] 22) = w4 at hc4 T4 ⊢
    generalize w5.heap.size = B3 at hc4 ⊢
    have HX2 := Lib.hid hc4
    clear hc4 T5 hR5 cq fq hq hq2 hqi hy
    go_loopw [44] (fun iv wr => ∃ k : Nat, k ≤ 2 ∧ iv = .int .i64 (k : Int) ∧ Turn (fun _ => False) w4 wr) (fun iv _ => (2 - intOf iv).toNat)
    case atStart => exact ⟨0, by omega, rfl, Turn.refl _ _⟩
    case round =>
      obtain ⟨k, hk, rfl, h4⟩ := hrel
      by_cases hk2 : k < 2
      · obtain ⟨vx, ys, hc0, hs0, hyb, hyl⟩ := HX2.out k hk2
        have hcell := (h4.cell (p := ⟨B3, k, none⟩) (World.block_lt_of_cell? w4 _ hc0) id).trans hc0
        have hsr := hs0.turn h4 (fun _ _ => id)
        obtain ⟨ya, yc, rfl, hq⟩ := src_any hsr
        obtain ⟨l, hl⟩ : ∃ l, ys.length = l := ⟨_, rfl⟩
        simp only [hl] at hcell hsr hq hyl
        have HL := Lib.hid hl
        have HSR := Lib.hid hsr
        have HQ := Lib.hid hq
        have HT4 := Lib.hid (T4.trans h4 (fun _ _ => id))
        have hkk : (0 : Int) ≤ (k : Int) ∧ (k : Int) < 2 := by omega
        have hd2 : decide ((k : Int) < 2) = true := by simp; omega
        clear hc0 hs0 hl hsr hq
        go_wp2_with fail
        refine (open_any _ ys wr HSR.out hyb (HT.out.turn HT4.out)).mono ?_
        rintro e w5 ⟨t5, h5⟩
        have HSR5 := Lib.hid (HSR.out.turn t5 (fun _ _ => id))
        have h45 := h4.trans t5 (fun _ _ => id)
        by_cases hl64 : l = 64
        · subst hl64
          obtain ⟨hcap, g, o, rfl, hcell5⟩ := HQ.out (by omega)
          have hR5 : Reads w5 (.slice (some ⟨g, o, none⟩) 64 yc) ys := by
            rcases HSR5.out with h | ⟨_, _, hh, he⟩
            · exact h
            · rw [he] at HL; exact absurd HL.out (by simp)
          have hR6 : Reads w5 (.slice (some ⟨g, o, none⟩) 60 yc) (ys.take 60) := by
            refine .inr ⟨g, o, yc, by simp [HL.out], by simp [HL.out]; omega, fun i hi => ?_⟩
            simp [HL.out] at hi
            have h1 := hcell5 i (by omega)
            rw [(t5.cell (p := ⟨g, o + i, none⟩) (World.block_lt_of_cell? wr _ h1) id).trans h1]
            simp [List.getD, hi]
          have HR5 := Lib.hid hR5
          have HR6 := Lib.hid hR6
          have h60 : (60 : Int) ≤ (yc : Int) := by omega
          have h60' : ¬ (yc : Int) < 60 := by omega
          have HSEAL := Lib.hid (seal_take ys HL.out)
          obtain ⟨st, hst⟩ : ∃ st, strOfNums ys = st := ⟨_, rfl⟩
          have HST := Lib.hid hst
          have hb60 : BytesOk (ys.take 60) := fun x hx => hyb x (List.mem_of_mem_take hx)
          clear hcell5 hR5 hR6 hcell h4 hst
          rcases h5 with ⟨hs, v5, rfl, hR8⟩ | ⟨hs, rfl⟩
          · have HS := Lib.hid hs
            clear hs
            go_wp2_with fail
            refine wp_region_held_drew (S := fun w' => Turn (fun _ => False) w5 w') (by kernel_rfl) ((Turn.refl _ w5).drew) (fun hHeld => ?_)
            refine wpAnyH_take (i := 0) (v := .slice (some ⟨g, o, none⟩) 64 yc) rfl (by kernel_rfl) (by kernel_rfl) (by kernel_rfl) (fun _ _ _ h => h) (Or.inl ⟨by rfl, ?y0⟩) (by assumption) ?r0
            case y0 => (intro w hSw; (try dsimp only at hSw); (try simp only [List.getElem_toArray, List.getElem_cons_zero, List.getElem_cons_succ]); go_simp; try with_reducible rfl)
            case r0 =>
            try simp only [Act.put, List.setIfInBounds_toArray, List.set_cons_zero, List.set_cons_succ, List.getElem_toArray, List.getElem_cons_zero, List.getElem_cons_succ]
            refine wpAnyH_take (i := 1) (v := .int .i64 64) rfl (by kernel_rfl) (by kernel_rfl) (by kernel_rfl) (fun _ _ _ h => h) (Or.inl ⟨by rfl, ?y1⟩) (by assumption) ?r1
            case y1 => (intro w hSw; (try dsimp only at hSw); (try simp only [List.getElem_toArray, List.getElem_cons_zero, List.getElem_cons_succ]); go_simp; try with_reducible rfl)
            case r1 =>
            try simp only [Act.put, List.setIfInBounds_toArray, List.set_cons_zero, List.set_cons_succ, List.getElem_toArray, List.getElem_cons_zero, List.getElem_cons_succ]
            refine wpAnyH_take (i := 2) (v := .bool true) rfl (by kernel_rfl) (by kernel_rfl) (by kernel_rfl) (fun _ _ _ h => h) (Or.inl ⟨by rfl, ?y2⟩) (by assumption) ?r2
            case y2 => (intro w hSw; (try dsimp only at hSw); (try simp only [List.getElem_toArray, List.getElem_cons_zero, List.getElem_cons_succ]); go_simp; try with_reducible rfl)
            case r2 =>
            try simp only [Act.put, List.setIfInBounds_toArray, List.set_cons_zero, List.set_cons_succ, List.getElem_toArray, List.getElem_cons_zero, List.getElem_cons_succ]
            refine wpAnyH_take (i := 3) (v := .bool true) rfl (by kernel_rfl) (by kernel_rfl) (by kernel_rfl) (fun _ _ _ h => h) (Or.inl ⟨by rfl, ?y3⟩) (by assumption) ?r3
            case y3 => (intro w hSw; (try dsimp only at hSw); (try simp only [List.getElem_toArray, List.getElem_cons_zero, List.getElem_cons_succ]); go_simp; try with_reducible rfl)
            case r3 =>
            try simp only [Act.put, List.setIfInBounds_toArray, List.set_cons_zero, List.set_cons_succ, List.getElem_toArray, List.getElem_cons_zero, List.getElem_cons_succ]
            refine wpAnyH_take (i := 4) (v := .slice (some ⟨g, o, none⟩) 64 yc) rfl (by kernel_rfl) (by kernel_rfl) (by kernel_rfl) (fun _ _ _ h => h) (Or.inl ⟨by rfl, ?y4⟩) (by assumption) ?r4
            case y4 => (intro w hSw; (try dsimp only at hSw); (try simp only [List.getElem_toArray, List.getElem_cons_zero, List.getElem_cons_succ]); go_simp; try with_reducible rfl)
            case r4 =>
            try simp only [Act.put, List.setIfInBounds_toArray, List.set_cons_zero, List.set_cons_succ, List.getElem_toArray, List.getElem_cons_zero, List.getElem_cons_succ]
            refine wpAnyH_take (i := 5) (v := .slice (some ⟨g, o, none⟩) 64 yc) rfl (by kernel_rfl) (by kernel_rfl) (by kernel_rfl) (fun _ _ _ h => h) (Or.inl ⟨by rfl, ?y5⟩) (by assumption) ?r5
            case y5 => (intro w hSw; (try dsimp only at hSw); (try simp only [List.getElem_toArray, List.getElem_cons_zero, List.getElem_cons_succ]); go_simp; try with_reducible rfl)
            case r5 =>
            try simp only [Act.put, List.setIfInBounds_toArray, List.set_cons_zero, List.set_cons_succ, List.getElem_toArray, List.getElem_cons_zero, List.getElem_cons_succ]
            refine wpAnyH_take (i := 6) (v := .int .i64 64) rfl (by kernel_rfl) (by kernel_rfl) (by kernel_rfl) (fun _ _ _ h => h) (Or.inl ⟨by rfl, ?y6⟩) (by assumption) ?r6
            case y6 => (intro w hSw; (try dsimp only at hSw); (try simp only [List.getElem_toArray, List.getElem_cons_zero, List.getElem_cons_succ]); go_simp; try with_reducible rfl)
            case r6 =>
            try simp only [Act.put, List.setIfInBounds_toArray, List.set_cons_zero, List.set_cons_succ, List.getElem_toArray, List.getElem_cons_zero, List.getElem_cons_succ]
            refine wpAnyH_take (i := 7) (v := .int .i64 60) rfl (by kernel_rfl) (by kernel_rfl) (by kernel_rfl) (fun _ _ _ h => h) (Or.inl ⟨by rfl, ?y7⟩) (by assumption) ?r7
            case y7 => (intro w hSw; (try dsimp only at hSw); (try simp only [List.getElem_toArray, List.getElem_cons_zero, List.getElem_cons_succ]); go_simp; try with_reducible rfl)
            case r7 =>
            try simp only [Act.put, List.setIfInBounds_toArray, List.set_cons_zero, List.set_cons_succ, List.getElem_toArray, List.getElem_cons_zero, List.getElem_cons_succ]
            refine wpAnyH_take (i := 8) (v := .slice (some ⟨g, o, none⟩) 60 yc) rfl (by kernel_rfl) (by kernel_rfl) (by kernel_rfl) (fun _ _ _ h => h) (Or.inl ⟨by rfl, ?y8⟩) (by assumption) ?r8
            case y8 => (intro w hSw; (try dsimp only at hSw); (try simp only [List.getElem_toArray, List.getElem_cons_zero, List.getElem_cons_succ]); go_simp; try with_reducible rfl)
            case r8 =>
            try simp only [Act.put, List.setIfInBounds_toArray, List.set_cons_zero, List.set_cons_succ, List.getElem_toArray, List.getElem_cons_zero, List.getElem_cons_succ]
            refine wpAnyH_take (i := 11) (v := .slice (some ⟨g, o, none⟩) 64 yc) rfl (by kernel_rfl) (by kernel_rfl) (by kernel_rfl) (fun _ _ _ h => h) (Or.inl ⟨by rfl, ?y11⟩) (by assumption) ?r11
            case y11 => (intro w hSw; (try dsimp only at hSw); (try simp only [List.getElem_toArray, List.getElem_cons_zero, List.getElem_cons_succ]); go_simp; try with_reducible rfl)
            case r11 =>
            try simp only [Act.put, List.setIfInBounds_toArray, List.set_cons_zero, List.set_cons_succ, List.getElem_toArray, List.getElem_cons_zero, List.getElem_cons_succ]
            refine wpAnyH_take (i := 12) (v := .string st) rfl (by kernel_rfl) (by kernel_rfl) (by kernel_rfl) (fun _ _ _ h => h) (Or.inl ⟨by rfl, ?y12⟩) (by assumption) ?r12
            case y12 => (intro wq hSw; exact exec_convert _ _ 22 9 (.tmp 64) rfl _ _ _ rfl (by rw [← HST.out]; exact (HR5.out.turn hSw (fun _ _ => id)).conv))
            case r12 =>
            try simp only [Act.put, List.setIfInBounds_toArray, List.set_cons_zero, List.set_cons_succ, List.getElem_toArray, List.getElem_cons_zero, List.getElem_cons_succ]
            refine wpAnyH_ready (rs := [9]) (by kernel_rfl) (by simp) ?_
            refine AllReadyH.cons rfl (fun K hK => ?_) AllReadyH.nil
            go_simp
            refine (refseal_any _ (ys.take 60) w5.drew (.inl (HR6.out.turn hHeld (fun _ _ => id))) hb60).mono ?_
            rintro e w6 ⟨v6, rfl, hR7, t6⟩
            rw [HSEAL.out] at hR7
            have t56 := hHeld.trans t6 (fun _ _ => id)
            refine hK.out _ _ t56 (fun _ => ?_)
            clear hK K
            try simp only [Act.put, List.setIfInBounds_toArray, List.set_cons_zero, List.set_cons_succ, List.getElem_toArray, List.getElem_cons_zero, List.getElem_cons_succ]
            have kc := hR7.conv
            obtain ⟨su, hsu⟩ : ∃ su, strOfNums (sealB ys) = su := ⟨_, rfl⟩
            rw [hsu] at kc
            have HSU := Lib.hid hsu
            clear hsu hR7
            refine wpAnyH_ready (rs := [10]) (by kernel_rfl) (by simp) ?_
            refine AllReadyH.cons rfl (fun K hK => ?_) AllReadyH.nil
            go_simp
            refine hK.out _ _ t56 (fun _ => ?_)
            clear hK K
            try simp only [Act.put, List.setIfInBounds_toArray, List.set_cons_zero, List.set_cons_succ, List.getElem_toArray, List.getElem_cons_zero, List.getElem_cons_succ]
            have hsu2 : su = st := by rw [← HSU.out, ← HST.out, ← HS.out]
            subst hsu2
            refine wpAnyH_take (i := 13) (v := .bool true) rfl (by kernel_rfl) (by kernel_rfl) (by kernel_rfl) (fun _ _ _ h => h) (Or.inl ⟨by rfl, ?y13⟩) (by assumption) ?r13
            case y13 => (intro w hSw; (try dsimp only at hSw); (try simp only [List.getElem_toArray, List.getElem_cons_zero, List.getElem_cons_succ]); go_simp; try with_reducible rfl)
            case r13 =>
            try simp only [Act.put, List.setIfInBounds_toArray, List.set_cons_zero, List.set_cons_succ, List.getElem_toArray, List.getElem_cons_zero, List.getElem_cons_succ]
            refine wpAnyH_take (i := 14) (v := .bool true) rfl (by kernel_rfl) (by kernel_rfl) (by kernel_rfl) (fun _ _ _ h => h) (Or.inl ⟨by rfl, ?y14⟩) (by assumption) ?r14
            case y14 => (intro w hSw; (try dsimp only at hSw); (try simp only [List.getElem_toArray, List.getElem_cons_zero, List.getElem_cons_succ]); go_simp; try with_reducible rfl)
            case r14 =>
            try simp only [Act.put, List.setIfInBounds_toArray, List.set_cons_zero, List.set_cons_succ, List.getElem_toArray, List.getElem_cons_zero, List.getElem_cons_succ]
            refine wpAnyH_take (i := 15) (v := .bool true) rfl (by kernel_rfl) (by kernel_rfl) (by kernel_rfl) (fun _ _ _ h => h) (Or.inl ⟨by rfl, ?y15⟩) (by assumption) ?r15
            case y15 => (intro w hSw; (try dsimp only at hSw); (try simp only [List.getElem_toArray, List.getElem_cons_zero, List.getElem_cons_succ]); go_simp; try with_reducible rfl)
            case r15 =>
            try simp only [Act.put, List.setIfInBounds_toArray, List.set_cons_zero, List.set_cons_succ, List.getElem_toArray, List.getElem_cons_zero, List.getElem_cons_succ]
            refine wpAnyH_done (by kernel_rfl) ?_ _
            have k8 := (hR8.turn t56 (fun _ _ => id)).drew.conv
            have k9 := (HR6.out.turn t56 (fun _ _ => id)).drew.conv
            generalize strOfNums (ys.take 60) = sv at k8 k9
            clear kc hR8
            go_wp2_with fail
            go_region
            go_wp2_with fail
            go_roundw
            case rel => exact ⟨k + 1, by omega, by go_num, (h45.trans t56 (fun _ _ => id)).drew⟩
            case measure => simp [intOf]; omega
          · have HS := Lib.hid hs
            clear hs
            go_wp2_with fail
            refine wp_region_held_drew (S := fun w' => Turn (fun _ => False) w5 w') (by kernel_rfl) ((Turn.refl _ w5).drew) (fun hHeld => ?_)
            refine wpAnyH_take (i := 0) (v := .slice (some ⟨g, o, none⟩) 64 yc) rfl (by kernel_rfl) (by kernel_rfl) (by kernel_rfl) (fun _ _ _ h => h) (Or.inl ⟨by rfl, ?y0⟩) (by assumption) ?r0
            case y0 => (intro w hSw; (try dsimp only at hSw); (try simp only [List.getElem_toArray, List.getElem_cons_zero, List.getElem_cons_succ]); go_simp; try with_reducible rfl)
            case r0 =>
            try simp only [Act.put, List.setIfInBounds_toArray, List.set_cons_zero, List.set_cons_succ, List.getElem_toArray, List.getElem_cons_zero, List.getElem_cons_succ]
            refine wpAnyH_take (i := 1) (v := .int .i64 64) rfl (by kernel_rfl) (by kernel_rfl) (by kernel_rfl) (fun _ _ _ h => h) (Or.inl ⟨by rfl, ?y1⟩) (by assumption) ?r1
            case y1 => (intro w hSw; (try dsimp only at hSw); (try simp only [List.getElem_toArray, List.getElem_cons_zero, List.getElem_cons_succ]); go_simp; try with_reducible rfl)
            case r1 =>
            try simp only [Act.put, List.setIfInBounds_toArray, List.set_cons_zero, List.set_cons_succ, List.getElem_toArray, List.getElem_cons_zero, List.getElem_cons_succ]
            refine wpAnyH_take (i := 2) (v := .bool true) rfl (by kernel_rfl) (by kernel_rfl) (by kernel_rfl) (fun _ _ _ h => h) (Or.inl ⟨by rfl, ?y2⟩) (by assumption) ?r2
            case y2 => (intro w hSw; (try dsimp only at hSw); (try simp only [List.getElem_toArray, List.getElem_cons_zero, List.getElem_cons_succ]); go_simp; try with_reducible rfl)
            case r2 =>
            try simp only [Act.put, List.setIfInBounds_toArray, List.set_cons_zero, List.set_cons_succ, List.getElem_toArray, List.getElem_cons_zero, List.getElem_cons_succ]
            refine wpAnyH_take (i := 3) (v := .bool true) rfl (by kernel_rfl) (by kernel_rfl) (by kernel_rfl) (fun _ _ _ h => h) (Or.inl ⟨by rfl, ?y3⟩) (by assumption) ?r3
            case y3 => (intro w hSw; (try dsimp only at hSw); (try simp only [List.getElem_toArray, List.getElem_cons_zero, List.getElem_cons_succ]); go_simp; try with_reducible rfl)
            case r3 =>
            try simp only [Act.put, List.setIfInBounds_toArray, List.set_cons_zero, List.set_cons_succ, List.getElem_toArray, List.getElem_cons_zero, List.getElem_cons_succ]
            refine wpAnyH_take (i := 4) (v := .slice (some ⟨g, o, none⟩) 64 yc) rfl (by kernel_rfl) (by kernel_rfl) (by kernel_rfl) (fun _ _ _ h => h) (Or.inl ⟨by rfl, ?y4⟩) (by assumption) ?r4
            case y4 => (intro w hSw; (try dsimp only at hSw); (try simp only [List.getElem_toArray, List.getElem_cons_zero, List.getElem_cons_succ]); go_simp; try with_reducible rfl)
            case r4 =>
            try simp only [Act.put, List.setIfInBounds_toArray, List.set_cons_zero, List.set_cons_succ, List.getElem_toArray, List.getElem_cons_zero, List.getElem_cons_succ]
            refine wpAnyH_take (i := 5) (v := .slice (some ⟨g, o, none⟩) 64 yc) rfl (by kernel_rfl) (by kernel_rfl) (by kernel_rfl) (fun _ _ _ h => h) (Or.inl ⟨by rfl, ?y5⟩) (by assumption) ?r5
            case y5 => (intro w hSw; (try dsimp only at hSw); (try simp only [List.getElem_toArray, List.getElem_cons_zero, List.getElem_cons_succ]); go_simp; try with_reducible rfl)
            case r5 =>
            try simp only [Act.put, List.setIfInBounds_toArray, List.set_cons_zero, List.set_cons_succ, List.getElem_toArray, List.getElem_cons_zero, List.getElem_cons_succ]
            refine wpAnyH_take (i := 6) (v := .int .i64 64) rfl (by kernel_rfl) (by kernel_rfl) (by kernel_rfl) (fun _ _ _ h => h) (Or.inl ⟨by rfl, ?y6⟩) (by assumption) ?r6
            case y6 => (intro w hSw; (try dsimp only at hSw); (try simp only [List.getElem_toArray, List.getElem_cons_zero, List.getElem_cons_succ]); go_simp; try with_reducible rfl)
            case r6 =>
            try simp only [Act.put, List.setIfInBounds_toArray, List.set_cons_zero, List.set_cons_succ, List.getElem_toArray, List.getElem_cons_zero, List.getElem_cons_succ]
            refine wpAnyH_take (i := 7) (v := .int .i64 60) rfl (by kernel_rfl) (by kernel_rfl) (by kernel_rfl) (fun _ _ _ h => h) (Or.inl ⟨by rfl, ?y7⟩) (by assumption) ?r7
            case y7 => (intro w hSw; (try dsimp only at hSw); (try simp only [List.getElem_toArray, List.getElem_cons_zero, List.getElem_cons_succ]); go_simp; try with_reducible rfl)
            case r7 =>
            try simp only [Act.put, List.setIfInBounds_toArray, List.set_cons_zero, List.set_cons_succ, List.getElem_toArray, List.getElem_cons_zero, List.getElem_cons_succ]
            refine wpAnyH_take (i := 8) (v := .slice (some ⟨g, o, none⟩) 60 yc) rfl (by kernel_rfl) (by kernel_rfl) (by kernel_rfl) (fun _ _ _ h => h) (Or.inl ⟨by rfl, ?y8⟩) (by assumption) ?r8
            case y8 => (intro w hSw; (try dsimp only at hSw); (try simp only [List.getElem_toArray, List.getElem_cons_zero, List.getElem_cons_succ]); go_simp; try with_reducible rfl)
            case r8 =>
            try simp only [Act.put, List.setIfInBounds_toArray, List.set_cons_zero, List.set_cons_succ, List.getElem_toArray, List.getElem_cons_zero, List.getElem_cons_succ]
            refine wpAnyH_take (i := 11) (v := .slice (some ⟨g, o, none⟩) 64 yc) rfl (by kernel_rfl) (by kernel_rfl) (by kernel_rfl) (fun _ _ _ h => h) (Or.inl ⟨by rfl, ?y11⟩) (by assumption) ?r11
            case y11 => (intro w hSw; (try dsimp only at hSw); (try simp only [List.getElem_toArray, List.getElem_cons_zero, List.getElem_cons_succ]); go_simp; try with_reducible rfl)
            case r11 =>
            try simp only [Act.put, List.setIfInBounds_toArray, List.set_cons_zero, List.set_cons_succ, List.getElem_toArray, List.getElem_cons_zero, List.getElem_cons_succ]
            refine wpAnyH_take (i := 12) (v := .string st) rfl (by kernel_rfl) (by kernel_rfl) (by kernel_rfl) (fun _ _ _ h => h) (Or.inl ⟨by rfl, ?y12⟩) (by assumption) ?r12
            case y12 => (intro wq hSw; exact exec_convert _ _ 22 9 (.tmp 64) rfl _ _ _ rfl (by rw [← HST.out]; exact (HR5.out.turn hSw (fun _ _ => id)).conv))
            case r12 =>
            try simp only [Act.put, List.setIfInBounds_toArray, List.set_cons_zero, List.set_cons_succ, List.getElem_toArray, List.getElem_cons_zero, List.getElem_cons_succ]
            refine wpAnyH_ready (rs := [9]) (by kernel_rfl) (by simp) ?_
            refine AllReadyH.cons rfl (fun K hK => ?_) AllReadyH.nil
            go_simp
            refine (refseal_any _ (ys.take 60) w5.drew (.inl (HR6.out.turn hHeld (fun _ _ => id))) hb60).mono ?_
            rintro e w6 ⟨v6, rfl, hR7, t6⟩
            rw [HSEAL.out] at hR7
            have t56 := hHeld.trans t6 (fun _ _ => id)
            refine hK.out _ _ t56 (fun _ => ?_)
            clear hK K
            try simp only [Act.put, List.setIfInBounds_toArray, List.set_cons_zero, List.set_cons_succ, List.getElem_toArray, List.getElem_cons_zero, List.getElem_cons_succ]
            have kc := hR7.conv
            obtain ⟨su, hsu⟩ : ∃ su, strOfNums (sealB ys) = su := ⟨_, rfl⟩
            rw [hsu] at kc
            have HSU := Lib.hid hsu
            clear hsu hR7
            refine wpAnyH_ready (rs := [10]) (by kernel_rfl) (by simp) ?_
            refine AllReadyH.cons rfl (fun K hK => ?_) AllReadyH.nil
            go_simp
            refine hK.out _ _ t56 (fun _ => ?_)
            clear hK K
            try simp only [Act.put, List.setIfInBounds_toArray, List.set_cons_zero, List.set_cons_succ, List.getElem_toArray, List.getElem_cons_zero, List.getElem_cons_succ]
            have hsu2 : ¬ su.toList = st.toList := by
              rw [← HSU.out, ← HST.out]
              exact fun h => HS.out (nums_inj hyb (sealB_ok ys hyb) h.symm)
            refine wpAnyH_take (i := 13) (v := .bool false) rfl (by kernel_rfl) (by kernel_rfl) (by kernel_rfl) (fun _ _ _ h => h) (Or.inl ⟨by rfl, ?y13⟩) (by assumption) ?r13
            case y13 => (intro wq hSw; (try dsimp only at hSw); (try simp only [List.getElem_toArray, List.getElem_cons_zero, List.getElem_cons_succ]); go_simp)
            case r13 =>
            try simp only [Act.put, List.setIfInBounds_toArray, List.set_cons_zero, List.set_cons_succ, List.getElem_toArray, List.getElem_cons_zero, List.getElem_cons_succ]
            refine wpAnyH_take (i := 14) (v := .bool false) rfl (by kernel_rfl) (by kernel_rfl) (by kernel_rfl) (fun _ _ _ h => h) (Or.inl ⟨by rfl, ?y14⟩) (by assumption) ?r14
            case y14 => (intro w hSw; (try dsimp only at hSw); (try simp only [List.getElem_toArray, List.getElem_cons_zero, List.getElem_cons_succ]); go_simp; try with_reducible rfl)
            case r14 =>
            try simp only [Act.put, List.setIfInBounds_toArray, List.set_cons_zero, List.set_cons_succ, List.getElem_toArray, List.getElem_cons_zero, List.getElem_cons_succ]
            refine wpAnyH_take (i := 15) (v := .bool false) rfl (by kernel_rfl) (by kernel_rfl) (by kernel_rfl) (fun _ _ _ h => h) (Or.inl ⟨by rfl, ?y15⟩) (by assumption) ?r15
            case y15 => (intro w hSw; (try dsimp only at hSw); (try simp only [List.getElem_toArray, List.getElem_cons_zero, List.getElem_cons_succ]); go_simp; try with_reducible rfl)
            case r15 =>
            try simp only [Act.put, List.setIfInBounds_toArray, List.set_cons_zero, List.set_cons_succ, List.getElem_toArray, List.getElem_cons_zero, List.getElem_cons_succ]
            refine wpAnyH_done (by kernel_rfl) ?_ _
            clear kc
            go_wp2_with fail
            go_region
            go_wp2_with fail
            go_roundw
            case rel => exact ⟨k + 1, by omega, by go_num, (h45.trans t56 (fun _ _ => id)).drew⟩
            case measure => simp [intOf]; omega
        · have hb : ((l : Int) == 64) = false := by rw [beq_eq_false_iff_ne]; omega
          rcases h5 with ⟨hs, _⟩ | ⟨hs, rfl⟩
          · have := congrArg List.length hs
            rw [HL.out, sealB_len] at this
            exact absurd this hl64
          · clear hs
            go_wp2_with fail
            go_region
            go_wp2_with fail
            go_region
            go_wp2_with fail
            go_roundw
            case rel => exact ⟨k + 1, by omega, by go_num, h45.drew.drew⟩
            case measure => simp [intOf]; omega
      · obtain rfl : k = 2 := by omega
        have hd2 : decide ((2 : Int) < 2) = false := by decide
        go_wp2_with fail
        go_ret
        exact ⟨rfl, T4.trans h4 (fun _ _ => id)⟩

set_option maxHeartbeats 1600000 in
set_option maxRecDepth 100000 in
theorem checkOpens_walk (v : Value) (xs : List Int) (at_ tn : Int) (long : Bool) (w : World) (hv : Src w v xs) (hx : BytesOk xs) (hat : 0 ≤ at_ ∧ at_ < 256) (htn : 0 ≤ tn ∧ tn < 256) (ht : Tab w) :
    Calls Tryd.prog 5 #[v, .int .u8 at_, .int .u8 tn, .bool long] w (AwakePost w) := by
  by_cases h100 : xs.length ≤ 100
  · exact opens_walk v xs at_ tn long w hv hx hat htn ht h100
  · have HT := Lib.hid ht
    obtain ⟨a, c, rfl, q⟩ := src_any hv
    clear hv hx ht q
    have hd : decide ((100 : Int) < (xs.length : Int)) = true := by simp; omega
    go_enter Tryd.func5, Tryd.ntmps5
    go_wp2_with fail
    refine (awake_any w HT.out).mono ?_
    rintro e w1 ⟨rfl, t1⟩
    go_wp2_with fail
    refine (awake_any w1 (HT.out.turn t1)).mono ?_
    rintro e w2 ⟨rfl, t2⟩
    go_wp2_with fail
    go_ret
    exact ⟨rfl, t1.trans t2 (fun _ _ => id)⟩
end Go.Proofs.YtckeackepolhdaaDoor
