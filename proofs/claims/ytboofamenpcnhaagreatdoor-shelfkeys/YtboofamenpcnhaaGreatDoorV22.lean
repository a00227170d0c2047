/- Own texts, packed: Q30. -/
import Derived.Test.YtboofamenpcnhaaGreatDoorV20
import Derived.Test.YtboofamenpcnhaaGreatDoorV00
namespace Go.Proofs.YtboofamenpcnhaaGreatDoor
set_option maxRecDepth 100000
open Go.RowKit
set_option linter.unusedVariables false
set_option linter.unusedSimpArgs false
theorem reads_pos {w : World} {v : Value} {xs : List Int} (h : Reads w v xs) (h0 : 0 < xs.length) : ∃ g o c, v = .slice (some ⟨g, o, none⟩) xs.length c ∧ ∀ i, i < xs.length → w.cell? ⟨g, o + i, none⟩ = some (.int .u8 (xs.getD i 0)) := by
  rcases h with ⟨_, rfl⟩ | ⟨g, o, c, rfl, _, hc⟩
  · simp at h0
  · exact ⟨g, o, c, rfl, hc⟩
theorem concat_at (w : World) (G c0 : Nat) (hc0 : 2 ≤ c0) (g1 o1 c1 g2 o2 c2 : Nat) (xs ys : List Int) (L1 L2 : Nat) (hL1 : xs.length = L1) (hL2 : ys.length = L2)
    (hG1 : w.cell? ⟨G, 0, none⟩ = some (.slice (some ⟨g1, o1, none⟩) L1 c1)) (hG2 : w.cell? ⟨G, 1, none⟩ = some (.slice (some ⟨g2, o2, none⟩) L2 c2))
    (h1 : ∀ i, i < xs.length → w.cell? ⟨g1, o1 + i, none⟩ = some (.int .u8 (xs.getD i 0))) (h2 : ∀ i, i < ys.length → w.cell? ⟨g2, o2 + i, none⟩ = some (.int .u8 (ys.getD i 0)))
    (hpos : 0 < L1 + L2) (hle : L1 + L2 ≤ 1000) :
    Calls Tryz.prog 76 #[.slice (some ⟨G, 0, none⟩) 2 c0] w (Made w (xs ++ ys)) := by
  subst hL1; subst hL2
  exact concat_any w G c0 hc0 g1 o1 c1 g2 o2 c2 xs ys hG1 hG2 h1 h2 hpos hle
theorem head_ok (m n : Int) : BytesOk (fourB m ++ fourB n) := fun x hx => by
  rcases List.mem_append.1 hx with h | h
  · exact fourB_ok _ x h
  · exact fourB_ok _ x h
theorem half_ok (m n : Int) (ys : List Int) (hy : BytesOk ys) : BytesOk (fourB m ++ fourB n ++ ys) := fun x hx => by
  rcases List.mem_append.1 hx with h | h
  · exact head_ok m n x h
  · exact hy x h
theorem sec_cell {w : World} {A : Nat} {ys : List Int} (h : w.rangeAt A 0 (secV ys)) (i : Nat) (hi : i < ys.length) : w.cell? ⟨A, i, none⟩ = some (.int .u8 (ys.getD i 0)) := by
  have := h i (.int .u8 (ys.getD i 0)) (by simp [secV, List.getD, hi])
  rwa [Nat.zero_add] at this
theorem half_cells_0 {w : World} {A : Nat} {ys : List Int} (h : w.rangeAt A 0 (secV ys)) (hl : ys.length = 64) : ∀ i, i < (ys.take 32).length → w.cell? ⟨A, 0 + i, none⟩ = some (.int .u8 ((ys.take 32).getD i 0)) := fun i hi => by
  have hi' : i < 32 := by simp at hi; omega
  rw [Nat.zero_add, sec_cell h i (by omega)]
  simp [List.getD, hi', List.getElem?_take]
theorem half_cells_32 {w : World} {A : Nat} {ys : List Int} (h : w.rangeAt A 0 (secV ys)) (hl : ys.length = 64) : ∀ i, i < (ys.drop 32).length → w.cell? ⟨A, 32 + i, none⟩ = some (.int .u8 ((ys.drop 32).getD i 0)) := fun i hi => by
  have hi' : i < 32 := by simp at hi; omega
  rw [sec_cell h (32 + i) (by omega)]
  simp [List.getD, List.getElem?_drop]
theorem exec_copy {P : Program} (ev : Operand → Value) (op : Oper) (s x : Operand) (t : TypeId) (ho : op.op = .call { callee := .builtin .copy, args := #[s, x], argTypes := #[t, t] }) (v v2 v' : Value) (w w' : World) (hs : ev s = v) (hx : ev x = v2)
    (hrun : (Builtin.copy_ #[t, t] op.type #[v, v2]).run P w = .ok v' w') : (execOp ev op).run P w = .ok (.value v') w' := by
  unfold execOp
  simp only [ho, resolve, invoke, builtin, Sem.run_bind, Sem.run_pure, Result.andThen_ok, List.map_toArray, List.map_cons, List.map_nil, hs, hx, hrun]
theorem run_copy_arr (w : World) (B : Nat) (v : Value) (xs : List Int) (hr : w.rangeAt B 0 (secV noughts)) (hth : w.there B 0 64) (hv : Src w v xs) (hx : xs.length ≤ 64) (ty : TypeId) :
    ∃ w', (Builtin.copy_ #[29, 29] ty #[.slice (some ⟨B, 0, none⟩) 64 64, v]).run Tryz.prog w = .ok (.int .i64 (xs.length : Int)) w' ∧ w'.rangeAt B 0 (secV (pad64 xs)) ∧ w'.there B 0 64 ∧ Turn (fun q => q = B) w w' := by
  by_cases h0 : xs.length = 0
  · obtain ⟨a, c, rfl, _⟩ := src_any hv
    have hxs : xs = [] := List.eq_nil_of_length_eq_zero h0
    subst hxs
    refine ⟨w, run_copy_none (P := Tryz.prog) w 29 29 ty 5 _ _ 64 64 0 c Tryz.underlying29 info5s rfl, hr, hth, Turn.refl _ _⟩
  · obtain ⟨a, c, rfl, hc⟩ := src_any hv
    obtain ⟨hcap, g, o, rfl, hcell⟩ := hc (by omega)
    have hlen : (secV xs).length = Nat.min xs.length 64 := by
      rw [secV_len]; show xs.length = min xs.length 64; omega
    have hrun := run_copy_cells (P := Tryz.prog) w 29 29 ty 5 B 0 64 64 ⟨g, o, none⟩ xs.length c (secV xs) Tryz.underlying29 info5s hlen (by
      intro j u hj
      have hjl : j < xs.length := by have := (List.getElem?_eq_some_iff.1 hj).1; rwa [secV_len] at this
      rw [Addr.add_mid, hcell j hjl]
      simp [secV, hjl] at hj; subst hj; simp [List.getD, hjl]) (by
      intro j hj; rw [secV_len] at hj
      exact (hth j (by omega)).1) (by
      intro j hj; rw [secV_len] at hj
      exact (hth j (by omega)).2) (secV_one xs)
    refine ⟨_, ?_, ?_, World.there_setCells hth _ _ _, turn_setCells B (secV xs) 0 w⟩
    · rw [hrun, secV_len]; rfl
    · have h1 := range_over hr 0 (secV xs) (by rw [secV_len, secV_len, noughts_len]; omega)
      rw [Nat.zero_add] at h1
      have e : (secV noughts).take 0 ++ secV xs ++ (secV noughts).drop (0 + (secV xs).length) = secV (pad64 xs) := by
        simp only [List.take_zero, List.nil_append, secV_len, pad64, secV, noughts, List.map_append]
        congr 1
        rw [Nat.zero_add, ← List.map_drop, List.drop_replicate, List.length_map]
      rw [e] at h1; exact h1
theorem zero72 (w W : World) (cs : Array Value) (h : w.alloc (.cells cs 107) = W) (hcs : cs = (secV noughts).toArray) : W.rangeAt w.heap.size 0 (secV noughts) ∧ W.there w.heap.size 0 64 ∧ Turn (fun _ => False) w W := by
  subst hcs
  subst h
  have hb := heap_alloc_new w (.cells (secV noughts).toArray 107)
  refine ⟨fun j v hv => ?_, fun j hj => ?_, (Turn.refl _ w).alloc _⟩
  · rw [Nat.zero_add, cell_of_row _ _ _ _ 107 (0, 0) hb]; simpa using hv
  · rw [Nat.zero_add]
    exact ⟨by rw [cell_of_row _ _ _ _ 107 (0, 0) hb]; simp [secV, noughts, hj], frozen_of_row _ _ _ _ 107 hb⟩
/-- What the journal notes of pages. -/
def noteA (m : Int) : Nat → List (Int × List Int) → List DAct
  | _, [] => []
  | i, x :: l => .wr (1 + 2 * (i : Int)) (fourB m ++ fourB x.1 ++ (pad64 x.2).take 32) :: .wr (2 + 2 * (i : Int)) (fourB m ++ fourB x.1 ++ (pad64 x.2).drop 32) :: noteA m (i + 1) l
theorem noteA_len (m : Int) (i : Nat) (l : List (Int × List Int)) : (noteA m i l).length = 2 * l.length := by
  induction l generalizing i with
  | nil => rfl
  | cons x l ih => simp [noteA, ih]; omega
theorem noteA_at (m : Int) (i : Nat) (l : List (Int × List Int)) (j : Nat) (x : Int × List Int) (hx : l[j]? = some x) :
    (noteA m i l)[2 * j]? = some (.wr (1 + 2 * ((i + j : Nat) : Int)) (fourB m ++ fourB x.1 ++ (pad64 x.2).take 32)) ∧ (noteA m i l)[2 * j + 1]? = some (.wr (2 + 2 * ((i + j : Nat) : Int)) (fourB m ++ fourB x.1 ++ (pad64 x.2).drop 32)) := by
  induction l generalizing i j with
  | nil => simp at hx
  | cons y l ih =>
    cases j with
    | zero => simp at hx; subst hx; exact ⟨rfl, rfl⟩
    | succ j =>
      have := ih (i + 1) j (by simpa using hx)
      rw [show i + 1 + j = i + (j + 1) by omega] at this
      exact ⟨by rw [show 2 * (j + 1) = 2 * j + 1 + 1 by omega]; simpa [noteA] using this.1, by rw [show 2 * (j + 1) + 1 = 2 * j + 1 + 1 + 1 by omega]; simpa [noteA] using this.2⟩
def noteAll (m : Int) (l : List (Int × List Int)) : List DAct := noteA m 0 l ++ [.wr 0 (fourB m ++ fourB (l.length : Int)), .fl]
set_option maxHeartbeats 8000000 in
set_option maxRecDepth 100000 in
theorem note_any (w : World) (F R : Nat → Prop) (J D : Nat) (d : DiskM) (last : Nat) (m : Int) (v : Value) (l : List (Int × List Int)) (h : JH w F J D d last) (hp : PagesIn w R v l)
    (hR : ∀ k, R k → k < w.heap.size ∧ ¬ F k) (hb : ∀ x ∈ l, BytesOk x.2) (hl : l.length ≤ 24) (hroom : Room 100 d) (hfit : fitsB (d.safe.length - 49) l = true) :
    Calls Tryz.prog 71 #[.pointer (some ⟨J, 0, none⟩), .int .i64 m, v] w (JStep w F J D last (DiskM.run (noteAll m l) d)) := by
  have hz := zero46
  obtain ⟨a, c, rfl, hcap⟩ := hp.form
  obtain ⟨n, hn⟩ : ∃ n, l.length = n := ⟨_, rfl⟩
  have hfew := h.dh.few
  have HH := Lib.hid h
  have HP := Lib.hid hp
  have HN := Lib.hid hn
  have HFIT := Lib.hid hfit
  have HRO := Lib.hid hroom
  rw [hn] at hcap hl
  clear h hp hfit hroom
  simp only [hn]
  clear hn
  go_enter Tryz.func71, Tryz.ntmps71
  go_wp2_with fail
  go_loopw [16] (fun iv wr => ∃ j : Nat, j ≤ n ∧ iv = .int .i64 (j : Int) ∧ ∃ Fj dj, DiskM.run ((noteA m 0 l).take (2 * j)) d = (dj, 0) ∧ DH wr Fj D dj ∧ Step w F wr Fj) (fun iv _ => (n - intOf iv).toNat)
  case atStart => exact ⟨0, Nat.zero_le _, rfl, F, d, rfl, HH.out.dh, Step.refl _ _⟩
  case round =>
    obtain ⟨j, hj, rfl, Fj, dj, hrun, hdj, hst⟩ := hrel
    have HRUN := Lib.hid hrun
    have HDJ := Lib.hid hdj
    have hroomj : Room 50 dj := by
      have h1 : Room 50 (DiskM.run ((noteA m 0 l).take (2 * j)) d).1 := Room.run (HRO.out.less (by simp [noteA_len]; have := HN.out; omega))
      rw [hrun] at h1; exact h1
    have HRM := Lib.hid hroomj
    have hJc := (HH.out.jat.turn hst.turn HH.out.nJ)
    have c0 := hJc.c0
    have hJlt := hJc.lt
    have hnJ : ¬ Fj J := hst.out HH.out.jat.lt HH.out.nJ
    have HNJ := Lib.hid hnJ
    have hlenj : dj.safe.length = d.safe.length := by have := DiskM.run_len ((noteA m 0 l).take (2 * j)) d; rw [hrun] at this; exact this
    have hJH : JH wr Fj J D dj last := HH.out.step hdj hst hlenj
    have HJH := Lib.hid hJH
    clear hJc hrun hdj hroomj hnJ hlenj hJH
    by_cases hlt : j < n
    · obtain ⟨x, hx⟩ : ∃ x, l[j]? = some x := ⟨_, List.getElem?_eq_getElem (by rw [HN.out]; exact hlt)⟩
      have hpr := HP.out.turn hst.turn (fun k hk => (hR k hk).2)
      rcases hpr with ⟨_, h0⟩ | ⟨g, c', hsl, hc', hg, hglt, hpp⟩
      · subst h0; have := HN.out; simp at this; omega
      obtain ⟨p1, u, p2, p3, p4⟩ := hpp j x hx
      rw [HN.out] at hsl
      injection hsl with e1 e2 e3
      subst e1
      subst e3
      obtain ⟨ua, uc, rfl, _⟩ := src_any p3
      have hbx := hb x (List.mem_of_getElem? hx)
      have hfx : (0 ≤ x.1 ∧ x.1 < ((d.safe.length - 49 : Nat) : Int)) ∧ x.2.length ≤ 64 := by
        have := List.all_eq_true.1 HFIT.out x (List.mem_of_getElem? hx)
        simp at this
        omega
      have hax := noteA_at m 0 l j x hx
      rw [Nat.zero_add] at hax
      have HAX := Lib.hid hax
      have HSR := Lib.hid p3
      clear hpp p3 hx e2 hc' hax p4
      obtain ⟨xa, xs⟩ := x
      dsimp only at p1 p2 hbx hfx HAX
      have hx64 := hfx.2
      have HYL := Lib.hid (pad64_len xs hx64)
      have HYB := Lib.hid (pad64_ok xs hbx)
      clear hbx
      have hd1 : decide ((j : Int) < (n : Int)) = true := by simp; omega
      go_wp2_with fail
      generalize hW1 : World.alloc wr _ = w1
      have t1 : Turn (fun _ => False) wr w1 := by rw [← hW1]; exact (Turn.refl _ wr).alloc _
      have hnew := heap_alloc_new wr (.cells #[.int .i64 xa, .slice ua xs.length uc] 88)
      rw [hW1] at hnew
      have qb0 : w1.cell? ⟨wr.heap.size, 0, none⟩ = some (.int .i64 xa) := cell_of_row _ _ 0 _ 88 (0, 0) hnew
      have qb1 : w1.cell? ⟨wr.heap.size, 1, none⟩ = some (.slice ua xs.length uc) := cell_of_row _ _ 1 _ 88 (0, 0) hnew
      have hs1 : w1.heap.size = wr.heap.size + 1 := by rw [← hW1]; simp
      clear hW1
      generalize hW2 : World.alloc w1 _ = w2
      obtain ⟨hr2, hth2, t2⟩ := zero72 w1 w2 _ hW2 (by kernel_rfl)
      clear hW2
      have HR2 := Lib.hid hr2
      have HTH2 := Lib.hid hth2
      have hNB : ¬ Fj wr.heap.size := fun hk => by have := HDJ.out.2 _ hk; omega
      have hNA : ¬ Fj w1.heap.size := fun hk => by have := HDJ.out.2 _ hk; have := t1.size; omega
      have hBw1 : wr.heap.size < w1.heap.size := (Array.getElem?_eq_some_iff.1 hnew).1
      have hAw2 : w1.heap.size < w2.heap.size := by
        have := (hth2 0 (by omega)).1
        obtain ⟨vv, hvv⟩ := Option.isSome_iff_exists.1 this
        exact World.block_lt_of_cell? w2 _ hvv
      obtain ⟨A, hAA⟩ : ∃ A, wr.heap.size + 1 = A := ⟨_, rfl⟩
      obtain ⟨B, hBB⟩ : ∃ B, wr.heap.size = B := ⟨_, rfl⟩
      rw [hs1, hAA] at HR2 HTH2 hNA hAw2 hBw1
      rw [hAA]
      rw [hBB] at qb0 qb1 hNB hBw1 ⊢
      clear hnew hr2 hth2
      have hBA : ¬ B = A := by omega
      have hBlt2 : B < w2.heap.size := by omega
      have qc1 : w2.drew.cell? ⟨B, 1, none⟩ = some (.slice ua xs.length uc) := (t2.cell (p := ⟨B, 1, none⟩) (by show B < w1.heap.size; rw [hs1]; omega) id).trans qb1
      have qc0 : w2.cell? ⟨B, 0, none⟩ = some (.int .i64 xa) := (t2.cell (p := ⟨B, 0, none⟩) (by show B < w1.heap.size; rw [hs1]; omega) id).trans qb0
      have t12 := t1.trans t2 (fun _ _ => id)
      have HSR2 := Lib.hid (HSR.out.turn t12 (fun _ _ => id))
      have HBB := Lib.hid hBB
      have HAA := Lib.hid hAA
      clear qb0 qb1 hBB hAA
      refine wp_region_held_drew (S := fun w' => w'.cell? ⟨B, 1, none⟩ = some (.slice ua xs.length uc)) (by kernel_rfl) qc1 (fun hHeld => ?_)
      refine wpAnyH_take (i := 0) (v := .slice (some ⟨A, 0, none⟩) 64 64) rfl (by kernel_rfl) (by kernel_rfl) (by kernel_rfl) (fun _ _ _ h => h) (Or.inl ⟨by rfl, ?yc0⟩) (by assumption) ?rc0
      case yc0 => (intro wq hSw; (try simp only [zq1, zq2, zq3]); go_simp; try with_reducible rfl)
      case rc0 =>
      try simp only [Act.put, zq4, zq5, zq6, zq1, zq2, zq3]
      refine wpAnyH_take (i := 1) (v := .pointer (some ⟨B, 1, none⟩)) rfl (by kernel_rfl) (by kernel_rfl) (by kernel_rfl) (fun _ _ _ h => h) (Or.inl ⟨by rfl, ?yc1⟩) (by assumption) ?rc1
      case yc1 => (intro wq hSw; (try simp only [zq1, zq2, zq3]); go_simp; try with_reducible rfl)
      case rc1 =>
      try simp only [Act.put, zq4, zq5, zq6, zq1, zq2, zq3]
      refine wpAnyH_take (i := 2) (v := .slice ua xs.length uc) rfl (by kernel_rfl) (by kernel_rfl) (by kernel_rfl) (fun _ _ _ h => h) (Or.inl ⟨by rfl, ?yc2⟩) (by assumption) ?rc2
      case yc2 => (intro wq hSw; (have s0 := hSw); (try simp only [zq1, zq2, zq3]); go_simp; try with_reducible rfl)
      case rc2 =>
      try simp only [Act.put, zq4, zq5, zq6, zq1, zq2, zq3]
      refine wpAnyH_ready (rs := [3]) (by kernel_rfl) (by simp) ?_
      refine AllReadyH.cons rfl (fun K hK => ?_) AllReadyH.nil
      rw [if_pos (by rfl)]
      obtain ⟨w3, hcp, hr3, hth3, tcp⟩ := run_copy_arr w2.drew A (.slice ua xs.length uc) xs HR2.out HTH2.out (HSR2.out.turn (Turn.refl (fun _ => False) w2).drew (fun _ _ => id)) hx64 3
      refine oper_exec _ _ (exec_copy _ _ (.tmp 21) (.tmp 23) 29 rfl _ _ _ _ _ rfl rfl hcp) ?_
      refine hK.out _ _ ((tcp.cell (p := ⟨B, 1, none⟩) hBlt2 (fun e => hBA e)).trans qc1) (fun _ => ?_)
      clear hK K
      try simp only [Act.put, zq4, zq5, zq6, zq1, zq2, zq3]
      refine wpAnyH_done (by kernel_rfl) ?_ _
      change Exit.then _ _ _ _ w3
      clear hHeld
      have tcp' : Turn (fun q => q = A) w2 w3 := tcp.of_drew
      have HR3 := Lib.hid hr3
      have hBlt3 : B < w3.heap.size := Nat.lt_of_lt_of_le hBlt2 tcp'.size
      have qf0 : w3.drew.cell? ⟨B, 0, none⟩ = some (.int .i64 xa) := (tcp'.cell (p := ⟨B, 0, none⟩) hBlt2 (fun e => hBA e)).trans qc0
      have hst3 : Step wr Fj w3 Fj := ⟨fun _ h => .inl h, (t12.mono (fun _ _ h => h.elim)).trans tcp' (fun q hq e => by subst e; exfalso; have := HAA.out; omega)⟩
      clear tcp hr3 hth3 hcp qc1
      go_wp2_with fail
      refine wp_region_held_drew (S := fun w' => w'.cell? ⟨B, 0, none⟩ = some (.int .i64 xa)) (by kernel_rfl) qf0 (fun hHeld => ?_)
      refine wpAnyH_take (i := 0) (v := .int .i64 m) rfl (by kernel_rfl) (by kernel_rfl) (by kernel_rfl) (fun _ _ _ h => h) (Or.inl ⟨by rfl, ?yf0⟩) (by assumption) ?rf0
      case yf0 => (intro wq hSw; (try simp only [zq1, zq2, zq3]); go_simp; try with_reducible rfl)
      case rf0 =>
      try simp only [Act.put, zq4, zq5, zq6, zq1, zq2, zq3]
      refine wpAnyH_take (i := 2) (v := .pointer (some ⟨B, 0, none⟩)) rfl (by kernel_rfl) (by kernel_rfl) (by kernel_rfl) (fun _ _ _ h => h) (Or.inl ⟨by rfl, ?yf2⟩) (by assumption) ?rf2
      case yf2 => (intro wq hSw; (try simp only [zq1, zq2, zq3]); go_simp; try with_reducible rfl)
      case rf2 =>
      try simp only [Act.put, zq4, zq5, zq6, zq1, zq2, zq3]
      refine wpAnyH_take (i := 3) (v := .int .i64 xa) rfl (by kernel_rfl) (by kernel_rfl) (by kernel_rfl) (fun _ _ _ h => h) (Or.inl ⟨by rfl, ?yf3⟩) (by assumption) ?rf3
      case yf3 => (intro wq hSw; (have s0 := hSw); (try simp only [zq1, zq2, zq3]); go_simp; try with_reducible rfl)
      case rf3 =>
      try simp only [Act.put, zq4, zq5, zq6, zq1, zq2, zq3]
      refine wpAnyH_ready (rs := [1]) (by kernel_rfl) (by simp) ?_
      refine AllReadyH.cons rfl (fun K hK => ?_) AllReadyH.nil
      go_simp
      refine (four_any m w3.drew).mono ?_
      rintro e w4 ⟨v4, rfl, hrd4, hown4, t4'⟩
      have t4 : Turn (fun _ => False) w3 w4 := t4'.of_drew
      obtain ⟨g4, o4, c4, rfl, hc4⟩ := reads_pos hrd4 (by show (0:Nat) < 4; omega)
      refine hK.out _ _ ((t4.cell (p := ⟨B, 0, none⟩) hBlt3 id).trans qf0) (fun _ => ?_)
      clear hK K
      try simp only [Act.put, zq4, zq5, zq6, zq1, zq2, zq3]
      refine wpAnyH_ready (rs := [4]) (by kernel_rfl) (by simp) ?_
      refine AllReadyH.cons rfl (fun K hK => ?_) AllReadyH.nil
      go_simp
      refine (four_any xa w4).mono ?_
      rintro e w5 ⟨v5, rfl, hrd5, hown5, t5⟩
      obtain ⟨g5, o5, c5, rfl, hc5⟩ := reads_pos hrd5 (by show (0:Nat) < 4; omega)
      have t35 := t4.trans t5 (fun _ _ => id)
      refine hK.out _ _ ((t35.cell (p := ⟨B, 0, none⟩) hBlt3 id).trans qf0) (fun _ => ?_)
      clear hK K
      try simp only [Act.put, zq4, zq5, zq6, zq1, zq2, zq3]
      refine wpAnyH_ready (rs := [5]) (by kernel_rfl) (by simp) ?_
      refine AllReadyH.cons rfl (fun K hK => ?_) AllReadyH.nil
      go_simp
      
      refine hK.out _ _ (((t35.alloc _).cell (p := ⟨B, 0, none⟩) hBlt3 id).trans qf0) (fun _ => ?_)
      clear hK K
      try simp only [Act.put, zq4, zq5, zq6, zq1, zq2, zq3]
      have t6 : Turn (fun _ => False) w5 (w5.alloc (.cells #[.slice (some ⟨g4, o4, none⟩) (fourB m).length c4, .slice (some ⟨g5, o5, none⟩) (fourB xa).length c5] 29)) := (Turn.refl _ w5).alloc _
      have hn6 := heap_alloc_new w5 (.cells #[.slice (some ⟨g4, o4, none⟩) (fourB m).length c4, .slice (some ⟨g5, o5, none⟩) (fourB xa).length c5] 29)
      have k1 : (w5.alloc (.cells #[.slice (some ⟨g4, o4, none⟩) (fourB m).length c4, .slice (some ⟨g5, o5, none⟩) (fourB xa).length c5] 29)).cell? ⟨w5.heap.size, 0, none⟩ = some (.slice (some ⟨g4, o4, none⟩) (fourB m).length c4) := cell_of_row _ _ 0 _ 29 (0, 0) hn6
      have k2 : (w5.alloc (.cells #[.slice (some ⟨g4, o4, none⟩) (fourB m).length c4, .slice (some ⟨g5, o5, none⟩) (fourB xa).length c5] 29)).cell? ⟨w5.heap.size, 1, none⟩ = some (.slice (some ⟨g5, o5, none⟩) (fourB xa).length c5) := cell_of_row _ _ 1 _ 29 (0, 0) hn6
      obtain ⟨w6, hw6⟩ : ∃ w6, w5.alloc (.cells #[.slice (some ⟨g4, o4, none⟩) (fourB m).length c4, .slice (some ⟨g5, o5, none⟩) (fourB xa).length c5] 29) = w6 := ⟨_, rfl⟩
      rw [hw6] at t6 k1 k2 ⊢
      clear hw6 hn6
      have t46 := t5.trans t6 (fun _ _ => id)
      refine wpAnyH_ready (rs := [6]) (by kernel_rfl) (by simp) ?_
      refine AllReadyH.cons rfl (fun K hK => ?_) AllReadyH.nil
      go_simp
      refine (concat_any w6 w5.heap.size 2 (by omega) g4 o4 c4 g5 o5 c5 (fourB m) (fourB xa) k1 k2 (fun i hi => (t46.cell (p := ⟨g4, o4 + i, none⟩) (World.block_lt_of_cell? w4 _ (hc4 i hi)) id).trans (hc4 i hi)) (fun i hi => (t6.cell (p := ⟨g5, o5 + i, none⟩) (World.block_lt_of_cell? w5 _ (hc5 i hi)) id).trans (hc5 i hi)) (by show (0:Nat) < 4 + 4; omega) (by show (4:Nat) + 4 ≤ 1000; omega)).mono ?_
      rintro e w7 ⟨v7, rfl, hrd7, hown7, t7⟩
      obtain ⟨hg, ho, hc, hv7, hhd⟩ := reads_pos hrd7 (by show (0:Nat) < 8; omega)
      replace hv7 : v7 = .slice (some ⟨hg, ho, none⟩) 8 hc := hv7
      subst hv7
      have t37 := ((t35.trans t6 (fun _ _ => id)).trans t7 (fun _ _ => id))
      refine hK.out _ _ ((t37.cell (p := ⟨B, 0, none⟩) hBlt3 id).trans qf0) (fun _ => ?_)
      clear hK K
      try simp only [Act.put, zq4, zq5, zq6, zq1, zq2, zq3]
      refine wpAnyH_take (i := 7) (v := .slice (some ⟨hg, ho, none⟩) 8 hc) rfl (by kernel_rfl) (by kernel_rfl) (by kernel_rfl) (fun _ _ _ h => h) (Or.inl ⟨by rfl, ?yf7⟩) (by assumption) ?rf7
      case yf7 => (intro wq hSw; (try simp only [zq1, zq2, zq3]); go_simp; try with_reducible rfl)
      case rf7 =>
      try simp only [Act.put, zq4, zq5, zq6, zq1, zq2, zq3]
      refine wpAnyH_done (by kernel_rfl) ?_ _
      change Exit.then _ _ _ _ w7
      clear hHeld
      have hd3 : DH w3 Fj D dj := ((HDJ.out.turn0 t12).turn tcp' (fun k hk e => hNA (e ▸ hk)))
      have HDah := Lib.hid (hd3.turn0 t37)
      have hst7 : Step wr Fj w7 Fj := hst3.trans (Step.of0 Fj t37)
      have hJlth : J < w7.heap.size := Nat.lt_of_lt_of_le hJlt hst7.turn.size
      have qh : w7.drew.cell? ⟨J, 0, none⟩ = some (.pointer (some ⟨D, 0, none⟩)) := (hst7.turn.cell (p := ⟨J, 0, none⟩) hJlt HNJ.out).trans c0
      have HHdh := Lib.hid hhd
      have HArh := Lib.hid (rangeAt_turn HR3.out t37 id)
      have HRMh := Lib.hid HRM.out
      have HNJh := Lib.hid HNJ.out
      have hghg : w6.heap.size ≤ hg := hown7 hg rfl
      have hghl : hg < w7.heap.size := World.block_lt_of_cell? w7 _ (hhd 0 (by show (0:Nat) < 8; omega))
      have hsz36 : wr.heap.size ≤ w6.heap.size := by
        have h1 := hst3.turn.size
        have h2 := (t35.trans t6 (fun _ _ => id)).size
        omega
      have hNH : ¬ Fj hg := fun hk => by have := HDJ.out.2 _ hk; omega
      have HNH := Lib.hid hNH
      have HNAh := Lib.hid hNA
      have hAlt7 : A < w7.heap.size := by
        have h1 := tcp'.size
        have h2 := t37.size
        omega
      have hwa : IntKind.i64.wrap (2 * (j : Int)) = 2 * (j : Int) := by rw [IntKind.wrap_i64]; omega
      have hwb : IntKind.i64.wrap (1 + 2 * (j : Int)) = 1 + 2 * (j : Int) := by rw [IntKind.wrap_i64]; omega
      have hwc : IntKind.i64.wrap (2 + 2 * (j : Int)) = 2 + 2 * (j : Int) := by rw [IntKind.wrap_i64]; omega
      clear hd3 hhd hrd7 hown7 hown4 hown5 hrd4 hrd5 hc4 hc5 k1 k2 t46 t6 t7 t5 t4 t4' t35 qf0 hNA hNH hNB hsz36 hghg tcp' HR3 HSR2 HR2 HTH2 qc0
      go_wp2_with fail
      refine wp_region_held_drew (S := fun w' => w'.cell? ⟨J, 0, none⟩ = some (.pointer (some ⟨D, 0, none⟩))) (by kernel_rfl) qh (fun hHeld => ?_)
      refine wpAnyH_take (i := 0) (v := .pointer (some ⟨J, 0, none⟩)) rfl (by kernel_rfl) (by kernel_rfl) (by kernel_rfl) (fun _ _ _ h => h) (Or.inl ⟨by rfl, ?yh0⟩) (by assumption) ?rh0
      case yh0 => (intro wq hSw; (try simp only [zq1, zq2, zq3]); go_simp; try with_reducible rfl)
      case rh0 =>
      try simp only [Act.put, zq4, zq5, zq6, zq1, zq2, zq3]
      refine wpAnyH_take (i := 1) (v := .pointer (some ⟨J, 0, none⟩)) rfl (by kernel_rfl) (by kernel_rfl) (by kernel_rfl) (fun _ _ _ h => h) (Or.inl ⟨by rfl, ?yh1⟩) (by assumption) ?rh1
      case yh1 => (intro wq hSw; (try simp only [zq1, zq2, zq3]); go_simp; try with_reducible rfl)
      case rh1 =>
      try simp only [Act.put, zq4, zq5, zq6, zq1, zq2, zq3]
      refine wpAnyH_take (i := 2) (v := .pointer (some ⟨J, 0, none⟩)) rfl (by kernel_rfl) (by kernel_rfl) (by kernel_rfl) (fun _ _ _ h => h) (Or.inl ⟨by rfl, ?yh2⟩) (by assumption) ?rh2
      case yh2 => (intro wq hSw; (try simp only [zq1, zq2, zq3]); go_simp; try with_reducible rfl)
      case rh2 =>
      try simp only [Act.put, zq4, zq5, zq6, zq1, zq2, zq3]
      refine wpAnyH_take (i := 3) (v := .pointer (some ⟨D, 0, none⟩)) rfl (by kernel_rfl) (by kernel_rfl) (by kernel_rfl) (fun _ _ _ h => h) (Or.inl ⟨by rfl, ?yh3⟩) (by assumption) ?rh3
      case yh3 => (intro wq hSw; (have s0 := hSw); (try simp only [zq1, zq2, zq3]); go_simp; try with_reducible rfl)
      case rh3 =>
      try simp only [Act.put, zq4, zq5, zq6, zq1, zq2, zq3]
      refine wpAnyH_take (i := 4) (v := .int .i64 (j : Int)) rfl (by kernel_rfl) (by kernel_rfl) (by kernel_rfl) (fun _ _ _ h => h) (Or.inl ⟨by rfl, ?yh4⟩) (by assumption) ?rh4
      case yh4 => (intro wq hSw; (try simp only [zq1, zq2, zq3]); go_simp; try with_reducible rfl)
      case rh4 =>
      try simp only [Act.put, zq4, zq5, zq6, zq1, zq2, zq3]
      refine wpAnyH_take (i := 5) (v := .int .i64 (2 * (j : Int))) rfl (by kernel_rfl) (by kernel_rfl) (by kernel_rfl) (fun _ _ _ h => h) (Or.inl ⟨by rfl, ?yh5⟩) (by assumption) ?rh5
      case yh5 => (intro wq hSw; (try simp only [zq1, zq2, zq3]); go_simp; try with_reducible rfl)
      case rh5 =>
      try simp only [Act.put, zq4, zq5, zq6, zq1, zq2, zq3]
      refine wpAnyH_take (i := 6) (v := .int .i64 (1 + 2 * (j : Int))) rfl (by kernel_rfl) (by kernel_rfl) (by kernel_rfl) (fun _ _ _ h => h) (Or.inl ⟨by rfl, ?yh6⟩) (by assumption) ?rh6
      case yh6 => (intro wq hSw; (try simp only [zq1, zq2, zq3]); go_simp; try with_reducible rfl)
      case rh6 =>
      try simp only [Act.put, zq4, zq5, zq6, zq1, zq2, zq3]
      refine wpAnyH_take (i := 7) (v := .slice (some ⟨hg, ho, none⟩) 8 hc) rfl (by kernel_rfl) (by kernel_rfl) (by kernel_rfl) (fun _ _ _ h => h) (Or.inl ⟨by rfl, ?yh7⟩) (by assumption) ?rh7
      case yh7 => (intro wq hSw; (try simp only [zq1, zq2, zq3]); go_simp; try with_reducible rfl)
      case rh7 =>
      try simp only [Act.put, zq4, zq5, zq6, zq1, zq2, zq3]
      refine wpAnyH_take (i := 8) (v := .slice (some ⟨A, 0, none⟩) 32 64) rfl (by kernel_rfl) (by kernel_rfl) (by kernel_rfl) (fun _ _ _ h => h) (Or.inl ⟨by rfl, ?yh8⟩) (by assumption) ?rh8
      case yh8 => (intro wq hSw; (try simp only [zq1, zq2, zq3]); go_simp; try with_reducible rfl)
      case rh8 =>
      try simp only [Act.put, zq4, zq5, zq6, zq1, zq2, zq3]
      refine wpAnyH_ready (rs := [9]) (by kernel_rfl) (by simp) ?_
      refine AllReadyH.cons rfl (fun K hK => ?_) AllReadyH.nil
      go_simp
      
      refine hK.out _ _ ((((Turn.refl (fun _ => False) w7).drew.alloc _).cell (p := ⟨J, 0, none⟩) hJlth id).trans qh) (fun _ => ?_)
      clear hK K
      try simp only [Act.put, zq4, zq5, zq6, zq1, zq2, zq3]
      have tbh : Turn (fun _ => False) w7 (w7.alloc (.cells #[.slice (some ⟨hg, ho, none⟩) 8 hc, .slice (some ⟨A, 0, none⟩) 32 64] 29)).drew := ((Turn.refl (fun _ => False) w7).alloc _).drew
      have hnh := heap_alloc_new w7 (.cells #[.slice (some ⟨hg, ho, none⟩) 8 hc, .slice (some ⟨A, 0, none⟩) 32 64] 29)
      have g1h : (w7.alloc (.cells #[.slice (some ⟨hg, ho, none⟩) 8 hc, .slice (some ⟨A, 0, none⟩) 32 64] 29)).drew.cell? ⟨w7.heap.size, 0, none⟩ = some (.slice (some ⟨hg, ho, none⟩) 8 hc) := cell_of_row _ _ 0 _ 29 (0, 0) hnh
      have g2h : (w7.alloc (.cells #[.slice (some ⟨hg, ho, none⟩) 8 hc, .slice (some ⟨A, 0, none⟩) 32 64] 29)).drew.cell? ⟨w7.heap.size, 1, none⟩ = some (.slice (some ⟨A, 0, none⟩) 32 64) := cell_of_row _ _ 1 _ 29 (0, 0) hnh
      obtain ⟨wbh, hwbh⟩ : ∃ wb, (w7.alloc (.cells #[.slice (some ⟨hg, ho, none⟩) 8 hc, .slice (some ⟨A, 0, none⟩) 32 64] 29)).drew = wb := ⟨_, rfl⟩
      rw [hwbh] at tbh g1h g2h ⊢
      clear hwbh hnh
      refine wpAnyH_ready (rs := [10]) (by kernel_rfl) (by simp) ?_
      refine AllReadyH.cons rfl (fun K hK => ?_) AllReadyH.nil
      go_simp
      refine (concat_at wbh w7.heap.size 2 (by omega) hg ho hc A 0 64 (fourB m ++ fourB xa) ((pad64 xs).take 32) 8 32 rfl (by simp [HYL.out]) g1h g2h (fun i hi => (tbh.cell (p := ⟨hg, ho + i, none⟩) (World.block_lt_of_cell? w7 _ (HHdh.out i hi)) id).trans (HHdh.out i hi)) (half_cells_0 (rangeAt_turn HArh.out tbh id) HYL.out) (by omega) (by omega)).mono ?_
      rintro e wch ⟨vch, rfl, hrdh, hownh, tch⟩
      have tach := tbh.trans tch (fun _ _ => id)
      refine hK.out _ _ ((tach.cell (p := ⟨J, 0, none⟩) hJlth id).trans qh) (fun _ => ?_)
      clear hK K
      try simp only [Act.put, zq4, zq5, zq6, zq1, zq2, zq3]
      refine wpAnyH_ready (rs := [11]) (by kernel_rfl) (by simp) ?_
      refine AllReadyH.cons rfl (fun K hK => ?_) AllReadyH.nil
      go_simp
      refine (write_dh wch Fj D dj (1 + 2 * (j : Int)) vch (fourB m ++ fourB xa ++ ((pad64 xs).take 32)) (HDah.out.turn0 tach) HRMh.out.fits (.inl hrdh) (half_ok m xa _ (by intro y hy; exact HYB.out y (List.mem_of_mem_take hy)))).mono ?_
      rintro e wdh ⟨rfl, Fdh, hddh, hsdh⟩
      have hsth : Step w7 Fj wdh Fdh := (Step.of0 Fj tach).trans hsdh
      have HDDh := Lib.hid hddh
      clear hsdh hddh
      refine hK.out _ _ ((hsth.turn.cell (p := ⟨J, 0, none⟩) hJlth HNJh.out).trans qh) (fun _ => ?_)
      clear hK K
      try simp only [Act.put, zq4, zq5, zq6, zq1, zq2, zq3]
      obtain ⟨rrh, hrrh⟩ : ∃ rr, (dj.write (1 + 2 * (j : Int)) (fourB m ++ fourB xa ++ ((pad64 xs).take 32))).2 = rr := ⟨_, rfl⟩
      rw [hrrh]
      have HRRh := Lib.hid hrrh
      clear hrrh
      refine wpAnyH_take (i := 12) (v := .int .i64 rrh) rfl (by kernel_rfl) (by kernel_rfl) (by kernel_rfl) (fun _ _ _ h => h) (Or.inl ⟨by rfl, ?yh12⟩) (by assumption) ?rh12
      case yh12 => (intro wq hSw; (try simp only [zq1, zq2, zq3]); go_simp; try with_reducible rfl)
      case rh12 =>
      try simp only [Act.put, zq4, zq5, zq6, zq1, zq2, zq3]
      refine wpAnyH_done (by kernel_rfl) ?_ _
      change Exit.then _ _ _ _ wdh
      clear hHeld tch tach hrdh hownh tbh g1h g2h
      have hone1 : dj.one (.wr (1 + 2 * (j : Int)) (fourB m ++ fourB xa ++ (pad64 xs).take 32)) = dj.write (1 + 2 * (j : Int)) (fourB m ++ fourB xa ++ (pad64 xs).take 32) := rfl
      have HO1 := Lib.hid hone1
      clear hone1
      by_cases hr0 : rrh = 0
      · subst hr0
        obtain ⟨d1, hd1e⟩ : ∃ d1, (dj.write (1 + 2 * (j : Int)) (fourB m ++ fourB xa ++ (pad64 xs).take 32)).1 = d1 := ⟨_, rfl⟩
        rw [hd1e] at HDDh
        have hrun1 : DiskM.run ((noteA m 0 l).take (2 * j + 1)) d = (d1, 0) := by
          rw [DiskM.run_next HAX.out.1 HRUN.out, HO1.out, ← hd1e, ← HRRh.out]
        have hlen1 : d1.safe.length = dj.safe.length := by rw [← hd1e]; exact DiskM.one_len dj (.wr (1 + 2 * (j : Int)) (fourB m ++ fourB xa ++ (pad64 xs).take 32))
        have hroom1 : Room 49 d1 := by rw [← hd1e]; exact Room.one (n := 49) HRM.out (.wr (1 + 2 * (j : Int)) (fourB m ++ fourB xa ++ (pad64 xs).take 32))
        have HRUN1 := Lib.hid hrun1
        have HRMk := Lib.hid hroom1
        have HLEN1 := Lib.hid hlen1
        have HDak := HDDh
        have hJltk : J < wdh.heap.size := Nat.lt_of_lt_of_le hJlth hsth.turn.size
        have qk : wdh.drew.cell? ⟨J, 0, none⟩ = some (.pointer (some ⟨D, 0, none⟩)) := (hsth.turn.cell (p := ⟨J, 0, none⟩) hJlth HNJ.out).trans qh
        have HHdk := Lib.hid (fun i (hi : i < (fourB m ++ fourB xa).length) => (hsth.turn.cell (p := ⟨hg, ho + i, none⟩) hghl HNH.out).trans (HHdh.out i hi))
        have HArk := Lib.hid (rangeAt_turn HArh.out hsth.turn HNAh.out)
        have hNJk : ¬ Fdh J := hsth.out hJlth HNJ.out
        have HNJk := Lib.hid hNJk
        clear hd1e hrun1 hroom1 hlen1 hNJk qh
        go_wp2_with fail
        refine wp_region_held_drew (S := fun w' => w'.cell? ⟨J, 0, none⟩ = some (.pointer (some ⟨D, 0, none⟩))) (by kernel_rfl) qk (fun hHeld => ?_)
        refine wpAnyH_take (i := 0) (v := .pointer (some ⟨J, 0, none⟩)) rfl (by kernel_rfl) (by kernel_rfl) (by kernel_rfl) (fun _ _ _ h => h) (Or.inl ⟨by rfl, ?yk0⟩) (by assumption) ?rk0
        case yk0 => (intro wq hSw; (try simp only [zq1, zq2, zq3]); go_simp; try with_reducible rfl)
        case rk0 =>
        try simp only [Act.put, zq4, zq5, zq6, zq1, zq2, zq3]
        refine wpAnyH_take (i := 1) (v := .pointer (some ⟨J, 0, none⟩)) rfl (by kernel_rfl) (by kernel_rfl) (by kernel_rfl) (fun _ _ _ h => h) (Or.inl ⟨by rfl, ?yk1⟩) (by assumption) ?rk1
        case yk1 => (intro wq hSw; (try simp only [zq1, zq2, zq3]); go_simp; try with_reducible rfl)
        case rk1 =>
        try simp only [Act.put, zq4, zq5, zq6, zq1, zq2, zq3]
        refine wpAnyH_take (i := 2) (v := .pointer (some ⟨J, 0, none⟩)) rfl (by kernel_rfl) (by kernel_rfl) (by kernel_rfl) (fun _ _ _ h => h) (Or.inl ⟨by rfl, ?yk2⟩) (by assumption) ?rk2
        case yk2 => (intro wq hSw; (try simp only [zq1, zq2, zq3]); go_simp; try with_reducible rfl)
        case rk2 =>
        try simp only [Act.put, zq4, zq5, zq6, zq1, zq2, zq3]
        refine wpAnyH_take (i := 3) (v := .pointer (some ⟨D, 0, none⟩)) rfl (by kernel_rfl) (by kernel_rfl) (by kernel_rfl) (fun _ _ _ h => h) (Or.inl ⟨by rfl, ?yk3⟩) (by assumption) ?rk3
        case yk3 => (intro wq hSw; (have s0 := hSw); (try simp only [zq1, zq2, zq3]); go_simp; try with_reducible rfl)
        case rk3 =>
        try simp only [Act.put, zq4, zq5, zq6, zq1, zq2, zq3]
        refine wpAnyH_take (i := 4) (v := .int .i64 (j : Int)) rfl (by kernel_rfl) (by kernel_rfl) (by kernel_rfl) (fun _ _ _ h => h) (Or.inl ⟨by rfl, ?yk4⟩) (by assumption) ?rk4
        case yk4 => (intro wq hSw; (try simp only [zq1, zq2, zq3]); go_simp; try with_reducible rfl)
        case rk4 =>
        try simp only [Act.put, zq4, zq5, zq6, zq1, zq2, zq3]
        refine wpAnyH_take (i := 5) (v := .int .i64 (2 * (j : Int))) rfl (by kernel_rfl) (by kernel_rfl) (by kernel_rfl) (fun _ _ _ h => h) (Or.inl ⟨by rfl, ?yk5⟩) (by assumption) ?rk5
        case yk5 => (intro wq hSw; (try simp only [zq1, zq2, zq3]); go_simp; try with_reducible rfl)
        case rk5 =>
        try simp only [Act.put, zq4, zq5, zq6, zq1, zq2, zq3]
        refine wpAnyH_take (i := 6) (v := .int .i64 (2 + 2 * (j : Int))) rfl (by kernel_rfl) (by kernel_rfl) (by kernel_rfl) (fun _ _ _ h => h) (Or.inl ⟨by rfl, ?yk6⟩) (by assumption) ?rk6
        case yk6 => (intro wq hSw; (try simp only [zq1, zq2, zq3]); go_simp; try with_reducible rfl)
        case rk6 =>
        try simp only [Act.put, zq4, zq5, zq6, zq1, zq2, zq3]
        refine wpAnyH_take (i := 7) (v := .slice (some ⟨hg, ho, none⟩) 8 hc) rfl (by kernel_rfl) (by kernel_rfl) (by kernel_rfl) (fun _ _ _ h => h) (Or.inl ⟨by rfl, ?yk7⟩) (by assumption) ?rk7
        case yk7 => (intro wq hSw; (try simp only [zq1, zq2, zq3]); go_simp; try with_reducible rfl)
        case rk7 =>
        try simp only [Act.put, zq4, zq5, zq6, zq1, zq2, zq3]
        refine wpAnyH_take (i := 8) (v := .slice (some ⟨A, 32, none⟩) 32 32) rfl (by kernel_rfl) (by kernel_rfl) (by kernel_rfl) (fun _ _ _ h => h) (Or.inl ⟨by rfl, ?yk8⟩) (by assumption) ?rk8
        case yk8 => (intro wq hSw; (try simp only [zq1, zq2, zq3]); go_simp; try with_reducible rfl)
        case rk8 =>
        try simp only [Act.put, zq4, zq5, zq6, zq1, zq2, zq3]
        refine wpAnyH_ready (rs := [9]) (by kernel_rfl) (by simp) ?_
        refine AllReadyH.cons rfl (fun K hK => ?_) AllReadyH.nil
        go_simp
        
        refine hK.out _ _ ((((Turn.refl (fun _ => False) wdh).drew.alloc _).cell (p := ⟨J, 0, none⟩) hJltk id).trans qk) (fun _ => ?_)
        clear hK K
        try simp only [Act.put, zq4, zq5, zq6, zq1, zq2, zq3]
        have tbk : Turn (fun _ => False) wdh (wdh.alloc (.cells #[.slice (some ⟨hg, ho, none⟩) 8 hc, .slice (some ⟨A, 32, none⟩) 32 32] 29)).drew := ((Turn.refl (fun _ => False) wdh).alloc _).drew
        have hnk := heap_alloc_new wdh (.cells #[.slice (some ⟨hg, ho, none⟩) 8 hc, .slice (some ⟨A, 32, none⟩) 32 32] 29)
        have g1k : (wdh.alloc (.cells #[.slice (some ⟨hg, ho, none⟩) 8 hc, .slice (some ⟨A, 32, none⟩) 32 32] 29)).drew.cell? ⟨wdh.heap.size, 0, none⟩ = some (.slice (some ⟨hg, ho, none⟩) 8 hc) := cell_of_row _ _ 0 _ 29 (0, 0) hnk
        have g2k : (wdh.alloc (.cells #[.slice (some ⟨hg, ho, none⟩) 8 hc, .slice (some ⟨A, 32, none⟩) 32 32] 29)).drew.cell? ⟨wdh.heap.size, 1, none⟩ = some (.slice (some ⟨A, 32, none⟩) 32 32) := cell_of_row _ _ 1 _ 29 (0, 0) hnk
        obtain ⟨wbk, hwbk⟩ : ∃ wb, (wdh.alloc (.cells #[.slice (some ⟨hg, ho, none⟩) 8 hc, .slice (some ⟨A, 32, none⟩) 32 32] 29)).drew = wb := ⟨_, rfl⟩
        rw [hwbk] at tbk g1k g2k ⊢
        clear hwbk hnk
        refine wpAnyH_ready (rs := [10]) (by kernel_rfl) (by simp) ?_
        refine AllReadyH.cons rfl (fun K hK => ?_) AllReadyH.nil
        go_simp
        refine (concat_at wbk wdh.heap.size 2 (by omega) hg ho hc A 32 32 (fourB m ++ fourB xa) ((pad64 xs).drop 32) 8 32 rfl (by simp [HYL.out]) g1k g2k (fun i hi => (tbk.cell (p := ⟨hg, ho + i, none⟩) (World.block_lt_of_cell? wdh _ (HHdk.out i hi)) id).trans (HHdk.out i hi)) (half_cells_32 (rangeAt_turn HArk.out tbk id) HYL.out) (by omega) (by omega)).mono ?_
        rintro e wck ⟨vck, rfl, hrdk, hownk, tck⟩
        have tack := tbk.trans tck (fun _ _ => id)
        refine hK.out _ _ ((tack.cell (p := ⟨J, 0, none⟩) hJltk id).trans qk) (fun _ => ?_)
        clear hK K
        try simp only [Act.put, zq4, zq5, zq6, zq1, zq2, zq3]
        refine wpAnyH_ready (rs := [11]) (by kernel_rfl) (by simp) ?_
        refine AllReadyH.cons rfl (fun K hK => ?_) AllReadyH.nil
        go_simp
        refine (write_dh wck Fdh D d1 (2 + 2 * (j : Int)) vck (fourB m ++ fourB xa ++ ((pad64 xs).drop 32)) (HDak.out.turn0 tack) HRMk.out.fits (.inl hrdk) (half_ok m xa _ (by intro y hy; exact HYB.out y (List.mem_of_mem_drop hy)))).mono ?_
        rintro e wdk ⟨rfl, Fdk, hddk, hsdk⟩
        have hstk : Step wdh Fdh wdk Fdk := (Step.of0 Fdh tack).trans hsdk
        have HDDk := Lib.hid hddk
        clear hsdk hddk
        refine hK.out _ _ ((hstk.turn.cell (p := ⟨J, 0, none⟩) hJltk HNJk.out).trans qk) (fun _ => ?_)
        clear hK K
        try simp only [Act.put, zq4, zq5, zq6, zq1, zq2, zq3]
        obtain ⟨rrk, hrrk⟩ : ∃ rr, (d1.write (2 + 2 * (j : Int)) (fourB m ++ fourB xa ++ ((pad64 xs).drop 32))).2 = rr := ⟨_, rfl⟩
        rw [hrrk]
        have HRRk := Lib.hid hrrk
        clear hrrk
        refine wpAnyH_take (i := 12) (v := .int .i64 rrk) rfl (by kernel_rfl) (by kernel_rfl) (by kernel_rfl) (fun _ _ _ h => h) (Or.inl ⟨by rfl, ?yk12⟩) (by assumption) ?rk12
        case yk12 => (intro wq hSw; (try simp only [zq1, zq2, zq3]); go_simp; try with_reducible rfl)
        case rk12 =>
        try simp only [Act.put, zq4, zq5, zq6, zq1, zq2, zq3]
        refine wpAnyH_done (by kernel_rfl) ?_ _
        change Exit.then _ _ _ _ wdk
        clear hHeld tck tack hrdk hownk tbk g1k g2k
        have hone2 : d1.one (.wr (2 + 2 * (j : Int)) (fourB m ++ fourB xa ++ (pad64 xs).drop 32)) = d1.write (2 + 2 * (j : Int)) (fourB m ++ fourB xa ++ (pad64 xs).drop 32) := rfl
        have HO2 := Lib.hid hone2
        clear hone2 qk
        have hstall := (hst.trans hst7).trans (hsth.trans hstk)
        by_cases hr1 : rrk = 0
        · subst hr1
          go_wp2_with fail
          go_roundw
          case rel =>
            refine ⟨j + 1, by omega, by go_num, Fdk, _, ?_, HDDk.out, hstall⟩
            rw [show 2 * (j + 1) = 2 * j + 1 + 1 by omega, DiskM.run_next HAX.out.2 HRUN1.out, HO2.out, ← HRRk.out]
          case measure => simp [intOf]; omega
        · have hr2 : (rrk == 0) = false := by rw [beq_eq_false_iff_ne]; exact hr1
          have hfin : DiskM.run (noteAll m l) d = d1.write (2 + 2 * (j : Int)) (fourB m ++ fourB xa ++ (pad64 xs).drop 32) := by
            have h1 := DiskM.run_stop HAX.out.2 HRUN1.out (by rw [HO2.out, HRRk.out]; exact hr1)
            unfold noteAll
            rw [DiskM.run_bad _ (by rw [h1, HO2.out, HRRk.out]; exact hr1), h1, HO2.out]
          have HFN := Lib.hid hfin
          clear hfin
          go_wp2_with fail
          go_ret
          rw [HFN.out]
          refine ⟨by rw [HRRk.out]; rfl, Fdk, ?_, hstall⟩
          refine (HJH.out.step HDDk.out (hst7.trans (hsth.trans hstk)) ?_)
          exact (DiskM.one_len d1 (.wr (2 + 2 * (j : Int)) (fourB m ++ fourB xa ++ (pad64 xs).drop 32))).trans HLEN1.out
      · have hr1 : (rrh == 0) = false := by rw [beq_eq_false_iff_ne]; exact hr0
        have hfin : DiskM.run (noteAll m l) d = dj.write (1 + 2 * (j : Int)) (fourB m ++ fourB xa ++ (pad64 xs).take 32) := by
          have h1 := DiskM.run_stop HAX.out.1 HRUN.out (by rw [HO1.out, HRRh.out]; exact hr0)
          unfold noteAll
          rw [DiskM.run_bad _ (by rw [h1, HO1.out, HRRh.out]; exact hr0), h1, HO1.out]
        have HFN := Lib.hid hfin
        clear hfin
        go_wp2_with fail
        go_ret
        rw [HFN.out]
        refine ⟨by rw [HRRh.out]; rfl, Fdh, ?_, (hst.trans hst7).trans hsth⟩
        exact HJH.out.step HDDh.out (hst7.trans hsth) (DiskM.one_len dj (.wr (1 + 2 * (j : Int)) (fourB m ++ fourB xa ++ (pad64 xs).take 32)))
    · obtain rfl : j = n := by omega
      have hall : DiskM.run (noteA m 0 l) d = (dj, 0) := by
        have := HRUN.out
        rw [List.take_of_length_le (by rw [noteA_len]; have := HN.out; omega)] at this; exact this
      have HALL := Lib.hid hall
      have qz : wr.drew.cell? ⟨J, 0, none⟩ = some (.pointer (some ⟨D, 0, none⟩)) := c0
      clear hall
      go_wp2_with fail
      refine wp_region_held_drew (S := fun w' => w'.cell? ⟨J, 0, none⟩ = some (.pointer (some ⟨D, 0, none⟩))) (by kernel_rfl) qz (fun hHeld => ?_)
      refine wpAnyH_take (i := 0) (v := .pointer (some ⟨J, 0, none⟩)) rfl (by kernel_rfl) (by kernel_rfl) (by kernel_rfl) (fun _ _ _ h => h) (Or.inl ⟨by rfl, ?yz0⟩) (by assumption) ?rz0
      case yz0 => (intro wq hSw; (try simp only [zq1, zq2, zq3]); go_simp; try with_reducible rfl)
      case rz0 =>
      try simp only [Act.put, zq4, zq5, zq6, zq1, zq2, zq3]
      refine wpAnyH_take (i := 1) (v := .pointer (some ⟨J, 0, none⟩)) rfl (by kernel_rfl) (by kernel_rfl) (by kernel_rfl) (fun _ _ _ h => h) (Or.inl ⟨by rfl, ?yz1⟩) (by assumption) ?rz1
      case yz1 => (intro wq hSw; (try simp only [zq1, zq2, zq3]); go_simp; try with_reducible rfl)
      case rz1 =>
      try simp only [Act.put, zq4, zq5, zq6, zq1, zq2, zq3]
      refine wpAnyH_take (i := 2) (v := .pointer (some ⟨J, 0, none⟩)) rfl (by kernel_rfl) (by kernel_rfl) (by kernel_rfl) (fun _ _ _ h => h) (Or.inl ⟨by rfl, ?yz2⟩) (by assumption) ?rz2
      case yz2 => (intro wq hSw; (try simp only [zq1, zq2, zq3]); go_simp; try with_reducible rfl)
      case rz2 =>
      try simp only [Act.put, zq4, zq5, zq6, zq1, zq2, zq3]
      refine wpAnyH_take (i := 3) (v := .pointer (some ⟨D, 0, none⟩)) rfl (by kernel_rfl) (by kernel_rfl) (by kernel_rfl) (fun _ _ _ h => h) (Or.inl ⟨by rfl, ?yz3⟩) (by assumption) ?rz3
      case yz3 => (intro wq hSw; (have s0 := hSw); (try simp only [zq1, zq2, zq3]); go_simp; try with_reducible rfl)
      case rz3 =>
      try simp only [Act.put, zq4, zq5, zq6, zq1, zq2, zq3]
      refine wpAnyH_take (i := 4) (v := .int .i64 m) rfl (by kernel_rfl) (by kernel_rfl) (by kernel_rfl) (fun _ _ _ h => h) (Or.inl ⟨by rfl, ?yz4⟩) (by assumption) ?rz4
      case yz4 => (intro wq hSw; (try simp only [zq1, zq2, zq3]); go_simp; try with_reducible rfl)
      case rz4 =>
      try simp only [Act.put, zq4, zq5, zq6, zq1, zq2, zq3]
      refine wpAnyH_take (i := 6) (v := .slice a j c) rfl (by kernel_rfl) (by kernel_rfl) (by kernel_rfl) (fun _ _ _ h => h) (Or.inl ⟨by rfl, ?yz6⟩) (by assumption) ?rz6
      case yz6 => (intro wq hSw; (try simp only [zq1, zq2, zq3]); go_simp; try with_reducible rfl)
      case rz6 =>
      try simp only [Act.put, zq4, zq5, zq6, zq1, zq2, zq3]
      refine wpAnyH_take (i := 7) (v := .int .i64 (j : Int)) rfl (by kernel_rfl) (by kernel_rfl) (by kernel_rfl) (fun _ _ _ h => h) (Or.inl ⟨by rfl, ?yz7⟩) (by assumption) ?rz7
      case yz7 => (intro wq hSw; (try simp only [zq1, zq2, zq3]); go_simp; try with_reducible rfl)
      case rz7 =>
      try simp only [Act.put, zq4, zq5, zq6, zq1, zq2, zq3]
      refine wpAnyH_ready (rs := [5]) (by kernel_rfl) (by simp) ?_
      refine AllReadyH.cons rfl (fun K hK => ?_) AllReadyH.nil
      go_simp
      refine (four_any m wr.drew).mono ?_
      rintro e w4 ⟨v4, rfl, hrd4, hown4, t4'⟩
      have t4 : Turn (fun _ => False) wr w4 := t4'.of_drew
      obtain ⟨g4, o4, c4, rfl, hc4⟩ := reads_pos hrd4 (by show (0:Nat) < 4; omega)
      refine hK.out _ _ ((t4.cell (p := ⟨J, 0, none⟩) hJlt id).trans qz) (fun _ => ?_)
      clear hK K
      try simp only [Act.put, zq4, zq5, zq6, zq1, zq2, zq3]
      refine wpAnyH_ready (rs := [8]) (by kernel_rfl) (by simp) ?_
      refine AllReadyH.cons rfl (fun K hK => ?_) AllReadyH.nil
      go_simp
      refine (four_any (j : Int) w4).mono ?_
      rintro e w5 ⟨v5, rfl, hrd5, hown5, t5⟩
      obtain ⟨g5, o5, c5, rfl, hc5⟩ := reads_pos hrd5 (by show (0:Nat) < 4; omega)
      have t35 := t4.trans t5 (fun _ _ => id)
      refine hK.out _ _ ((t35.cell (p := ⟨J, 0, none⟩) hJlt id).trans qz) (fun _ => ?_)
      clear hK K
      try simp only [Act.put, zq4, zq5, zq6, zq1, zq2, zq3]
      refine wpAnyH_ready (rs := [9]) (by kernel_rfl) (by simp) ?_
      refine AllReadyH.cons rfl (fun K hK => ?_) AllReadyH.nil
      go_simp
      
      refine hK.out _ _ (((t35.alloc _).cell (p := ⟨J, 0, none⟩) hJlt id).trans qz) (fun _ => ?_)
      clear hK K
      try simp only [Act.put, zq4, zq5, zq6, zq1, zq2, zq3]
      have t6 : Turn (fun _ => False) w5 (w5.alloc (.cells #[.slice (some ⟨g4, o4, none⟩) (fourB m).length c4, .slice (some ⟨g5, o5, none⟩) (fourB (j : Int)).length c5] 29)) := (Turn.refl _ w5).alloc _
      have hn6 := heap_alloc_new w5 (.cells #[.slice (some ⟨g4, o4, none⟩) (fourB m).length c4, .slice (some ⟨g5, o5, none⟩) (fourB (j : Int)).length c5] 29)
      have k1 : (w5.alloc (.cells #[.slice (some ⟨g4, o4, none⟩) (fourB m).length c4, .slice (some ⟨g5, o5, none⟩) (fourB (j : Int)).length c5] 29)).cell? ⟨w5.heap.size, 0, none⟩ = some (.slice (some ⟨g4, o4, none⟩) (fourB m).length c4) := cell_of_row _ _ 0 _ 29 (0, 0) hn6
      have k2 : (w5.alloc (.cells #[.slice (some ⟨g4, o4, none⟩) (fourB m).length c4, .slice (some ⟨g5, o5, none⟩) (fourB (j : Int)).length c5] 29)).cell? ⟨w5.heap.size, 1, none⟩ = some (.slice (some ⟨g5, o5, none⟩) (fourB (j : Int)).length c5) := cell_of_row _ _ 1 _ 29 (0, 0) hn6
      obtain ⟨w6, hw6⟩ : ∃ w6, w5.alloc (.cells #[.slice (some ⟨g4, o4, none⟩) (fourB m).length c4, .slice (some ⟨g5, o5, none⟩) (fourB (j : Int)).length c5] 29) = w6 := ⟨_, rfl⟩
      rw [hw6] at t6 k1 k2 ⊢
      clear hw6 hn6
      have t46 := t5.trans t6 (fun _ _ => id)
      refine wpAnyH_ready (rs := [10]) (by kernel_rfl) (by simp) ?_
      refine AllReadyH.cons rfl (fun K hK => ?_) AllReadyH.nil
      go_simp
      refine (concat_any w6 w5.heap.size 2 (by omega) g4 o4 c4 g5 o5 c5 (fourB m) (fourB (j : Int)) k1 k2 (fun i hi => (t46.cell (p := ⟨g4, o4 + i, none⟩) (World.block_lt_of_cell? w4 _ (hc4 i hi)) id).trans (hc4 i hi)) (fun i hi => (t6.cell (p := ⟨g5, o5 + i, none⟩) (World.block_lt_of_cell? w5 _ (hc5 i hi)) id).trans (hc5 i hi)) (by show (0:Nat) < 4 + 4; omega) (by show (4:Nat) + 4 ≤ 1000; omega)).mono ?_
      rintro e w7 ⟨v7, rfl, hrd7, hown7, t7⟩
      have t37 := ((t35.trans t6 (fun _ _ => id)).trans t7 (fun _ _ => id))
      refine hK.out _ _ ((t37.cell (p := ⟨J, 0, none⟩) hJlt id).trans qz) (fun _ => ?_)
      clear hK K
      try simp only [Act.put, zq4, zq5, zq6, zq1, zq2, zq3]
      refine wpAnyH_ready (rs := [11]) (by kernel_rfl) (by simp) ?_
      refine AllReadyH.cons rfl (fun K hK => ?_) AllReadyH.nil
      go_simp
      refine (write_dh w7 Fj D dj 0 v7 (fourB m ++ fourB (j : Int)) (HDJ.out.turn0 t37) HRM.out.fits (.inl hrd7) (head_ok m (j : Int))).mono ?_
      rintro e wd ⟨rfl, Fd, hdd, hsd⟩
      have hstd : Step wr Fj wd Fd := (Step.of0 Fj t37).trans hsd
      have HDD := Lib.hid hdd
      clear hsd hdd
      refine hK.out _ _ ((hstd.turn.cell (p := ⟨J, 0, none⟩) hJlt HNJ.out).trans qz) (fun _ => ?_)
      clear hK K
      try simp only [Act.put, zq4, zq5, zq6, zq1, zq2, zq3]
      obtain ⟨rr, hrr⟩ : ∃ rr, (dj.write 0 (fourB m ++ fourB (j : Int))).2 = rr := ⟨_, rfl⟩
      rw [hrr]
      have HRR := Lib.hid hrr
      clear hrr
      refine wpAnyH_take (i := 12) (v := .int .i64 rr) rfl (by kernel_rfl) (by kernel_rfl) (by kernel_rfl) (fun _ _ _ h => h) (Or.inl ⟨by rfl, ?yz12⟩) (by assumption) ?rz12
      case yz12 => (intro wq hSw; (try simp only [zq1, zq2, zq3]); go_simp; try with_reducible rfl)
      case rz12 =>
      try simp only [Act.put, zq4, zq5, zq6, zq1, zq2, zq3]
      refine wpAnyH_done (by kernel_rfl) ?_ _
      change Exit.then _ _ _ _ wd
      clear hHeld
      have hone1 : dj.one (.wr 0 (fourB m ++ fourB (j : Int))) = dj.write 0 (fourB m ++ fourB (j : Int)) := rfl
      have HO1 := Lib.hid hone1
      have hna : noteAll m l = noteA m 0 l ++ ([.wr 0 (fourB m ++ fourB (j : Int))] ++ [.fl]) := by unfold noteAll; rw [HN.out]; rfl
      have HNA := Lib.hid hna
      clear hone1 hna
      by_cases hr0 : rr = 0
      · subst hr0
        obtain ⟨d1, hd1e⟩ : ∃ d1, (dj.write 0 (fourB m ++ fourB (j : Int))).1 = d1 := ⟨_, rfl⟩
        rw [hd1e] at HDD
        have hrun1 : DiskM.run (noteAll m l) d = d1.flush := by
          rw [HNA.out, DiskM.run_ok _ (by rw [HALL.out]), HALL.out, DiskM.run_ok _ (by rw [DiskM.run_one, HO1.out, HRR.out]), DiskM.run_one, DiskM.run_one, HO1.out, hd1e]; rfl
        have hlen1 : d1.safe.length = dj.safe.length := by rw [← hd1e]; exact DiskM.one_len dj (.wr 0 (fourB m ++ fourB (j : Int)))
        have hroom1 : Room 49 d1 := by rw [← hd1e]; exact Room.one (n := 49) HRM.out (.wr 0 (fourB m ++ fourB (j : Int)))
        have HRUN1 := Lib.hid hrun1
        have HRM1 := Lib.hid hroom1
        have HLEN1 := Lib.hid hlen1
        have c0d := (hstd.turn.cell (p := ⟨J, 0, none⟩) hJlt HNJ.out).trans c0
        clear hd1e hrun1 hroom1 hlen1
        go_wp2_with fail
        refine (flush_dh wd Fd D d1 HDD.out HRM1.out.fits).mono ?_
        rintro e we ⟨rfl, Fe, hde, hse⟩
        go_wp2_with fail
        go_ret
        rw [HRUN1.out]
        exact ⟨rfl, Fe, HJH.out.step hde (hstd.trans hse) ((DiskM.one_len d1 .fl).trans HLEN1.out), hst.trans (hstd.trans hse)⟩
      · have hr1 : (rr == 0) = false := by rw [beq_eq_false_iff_ne]; exact hr0
        have hfin : DiskM.run (noteAll m l) d = dj.write 0 (fourB m ++ fourB (j : Int)) := by
          rw [HNA.out, DiskM.run_ok _ (by rw [HALL.out]), HALL.out, DiskM.run_bad _ (by rw [DiskM.run_one, HO1.out, HRR.out]; exact hr0), DiskM.run_one, HO1.out]
        have HFN := Lib.hid hfin
        clear hfin
        go_wp2_with fail
        go_ret
        rw [HFN.out]
        refine ⟨by rw [HRR.out]; rfl, Fd, ?_, hst.trans hstd⟩
        exact HJH.out.step HDD.out hstd (DiskM.one_len dj (.wr 0 (fourB m ++ fourB (j : Int))))
end Go.Proofs.YtboofamenpcnhaaGreatDoor
