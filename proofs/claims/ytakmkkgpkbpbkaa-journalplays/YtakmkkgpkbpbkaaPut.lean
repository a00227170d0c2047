/- Own contract: pages are put into sectors. No statement is proved here. -/
import Derived.Test.YtakmkkgpkbpbkaaSame
import Derived.Test.YtakmkkgpkbpbkaaSec
namespace Go.Proofs.Ytakmkkgpkbpbkaa
open Go.RowKit
set_option linter.unusedVariables false
set_option linter.unusedSimpArgs false

theorem exec_append2 {P : Program} (ev : Operand → Value) (op : Oper) (s x : Operand) (t tn : TypeId) (ho : op.op = .call { callee := .builtin .append, args := #[s, x], argTypes := #[t, tn] }) (v v2 v' : Value) (w w' : World) (hs : ev s = v) (hx : ev x = v2)
    (hrun : (Builtin.append_ #[t, tn] op.type #[v, v2]).run P w = .ok v' w') : (execOp ev op).run P w = .ok (.value v') w' := by
  unfold execOp
  simp only [ho, resolve, invoke, builtin, Sem.run_bind, Sem.run_pure, Result.andThen_ok, List.map_toArray, List.map_cons, List.map_nil, hs, hx, hrun]
def ValsIn (w : World) (B : Nat) (vs : List Value) : Prop := w.heap[B]? = some (.cells vs.toArray 31 (0, 0))
theorem ValsIn.cell {w : World} {B : Nat} {vs : List Value} (h : ValsIn w B vs) (i : Nat) (hi : i < vs.length) : w.cell? ⟨B, i, none⟩ = some (vs.getD i undef) := by
  rw [cell_of_row w B i _ 31 (0, 0) h]
  simp [List.getD, hi]
theorem ValsIn.free {w : World} {B : Nat} {vs : List Value} (h : ValsIn w B vs) (i : Nat) : w.frozen? ⟨B, i, none⟩ = false := frozen_of_row w B i _ 31 h
theorem ValsIn.lt {w : World} {B : Nat} {vs : List Value} (h : ValsIn w B vs) : B < w.heap.size := (Array.getElem?_eq_some_iff.1 h).1
theorem ValsIn.set {w : World} {B : Nat} {vs : List Value} (h : ValsIn w B vs) (i : Nat) (v : Value) : ValsIn (w.setCell ⟨B, i, none⟩ v) B (vs.set i v) := by
  unfold ValsIn
  rw [heap_setCell_same w B i _ 31 _ h]
  simp
theorem ValsIn.turn {w w' : World} {B : Nat} {vs : List Value} {S : Nat → Prop} (h : ValsIn w B vs) (ht : Turn S w w') (hB : ¬ S B) : ValsIn w' B vs := (ht.block B h.lt hB).trans h
def putR (ms : List (List Int)) (l : List (Int × List Int)) : Nat → List (List Int)
  | 0 => ms
  | j + 1 => (putR ms l j).set (l.getD j (0, [])).1.toNat (pad64 (l.getD j (0, [])).2)
theorem putR_len (ms : List (List Int)) (l : List (Int × List Int)) (j : Nat) : (putR ms l j).length = ms.length := by
  induction j with
  | zero => rfl
  | succ j ih => simp [putR, ih]
theorem info31a : ∃ i, Try.prog.info? 31 = some i ∧ i.size = 1 ∧ i.bytes = 24 ∧ i.zero = some (.slice none 0 0) := ⟨_, rfl, rfl, rfl, rfl⟩

set_option maxHeartbeats 1600000 in
set_option maxRecDepth 100000 in
theorem put_any (w : World) (R Rp : Nat → Prop) (g m c n cl gl : Nat) (us : List Value) (ms : List (List Int)) (l : List (Int × List Int)) (hm : MAt w R g us ms) (hml : ms.length = m) (hm0 : 0 < m ∧ m ≤ 5000) (hRl : ∀ q, R q → q < w.heap.size)
    (hl : ∀ i, i < n → PageAt w Rp gl i (l.getD i (0, []))) (hn : l.length = n) (hn24 : n ≤ 24) (hat : ∀ i, i < n → 0 ≤ (l.getD i (0, [])).1 ∧ (l.getD i (0, [])).1 < (m : Int) ∧ (l.getD i (0, [])).2.length ≤ 64) (hgl : gl < w.heap.size) :
    Calls Try.prog 14 #[.slice (some ⟨g, 0, none⟩) m c, .slice (some ⟨gl, 0, none⟩) n cl] w (fun e w' => ∃ go co us', e = .returned (.slice (some ⟨go, 0, none⟩) m co) ∧ w.heap.size ≤ go ∧ MAt w' (fun q => R q ∨ (w.heap.size ≤ q ∧ q ≠ go)) go us' (putR ms l n) ∧ Turn (fun _ => False) w w') := by
  obtain ⟨i0, hi0, h2, h3, hz⟩ := info31a
  have hmu := hm.1
  rw [hml] at hmu
  have htl : (us.take m).length = m := by rw [List.length_take]; omega
  have hone : ∀ u ∈ us.take m, u.oneCell' = true := fun u hu => by
    obtain ⟨j, hj, rfl⟩ := List.getElem_of_mem hu
    have hjm : j < m := by omega
    obtain ⟨g9, c9, e9, _⟩ := hm.2.2 j (by omega)
    rw [List.getElem_take]
    have : us.getD j undef = us[j] := by simp [List.getD, show j < us.length by omega]
    rw [← this, e9]; rfl
  have hnews : ∀ j u, (us.take m)[j]? = some u → w.cell? ((⟨g, 0, none⟩ : Addr).add j) = some u := fun j u hj => by
    have hjm : j < m := by have := (List.getElem?_eq_some_iff.1 hj).1; omega
    rw [Addr.add_lit, Nat.zero_add, hm.2.1 j (by omega)]
    rw [List.getElem?_take, if_pos hjm] at hj
    simp [List.getD, hj]
  obtain ⟨v', W, hr, q1, q2, q3⟩ := run_append_own (P := Try.prog) w 0 30 30 31 i0 _ 1 24 Try.underlying30 hi0 hz h2 h3 rfl (by decide) (.slice none 0 0) 0 [] (World.ownsRow_nil _ _ _ _) ⟨g, 0, none⟩ m c (us.take m) (by rw [htl]; omega) hnews hone (by simp only [maxLen]; omega) (by omega) (Nat.zero_le _)
  have q4 := run_append_where (P := Try.prog) w 30 30 31 i0 _ 1 24 Try.underlying30 hi0 hz h2 h3 rfl (by decide) 0 (.slice none 0 0) 0 [] (World.ownsRow_nil _ _ _ _) ⟨g, 0, none⟩ m c (us.take m) (by rw [htl]; omega) hnews hone (by simp only [maxLen]; omega) (by omega) v' W hr
  have TW : Turn (fun _ => False) w W := (Turn.refl _ w).grown q2 (fun k hk _ => by cases hk)
  rw [Nat.zero_add, List.nil_append] at q1
  rcases q1.2 with ⟨h9, h0⟩ | ⟨go, co, cur, rfl, _, hgo, hnc, hcm, hcs, htk⟩
  · omega
  have hgn : w.heap.size ≤ go := by
    rcases q4 with f | ⟨g9, f, hg9⟩
    · cases f
    · cases f; exact hg9
  have hVW : ValsIn W go cur.toList := by unfold ValsIn; simpa using hgo
  have hcl : cur.toList.length = co := by simpa using hcs
  have hco : co ≤ 9223372036854775807 := by simp only [maxLen] at hcm; omega
  have htk' : cur.toList.take m = us.take m := by simpa using htk
  have hget : ∀ j, j < m → cur.toList.getD j undef = us.getD j undef := fun j hj => by
    have := congrArg (fun x => x[j]?) htk'
    simp only [List.getElem?_take, if_pos hj] at this
    simp [List.getD, this]
  have HI := Lib.hid (show ∃ vs : List Value, vs.length = co ∧ ValsIn W go vs ∧ ∀ j, j < m → Told W (fun q => R q ∨ (w.heap.size ≤ q ∧ q ≠ go)) (vs.getD j undef) ((putR ms l 0).getD j []) from ⟨cur.toList, hcl, hVW, fun j hj => by
    rw [hget j hj]
    obtain ⟨g9, c9, e1, e2, e3, e4, e5⟩ := (hm.2.2 j (by omega)).turn TW (fun _ _ _ => id)
    exact ⟨g9, c9, e1, e2, .inl e3, e4, e5⟩⟩)
  have HPL := Lib.hid hl
  have HAT := Lib.hid hat
  have HRL := Lib.hid hRl
  have HML := Lib.hid hml
  have HTW := Lib.hid TW
  clear hm hl hat hRl hml hnews hone q1 q2 q3 q4 hgo hcs htk htk' hget hVW hcl htl TW
  go_enter Try.func14, Try.ntmps14
  go_wp2_with (at_builtin; refine Lib.wpList_append_run _ rfl _ _ _ _ rfl _ _ rfl rfl _ _ hr ?_)
  go_loopw [6] (fun iv wr => ∃ (i : Nat) (vs : List Value), i ≤ n ∧ iv = .int .i64 (i : Int) ∧ vs.length = co ∧ ValsIn wr go vs ∧ (∀ j, j < m → Told wr (fun q => R q ∨ (w.heap.size ≤ q ∧ q ≠ go)) (vs.getD j undef) ((putR ms l i).getD j [])) ∧ (∀ q, R q → q ≠ go) ∧ Turn (fun _ => False) w wr) (fun iv _ => (n - intOf iv).toNat)
  case atStart =>
    obtain ⟨vs, v1, v2, v3⟩ := HI.out
    exact ⟨0, vs, Nat.zero_le _, rfl, v1, v2, v3, fun q hq => by have := HRL.out q hq; omega, HTW.out⟩
  case round =>
    obtain ⟨i, vs, hi, rfl, hvl, hV, hto, hRg, hT⟩ := hrel
    by_cases hlt : i < n
    · obtain ⟨a1, a2, a3⟩ := HAT.out i hlt
      have hpg := HPL.out i hlt
      have HPR := Lib.hid (show putR ms l (i + 1) = (putR ms l i).set (l.getD i (0, [])).1.toNat (pad64 (l.getD i (0, [])).2) from rfl)
      generalize l.getD i (0, []) = x at a1 a2 a3 hpg HPR
      obtain ⟨xa, ps⟩ := x
      dsimp only at a1 a2 a3 HPR
      obtain ⟨at', rfl⟩ := Int.eq_ofNat_of_zero_le a1
      rw [Int.toNat_natCast] at HPR
      obtain ⟨p1, pv, p2, p3, p4⟩ := hpg
      dsimp only at p1 p3 p4
      have s3 : Src wr.drew pv ps := src_turn_pos p3 hT.drew (fun _ _ _ => id)
      obtain ⟨pa, pc, hpv, -⟩ := src_any s3
      obtain ⟨Lp, hLp⟩ : ∃ Lp, ps.length = Lp := ⟨_, rfl⟩
      rw [hLp] at hpv
      subst hpv
      obtain ⟨v1, w2, e2, o2, n2, t2⟩ := app_first wr.drew _ ps s3 a3
      obtain ⟨gs, cg, w3, e3, hc64, hgs, hgs2, hrg, t3⟩ := app_zeros wr.drew w2 v1 ps a3 o2 n2 t2
      rw [hLp] at e3 a3
      have hgle : gl < wr.heap.size := Nat.lt_of_lt_of_le hgl hT.size
      have p1r : wr.drew.cell? ⟨gl, i * 2, none⟩ = some (.int .i64 (at' : Int)) := (hT.cell (p := ⟨gl, i * 2, none⟩) hgl id).trans p1
      have p2r : wr.drew.cell? ⟨gl, i * 2 + 1, none⟩ = some (.slice pa Lp pc) := (hT.cell (p := ⟨gl, i * 2 + 1, none⟩) hgl id).trans p2
      have K2 := Lib.hid (show w2.cell? ⟨gl, i * 2, none⟩ = some (.int .i64 (at' : Int)) ∧ w2.cell? ⟨gl, i * 2 + 1, none⟩ = some (.slice pa Lp pc) from ⟨(t2.cell (p := ⟨gl, _, none⟩) hgle id).trans p1r, (t2.cell (p := ⟨gl, _, none⟩) hgle id).trans p2r⟩)
      have K3 := Lib.hid (show w3.cell? ⟨gl, i * 2, none⟩ = some (.int .i64 (at' : Int)) ∧ w3.cell? ⟨gl, i * 2 + 1, none⟩ = some (.slice pa Lp pc) from ⟨(t3.cell (p := ⟨gl, _, none⟩) hgle id).trans p1r, (t3.cell (p := ⟨gl, _, none⟩) hgle id).trans p2r⟩)
      have hglgo : gl ≠ go := by omega
      have K4 := Lib.hid (show (w3.setCell ⟨go, at', none⟩ (.slice (some ⟨gs, 0, none⟩) 64 cg)).cell? ⟨gl, i * 2, none⟩ = some (.int .i64 (at' : Int)) ∧ (w3.setCell ⟨go, at', none⟩ (.slice (some ⟨gs, 0, none⟩) 64 cg)).cell? ⟨gl, i * 2 + 1, none⟩ = some (.slice pa Lp pc) from by
        rw [World.cell?_setCell_far _ _ _ _ (fun e => hglgo e.symm), World.cell?_setCell_far _ _ _ _ (fun e => hglgo e.symm)]; exact K3.out)
      have T3 : Turn (fun _ => False) w w3 := (hT.drew).trans t3 (fun _ _ => id)
      have hV3 : ValsIn w3 go vs := (hV.turn ((Turn.refl (fun _ => False) wr).drew) id).turn t3 id
      have hatm : at' < m := by omega
      have c3 := hV3.cell at' (by omega)
      have f3 := hV3.free at'
      have hgso : gs ≠ go := by have := hV.lt; have hs9 : wr.drew.heap.size = wr.heap.size := rfl; omega
      have tS : Turn (fun q => q = go) w3 (w3.setCell ⟨go, at', none⟩ (.slice (some ⟨gs, 0, none⟩) 64 cg)) := Turn.setCell (S := fun q => q = go) (Turn.refl _ w3) (p := ⟨go, at', none⟩) (fun _ => rfl) _
      have hV4 := hV3.set at' (.slice (some ⟨gs, 0, none⟩) 64 cg)
      have hto4 : ∀ j, j < m → Told (w3.setCell ⟨go, at', none⟩ (.slice (some ⟨gs, 0, none⟩) 64 cg)) (fun q => R q ∨ (w.heap.size ≤ q ∧ q ≠ go)) ((vs.set at' (.slice (some ⟨gs, 0, none⟩) 64 cg)).getD j undef) ((putR ms l (i + 1)).getD j []) := fun j hj => by
        rw [HPR.out]
        by_cases e : at' = j
        · subst e
          have b1 : (vs.set at' (.slice (some ⟨gs, 0, none⟩) 64 cg)).getD at' undef = .slice (some ⟨gs, 0, none⟩) 64 cg := by simp [List.getD, show at' < vs.length by omega]
          have b2 : ((putR ms l i).set at' (pad64 ps)).getD at' [] = pad64 ps := by simp [List.getD, show at' < (putR ms l i).length by rw [putR_len, HML.out]; exact hatm]
          rw [b1, b2]
          exact ⟨gs, cg, rfl, hc64, .inr ⟨by have := hT.size; have hs9 : wr.drew.heap.size = wr.heap.size := rfl; omega, hgso⟩, Nat.lt_of_lt_of_le hgs2 tS.size, rangeAt_turn hrg tS hgso⟩
        · have b1 : (vs.set at' (.slice (some ⟨gs, 0, none⟩) 64 cg)).getD j undef = vs.getD j undef := by simp [List.getD, List.getElem?_set_ne e]
          have b2 : ((putR ms l i).set at' (pad64 ps)).getD j [] = (putR ms l i).getD j [] := by simp [List.getD, List.getElem?_set_ne e]
          rw [b1, b2]
          exact (((hto j hj).turn ((Turn.refl (fun _ => False) wr).drew) (fun _ _ _ => id)).turn t3 (fun _ _ _ => id)).turn tS (fun q hq _ e9 => by
            rcases hq with hq | hq
            · exact hRg q hq e9
            · exact hq.2 e9)
      have HN := Lib.hid (And.intro hV4 (And.intro hto4 (And.intro (T3.trans tS (fun q hq e9 => by omega)) hRg)))
      have HVL := Lib.hid hvl
      have E2 := Lib.hid e2
      have E3 := Lib.hid e3
      generalize vs.getD at' undef = old at c3
      have hiI : (i : Int) < (n : Int) := by omega
      have hw64 : IntKind.i64.wrap (64 - (Lp : Int)) = 64 - (Lp : Int) := by rw [IntKind.wrap_i64]; omega
      have gb : (0 : Int) ≤ (at' : Int) ∧ (at' : Int) < (m : Int) := by omega
      have gi : (0 : Int) ≤ (i : Int) ∧ (i : Int) < (n : Int) := by omega
      clear hV4 hto4 T3 tS hV3 hto hV hT hRg hvl e2 e3 o2 n2 t2 t3 hrg s3 p1 p2 p3 p4 hLp
      go_wp2_with fail
      refine wp_region_held_drew (S := fun wq => wq.cell? ⟨gl, i * 2, none⟩ = some (.int .i64 (at' : Int)) ∧ wq.cell? ⟨gl, i * 2 + 1, none⟩ = some (.slice pa Lp pc)) (by kernel_rfl) ⟨p1r, p2r⟩ (fun hHeld => ?_)
      refine wpAnyH_take (i := 0) (v := .slice (some ⟨go, 0, none⟩) m co) rfl (by kernel_rfl) (by kernel_rfl) (by kernel_rfl) (fun _ _ _ h => h) (Or.inl ⟨by rfl, ?yp0⟩) (by assumption) ?rp0
      case yp0 => (intro wq hSw; (try simp only [List.getElem_toArray, List.getElem_cons_zero, List.getElem_cons_succ]); go_simp; (try with_reducible rfl); all_goals (try omega))
      case rp0 =>
      try simp only [Act.put, List.setIfInBounds_toArray, List.set_cons_zero, List.set_cons_succ, List.getElem_toArray, List.getElem_cons_zero, List.getElem_cons_succ]
      refine wpAnyH_take (i := 1) (v := .slice (some ⟨gl, 0, none⟩) n cl) rfl (by kernel_rfl) (by kernel_rfl) (by kernel_rfl) (fun _ _ _ h => h) (Or.inl ⟨by rfl, ?yp1⟩) (by assumption) ?rp1
      case yp1 => (intro wq hSw; (try simp only [List.getElem_toArray, List.getElem_cons_zero, List.getElem_cons_succ]); go_simp; (try with_reducible rfl); all_goals (try omega))
      case rp1 =>
      try simp only [Act.put, List.setIfInBounds_toArray, List.set_cons_zero, List.set_cons_succ, List.getElem_toArray, List.getElem_cons_zero, List.getElem_cons_succ]
      refine wpAnyH_take (i := 2) (v := .int .i64 (i : Int)) rfl (by kernel_rfl) (by kernel_rfl) (by kernel_rfl) (fun _ _ _ h => h) (Or.inl ⟨by rfl, ?yp2⟩) (by assumption) ?rp2
      case yp2 => (intro wq hSw; (try simp only [List.getElem_toArray, List.getElem_cons_zero, List.getElem_cons_succ]); go_simp; (try with_reducible rfl); all_goals (try omega))
      case rp2 =>
      try simp only [Act.put, List.setIfInBounds_toArray, List.set_cons_zero, List.set_cons_succ, List.getElem_toArray, List.getElem_cons_zero, List.getElem_cons_succ]
      refine wpAnyH_take (i := 3) (v := .pointer (some ⟨gl, i * 2, none⟩)) rfl (by kernel_rfl) (by kernel_rfl) (by kernel_rfl) (fun _ _ _ h => h) (Or.inl ⟨by rfl, ?yp3⟩) (by assumption) ?rp3
      case yp3 => (intro wq hSw; (try simp only [List.getElem_toArray, List.getElem_cons_zero, List.getElem_cons_succ]); go_simp; (try with_reducible rfl); all_goals (try omega))
      case rp3 =>
      try simp only [Act.put, List.setIfInBounds_toArray, List.set_cons_zero, List.set_cons_succ, List.getElem_toArray, List.getElem_cons_zero, List.getElem_cons_succ]
      refine wpAnyH_take (i := 4) (v := .pointer (some ⟨gl, i * 2, none⟩)) rfl (by kernel_rfl) (by kernel_rfl) (by kernel_rfl) (fun _ _ _ h => h) (Or.inl ⟨by rfl, ?yp4⟩) (by assumption) ?rp4
      case yp4 => (intro wq hSw; (try simp only [List.getElem_toArray, List.getElem_cons_zero, List.getElem_cons_succ]); go_simp; (try with_reducible rfl); all_goals (try omega))
      case rp4 =>
      try simp only [Act.put, List.setIfInBounds_toArray, List.set_cons_zero, List.set_cons_succ, List.getElem_toArray, List.getElem_cons_zero, List.getElem_cons_succ]
      refine wpAnyH_take (i := 5) (v := .int .i64 (at' : Int)) rfl (by kernel_rfl) (by kernel_rfl) (by kernel_rfl) (fun _ _ _ h => h) (Or.inl ⟨by rfl, ?yp5⟩) (by assumption) ?rp5
      case yp5 => (intro wq hSw; obtain ⟨z1, z2⟩ := hSw; (try simp only [List.getElem_toArray, List.getElem_cons_zero, List.getElem_cons_succ]); go_simp; (try with_reducible rfl); all_goals (try omega))
      case rp5 =>
      try simp only [Act.put, List.setIfInBounds_toArray, List.set_cons_zero, List.set_cons_succ, List.getElem_toArray, List.getElem_cons_zero, List.getElem_cons_succ]
      refine wpAnyH_take (i := 6) (v := .slice (some ⟨gl, 0, none⟩) n cl) rfl (by kernel_rfl) (by kernel_rfl) (by kernel_rfl) (fun _ _ _ h => h) (Or.inl ⟨by rfl, ?yp6⟩) (by assumption) ?rp6
      case yp6 => (intro wq hSw; (try simp only [List.getElem_toArray, List.getElem_cons_zero, List.getElem_cons_succ]); go_simp; (try with_reducible rfl); all_goals (try omega))
      case rp6 =>
      try simp only [Act.put, List.setIfInBounds_toArray, List.set_cons_zero, List.set_cons_succ, List.getElem_toArray, List.getElem_cons_zero, List.getElem_cons_succ]
      refine wpAnyH_take (i := 7) (v := .int .i64 (i : Int)) rfl (by kernel_rfl) (by kernel_rfl) (by kernel_rfl) (fun _ _ _ h => h) (Or.inl ⟨by rfl, ?yp7⟩) (by assumption) ?rp7
      case yp7 => (intro wq hSw; (try simp only [List.getElem_toArray, List.getElem_cons_zero, List.getElem_cons_succ]); go_simp; (try with_reducible rfl); all_goals (try omega))
      case rp7 =>
      try simp only [Act.put, List.setIfInBounds_toArray, List.set_cons_zero, List.set_cons_succ, List.getElem_toArray, List.getElem_cons_zero, List.getElem_cons_succ]
      refine wpAnyH_take (i := 8) (v := .pointer (some ⟨gl, i * 2, none⟩)) rfl (by kernel_rfl) (by kernel_rfl) (by kernel_rfl) (fun _ _ _ h => h) (Or.inl ⟨by rfl, ?yp8⟩) (by assumption) ?rp8
      case yp8 => (intro wq hSw; (try simp only [List.getElem_toArray, List.getElem_cons_zero, List.getElem_cons_succ]); go_simp; (try with_reducible rfl); all_goals (try omega))
      case rp8 =>
      try simp only [Act.put, List.setIfInBounds_toArray, List.set_cons_zero, List.set_cons_succ, List.getElem_toArray, List.getElem_cons_zero, List.getElem_cons_succ]
      refine wpAnyH_take (i := 9) (v := .pointer (some ⟨gl, i * 2 + 1, none⟩)) rfl (by kernel_rfl) (by kernel_rfl) (by kernel_rfl) (fun _ _ _ h => h) (Or.inl ⟨by rfl, ?yp9⟩) (by assumption) ?rp9
      case yp9 => (intro wq hSw; (try simp only [List.getElem_toArray, List.getElem_cons_zero, List.getElem_cons_succ]); go_simp; (try with_reducible rfl); all_goals (try omega))
      case rp9 =>
      try simp only [Act.put, List.setIfInBounds_toArray, List.set_cons_zero, List.set_cons_succ, List.getElem_toArray, List.getElem_cons_zero, List.getElem_cons_succ]
      refine wpAnyH_take (i := 10) (v := .slice pa Lp pc) rfl (by kernel_rfl) (by kernel_rfl) (by kernel_rfl) (fun _ _ _ h => h) (Or.inl ⟨by rfl, ?yp10⟩) (by assumption) ?rp10
      case yp10 => (intro wq hSw; obtain ⟨z1, z2⟩ := hSw; (try simp only [List.getElem_toArray, List.getElem_cons_zero, List.getElem_cons_succ]); go_simp; (try with_reducible rfl); all_goals (try omega))
      case rp10 =>
      try simp only [Act.put, List.setIfInBounds_toArray, List.set_cons_zero, List.set_cons_succ, List.getElem_toArray, List.getElem_cons_zero, List.getElem_cons_succ]
      refine wpAnyH_take (i := 12) (v := .slice (some ⟨gl, 0, none⟩) n cl) rfl (by kernel_rfl) (by kernel_rfl) (by kernel_rfl) (fun _ _ _ h => h) (Or.inl ⟨by rfl, ?yp12⟩) (by assumption) ?rp12
      case yp12 => (intro wq hSw; (try simp only [List.getElem_toArray, List.getElem_cons_zero, List.getElem_cons_succ]); go_simp; (try with_reducible rfl); all_goals (try omega))
      case rp12 =>
      try simp only [Act.put, List.setIfInBounds_toArray, List.set_cons_zero, List.set_cons_succ, List.getElem_toArray, List.getElem_cons_zero, List.getElem_cons_succ]
      refine wpAnyH_take (i := 13) (v := .int .i64 (i : Int)) rfl (by kernel_rfl) (by kernel_rfl) (by kernel_rfl) (fun _ _ _ h => h) (Or.inl ⟨by rfl, ?yp13⟩) (by assumption) ?rp13
      case yp13 => (intro wq hSw; (try simp only [List.getElem_toArray, List.getElem_cons_zero, List.getElem_cons_succ]); go_simp; (try with_reducible rfl); all_goals (try omega))
      case rp13 =>
      try simp only [Act.put, List.setIfInBounds_toArray, List.set_cons_zero, List.set_cons_succ, List.getElem_toArray, List.getElem_cons_zero, List.getElem_cons_succ]
      refine wpAnyH_take (i := 14) (v := .pointer (some ⟨gl, i * 2, none⟩)) rfl (by kernel_rfl) (by kernel_rfl) (by kernel_rfl) (fun _ _ _ h => h) (Or.inl ⟨by rfl, ?yp14⟩) (by assumption) ?rp14
      case yp14 => (intro wq hSw; (try simp only [List.getElem_toArray, List.getElem_cons_zero, List.getElem_cons_succ]); go_simp; (try with_reducible rfl); all_goals (try omega))
      case rp14 =>
      try simp only [Act.put, List.setIfInBounds_toArray, List.set_cons_zero, List.set_cons_succ, List.getElem_toArray, List.getElem_cons_zero, List.getElem_cons_succ]
      refine wpAnyH_take (i := 15) (v := .pointer (some ⟨gl, i * 2 + 1, none⟩)) rfl (by kernel_rfl) (by kernel_rfl) (by kernel_rfl) (fun _ _ _ h => h) (Or.inl ⟨by rfl, ?yp15⟩) (by assumption) ?rp15
      case yp15 => (intro wq hSw; (try simp only [List.getElem_toArray, List.getElem_cons_zero, List.getElem_cons_succ]); go_simp; (try with_reducible rfl); all_goals (try omega))
      case rp15 =>
      try simp only [Act.put, List.setIfInBounds_toArray, List.set_cons_zero, List.set_cons_succ, List.getElem_toArray, List.getElem_cons_zero, List.getElem_cons_succ]
      refine wpAnyH_take (i := 16) (v := .slice pa Lp pc) rfl (by kernel_rfl) (by kernel_rfl) (by kernel_rfl) (fun _ _ _ h => h) (Or.inl ⟨by rfl, ?yp16⟩) (by assumption) ?rp16
      case yp16 => (intro wq hSw; obtain ⟨z1, z2⟩ := hSw; (try simp only [List.getElem_toArray, List.getElem_cons_zero, List.getElem_cons_succ]); go_simp; (try with_reducible rfl); all_goals (try omega))
      case rp16 =>
      try simp only [Act.put, List.setIfInBounds_toArray, List.set_cons_zero, List.set_cons_succ, List.getElem_toArray, List.getElem_cons_zero, List.getElem_cons_succ]
      refine wpAnyH_take (i := 17) (v := .int .i64 (Lp : Int)) rfl (by kernel_rfl) (by kernel_rfl) (by kernel_rfl) (fun _ _ _ h => h) (Or.inl ⟨by rfl, ?yp17⟩) (by assumption) ?rp17
      case yp17 => (intro wq hSw; (try simp only [List.getElem_toArray, List.getElem_cons_zero, List.getElem_cons_succ]); go_simp; (try with_reducible rfl); all_goals (try omega))
      case rp17 =>
      try simp only [Act.put, List.setIfInBounds_toArray, List.set_cons_zero, List.set_cons_succ, List.getElem_toArray, List.getElem_cons_zero, List.getElem_cons_succ]
      refine wpAnyH_take (i := 18) (v := .int .i64 (64 - (Lp : Int))) rfl (by kernel_rfl) (by kernel_rfl) (by kernel_rfl) (fun _ _ _ h => h) (Or.inl ⟨by rfl, ?yp18⟩) (by assumption) ?rp18
      case yp18 => (intro wq hSw; (try simp only [List.getElem_toArray, List.getElem_cons_zero, List.getElem_cons_succ]); go_simp; (try with_reducible rfl); all_goals (try omega))
      case rp18 =>
      try simp only [Act.put, List.setIfInBounds_toArray, List.set_cons_zero, List.set_cons_succ, List.getElem_toArray, List.getElem_cons_zero, List.getElem_cons_succ]
      refine wpAnyH_ready (rs := [11]) (by kernel_rfl) (by simp) ?_
      refine AllReadyH.cons rfl (fun K hK => ?_) AllReadyH.nil
      rw [if_pos (by rfl)]
      refine oper_exec _ _ (exec_append _ _ (.const (.slice none 0 0)) (.tmp 25) 31 rfl _ _ _ _ _ rfl rfl E2.out) ?_
      refine hK.out _ _ K2.out (fun _ => ?_)
      clear hK K
      try simp only [Act.put, List.setIfInBounds_toArray, List.set_cons_zero, List.set_cons_succ, List.getElem_toArray, List.getElem_cons_zero, List.getElem_cons_succ]
      refine wpAnyH_ready (rs := [19]) (by kernel_rfl) (by simp) ?_
      refine AllReadyH.cons rfl (fun K hK => ?_) AllReadyH.nil
      rw [if_pos (by rfl)]
      refine oper_exec _ _ (exec_append2 _ _ (.tmp 26) (.tmp 33) 31 3 rfl _ _ _ _ _ rfl rfl E3.out) ?_
      refine hK.out _ _ K3.out (fun _ => ?_)
      clear hK K
      try simp only [Act.put, List.setIfInBounds_toArray, List.set_cons_zero, List.set_cons_succ, List.getElem_toArray, List.getElem_cons_zero, List.getElem_cons_succ]
      refine wpAnyH_take (i := 20) (v := .pointer (some ⟨go, at', none⟩)) rfl (by kernel_rfl) (by kernel_rfl) (by kernel_rfl) (fun _ _ _ h => h) (Or.inl ⟨by rfl, ?yp20⟩) (by assumption) ?rp20
      case yp20 => (intro wq hSw; (try simp only [List.getElem_toArray, List.getElem_cons_zero, List.getElem_cons_succ]); go_simp; (try with_reducible rfl); all_goals (try omega))
      case rp20 =>
      try simp only [Act.put, List.setIfInBounds_toArray, List.set_cons_zero, List.set_cons_succ, List.getElem_toArray, List.getElem_cons_zero, List.getElem_cons_succ]
      refine wpAnyH_ready (rs := [21]) (by kernel_rfl) (by simp) ?_
      refine AllReadyH.cons rfl (fun K hK => ?_) AllReadyH.nil
      go_simp
      
      refine hK.out _ _ K4.out (fun _ => ?_)
      clear hK K
      try simp only [Act.put, List.setIfInBounds_toArray, List.set_cons_zero, List.set_cons_succ, List.getElem_toArray, List.getElem_cons_zero, List.getElem_cons_succ]
      refine wpAnyH_done (by kernel_rfl) ?_ _
      clear hHeld
      go_wp2_with fail
      obtain ⟨f1, f2, f3', f4⟩ := HN.out
      exact ⟨⟨i + 1, vs.set at' (.slice (some ⟨gs, 0, none⟩) 64 cg), by omega, by go_num, by simpa using HVL.out, f1, f2, f4, f3'⟩, by simp [intOf]; omega⟩
    · obtain rfl : i = n := by omega
      have hiI : ¬ ((i : Int) < (i : Int)) := by omega
      have HF := Lib.hid (And.intro hvl (And.intro hV (And.intro hto hT)))
      clear hvl hV hto hT
      go_wp2_with fail
      go_ret
      obtain ⟨f1, f2, f3, f4⟩ := HF.out
      have HMA : MAt _ (fun q => R q ∨ (w.heap.size ≤ q ∧ q ≠ go)) go vs (putR ms l i) := ⟨by rw [putR_len, HML.out, f1]; exact hnc, fun j hj => f2.cell j (by rw [putR_len, HML.out] at hj; omega), fun j hj => f3 j (by rw [putR_len, HML.out] at hj; exact hj)⟩
      first
        | exact ⟨go, co, rfl, hgn, ⟨vs, HMA⟩, f4⟩
        | exact ⟨⟨go, ⟨co, rfl⟩, hgn, vs, HMA⟩, f4⟩
        | exact ⟨⟨go, co, rfl, hgn, vs, HMA⟩, f4⟩
        | exact ⟨⟨go, ⟨co, rfl⟩, hgn, ⟨vs, HMA⟩⟩, f4⟩
        | exact ⟨go, ⟨co, rfl⟩, ⟨hgn, ⟨vs, HMA⟩⟩, f4⟩
        | exact ⟨go, ⟨co, rfl⟩, hgn, ⟨vs, HMA⟩, f4⟩
        | trace_state
end Go.Proofs.Ytakmkkgpkbpbkaa
