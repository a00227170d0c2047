/- Own texts, packed: Cc, Pt, Fd, Rd, Rp. No statement is proved here. -/
import Derived.Test.YtkciaafkhpjnaaaQ05
import Derived.Lib.AppendZeros
namespace Go.Proofs.Ytkciaafkhpjnaaa
set_option maxRecDepth 100000
open Go.RowKit
set_option linter.unusedVariables false
set_option linter.unusedSimpArgs false


theorem els_grow (n : Nat) (hn : n ≤ 100000) (w : World) : Calls Try.prog 81 #[.slice none 0 0, .int .i64 (n : Int)] w fun e w' => ∃ v, e = .returned v ∧ w'.ownsRow w.heap.size 38 10 v 0 [] ∧ Turn (fun _ => False) w w' := by
  obtain ⟨i0, hi, hz0, hz1, hz2⟩ := info_parts el_infop
  have hd0 : decide ((n : Int) < 0) = false := by simp
  by_cases h0 : 0 < n
  · have hrun := Lib.run_append_nil_zeros (P := Try.prog) w 25 3 25 38 i0 _ .i64 .i64 Try.underlying25 Try.underlying3 hi hz0 n h0 (by rw [hz1]; decide) (by omega) (by rw [hz2]; omega)
    have HR := Lib.hid hrun
    have hd1 : decide ((0 : Int) < (n : Int)) = true := by simp; omega
    have hge := grownCap_ge w n 0 38
    have hcm := grownCap_le_maxLen w n 0 38 (by simp only [maxLen]; omega)
    clear hrun
    go_enter Try.func81, Try.ntmps81
    go_wp2_with (at_builtin; refine Lib.wpList_append_run _ rfl _ _ _ _ rfl _ _ rfl rfl _ _ HR.out ?_)
    go_ret
    refine ⟨_, rfl, ⟨rfl, .inr ⟨w.heap.size, _, _, rfl, Nat.le_refl _, heap_alloc_new w.drew _, Nat.zero_le _, hcm, ?_, by simp⟩⟩, ((Turn.refl _ w).drew).alloc _⟩
    simp [size_zeroCells, Value.cells, El.vlen]
    omega
  · have : n = 0 := by omega
    subst this
    go_enter Try.func81, Try.ntmps81
    go_wp2_with fail
    go_ret
    exact ⟨_, rfl, World.ownsRow_nil _ _ _ _, Turn.refl _ _⟩
def NewEls (w : World) (l : List El) (e : Ending) (w' : World) : Prop := ∃ v, e = .returned v ∧ w'.ownsRow w.heap.size 38 10 v l.length (elsV l) ∧ Turn (fun _ => False) w w'
def sumL (L : List (List El)) (k : Nat) : Nat := ((L.take k).map List.length).sum
theorem sumL_succ (L : List (List El)) (k : Nat) (h : k < L.length) : sumL L (k + 1) = sumL L k + (L.getD k []).length := by
  have e : L.getD k [] = L[k] := by simp [List.getD, h]
  unfold sumL
  rw [e, List.take_succ_eq_append_getElem h, List.map_append, List.sum_append]
  rfl
theorem flat_succ (L : List (List El)) (k : Nat) (h : k < L.length) : (L.take (k + 1)).flatten = (L.take k).flatten ++ L.getD k [] := by
  have e : L.getD k [] = L[k] := by simp [List.getD, h]
  rw [e, List.take_succ_eq_append_getElem h, List.flatten_append]
  simp only [List.flatten_cons, List.flatten_nil, List.append_nil]
theorem flat_len (L : List (List El)) (k : Nat) : ((L.take k).flatten).length = sumL L k := by simp [sumL, List.length_flatten]
theorem sumL_mono (L : List (List El)) (k : Nat) : sumL L k ≤ sumL L L.length := by
  unfold sumL
  rw [List.take_length]
  conv => rhs; rw [← List.take_append_drop k L, List.map_append, List.sum_append]
  omega
/-- Some charts, as a call of many holds them. -/
structure ManyV (w : World) (G : Nat) (f : Nat → Value) (L : List (List El)) : Prop where
  lt : G < w.heap.size
  at_ : ∀ k, k < L.length → w.cell? ⟨G, k, none⟩ = some (f k)
  row : ∀ k, k < L.length → RowV w (f k) (L.getD k [])
theorem ManyV.turn {w w' : World} {G : Nat} {f : Nat → Value} {L : List (List El)} (h : ManyV w G f L) (t : Turn (fun _ => False) w w') : ManyV w' G f L :=
  ⟨Nat.lt_of_lt_of_le h.lt t.size, fun k hk => (t.cell (p := ⟨G, k, none⟩) h.lt id).trans (h.at_ k hk), fun k hk => (h.row k hk).turn t (fun _ _ => id)⟩
set_option maxHeartbeats 1600000 in
theorem concat_els (w : World) (G c0 : Nat) (f : Nat → Value) (L : List (List El)) (n : Nat) (hn : L.length = n) (hc0 : n ≤ c0) (hv : ManyV w G f L) (hb : n ≤ 10) (hs : sumL L n ≤ 100000) :
    Calls Try.prog 67 #[.slice (some ⟨G, 0, none⟩) n c0] w (NewEls w L.flatten) := by
  have hmono : ∀ k, sumL L k ≤ 100000 := fun k => by
    have := sumL_mono L k
    rw [hn] at this
    omega
  have HV := Lib.hid hv
  have HN := Lib.hid hn
  have HM := Lib.hid hmono
  clear hv hn hmono
  go_enter Try.func67, Try.ntmps67
  go_wp2_with fail
  go_loop [3, 11] (fun sv iv => ∃ (k : Nat), k ≤ n ∧ iv = .int .i64 (k : Int) ∧ sv = .int .i64 ((sumL L k : Nat) : Int)) (fun _ i => n - (intOf i).toNat)
  case atStart => exact ⟨0, Nat.zero_le _, rfl, rfl⟩
  case round =>
    obtain ⟨k, hk, rfl, rfl⟩ := hrel
    by_cases hlt : k < n
    · have hkl : k < L.length := by rw [HN.out]; exact hlt
      have hcell := HV.out.at_ k hkl
      obtain ⟨a, c, hf⟩ := (HV.out.row k hkl).form
      have hsucc := sumL_succ L k hkl
      have hm1 := HM.out (k + 1)
      rw [hf] at hcell
      generalize hq : (L.getD k []).length = m at *
      generalize hs0 : sumL L k = s at *
      have HSU := Lib.hid hsucc
      have hm2 : s + m ≤ 100000 := by omega
      have hd : decide ((s : Int) + (m : Int) < 0) = false := by simp; omega
      clear hsucc hm1 hf hs0 hq
      go_wp2_with fail
      go_round
      case rel => exact ⟨k + 1, by omega, by go_num, by rw [HSU.out]; go_num⟩
      case measure => simp [intOf]; omega
    · have hke : k = n := by omega
      subst hke
      go_wp2_with fail
      refine (els_grow (sumL L k) hs w).mono ?_
      rintro e w1 ⟨v1, rfl, ho1, t1⟩
      have HO1 := Lib.hid ho1
      clear ho1
      go_wp2_with fail
      go_loopw [6, 27] (fun sv iv wr => ∃ (j : Nat), j ≤ k ∧ iv = .int .i64 (j : Int) ∧ wr.ownsRow w.heap.size 38 10 sv ((L.take j).flatten).length (elsV (L.take j).flatten) ∧ Turn (fun _ => False) w wr) (fun _ i _ => k - (intOf i).toNat)
      case atStart => exact ⟨0, Nat.zero_le _, rfl, by simpa [elsV] using HO1.out, t1⟩
      case round =>
        obtain ⟨j, hj, rfl, ho, tr⟩ := hrel
        have HO := Lib.hid ho
        have HTR := Lib.hid tr
        clear ho tr
        by_cases hjk : j < k
        · have hjl : j < L.length := by rw [HN.out]; exact hjk
          have hcell := (HV.out.turn HTR.out).at_ j hjl
          have hrow := (HV.out.turn HTR.out).row j hjl
          have hfl := flat_succ L j hjl
          have hlen : ((L.take j).flatten).length + (L.getD j []).length ≤ 1000000 := by
            have := HM.out (j + 1)
            rw [sumL_succ L j hjl, ← flat_len] at this
            omega
          obtain ⟨v', w', hr, ho2, t2⟩ := app_els wr w.heap.size 25 25 Try.underlying25 _ _ _ _ HO.out hrow HTR.out.size hlen
          have t3 := turn_on HO.out (Nat.le_refl _) HTR.out t2
          rw [← hfl] at ho2
          have HR := Lib.hid hr
          have HO2 := Lib.hid ho2
          have HT3 := Lib.hid t3
          clear hr ho2 t2 t3 hrow hfl hlen
          go_wp2_with (with_reducible (show wpList _ _ _ (Oper.mk (some 33) _ _ _ _ _ :: _) _ _); refine still ?_)
          refine list_exec rfl _ _ (exec_append _ _ (.tmp 31) (.tmp 32) 25 rfl _ _ _ _ _ rfl rfl HR.out) ?_
          go_wp2_with fail
          go_roundw
          case rel => exact ⟨j + 1, by omega, by go_num, HO2.out, HT3.out⟩
          case measure => simp [intOf]; omega
        · have hje : j = k := by omega
          subst hje
          go_wp2_with fail
          go_ret
          refine ⟨_, rfl, ?_, HTR.out⟩
          have := HO.out
          rw [← HN.out, List.take_length] at this
          exact this
end Go.Proofs.Ytkciaafkhpjnaaa
namespace Go.Proofs.Ytkciaafkhpjnaaa
set_option maxRecDepth 100000
open Go.RowKit
set_option linter.unusedVariables false
set_option linter.unusedSimpArgs false


theorem wp_exec {P : Program} {o : Oper} {a : Act} {K : Act → World → Prop} {Q : Exit → Act → World → Prop} {w w' : World} {v : Value} (he : (execOp a.eval o).run P w = .ok (.value v) w') (h : K (a.put o.dst v) w') : o.wp P a w K Q := by
  unfold Oper.wp
  rw [he]
  exact h
theorem el_size (w : World) : (sizeOf 38).run Try.prog w = .ok 10 w := by
  have h := el_info
  rw [Option.map_eq_some_iff] at h
  obtain ⟨i, hi, hs⟩ := h
  simp [sizeOf, typeInfo, hi, hs]
theorem exec_slice_hi (ev : Operand → Value) (op : Oper) {x y : Operand} (ho : op.op = .slice 25 x none (some y) none) (la : Option Addr) (n lc p : Nat) (hx : ev x = .slice la n lc) (hy : ev y = .int .i64 (p : Int)) (hp : p ≤ lc) (w : World) : (execOp ev op).run Try.prog w = .ok (.value (.slice la p lc)) w := by
  have h1 := run_slice_h (P := Try.prog) (w := w) 25 la n lc Try.underlying25 .i64 (p : Int) (by omega) (by omega)
  have hsz := el_size w
  unfold execOp
  simp only [ho, hx, hy, Option.map_some, Option.map_none]
  simp only [Sem.run_bind]
  rw [run_sliceAt_slice (w := w) 25 _ _ _ _ Try.underlying25, h1]
  rw [show Try.prog.elem 25 = 38 from rfl, hsz]
  cases la <;> simp [sliced, Addr.add]
theorem exec_slice_lo (ev : Operand → Value) (op : Oper) {x y : Operand} (ho : op.op = .slice 25 x (some y) none none) (la : Option Addr) (n lc p : Nat) (hx : ev x = .slice la n lc) (hy : ev y = .int .i64 (p : Int)) (hp : p ≤ n) (w : World) : (execOp ev op).run Try.prog w = .ok (.value (.slice (if lc = p then la else la.map (·.add (p * 10))) (n - p) (lc - p))) w := by
  have h1 := run_slice_l (P := Try.prog) (w := w) 25 la n lc Try.underlying25 .i64 (p : Int) (by omega) (by omega)
  have hsz := el_size w
  unfold execOp
  simp only [ho, hx, hy, Option.map_some, Option.map_none]
  simp only [Sem.run_bind]
  rw [run_sliceAt_slice (w := w) 25 _ _ _ _ Try.underlying25, h1]
  rw [show Try.prog.elem 25 = 38 from rfl, hsz]
  simp [sliced]
theorem RowV.cap {w : World} {la : Option Addr} {n lc : Nat} {l : List El} (h : RowV w (.slice la n lc) l) (hn : l.length = n) : n ≤ lc := by
  rcases h with ⟨h1, h2⟩ | ⟨g, o, c, h1, h2, h3, h4⟩
  · injection h1 with q1 q2 q3; omega
  · injection h1 with q1 q2 q3; omega
theorem RowV.take {w : World} {la : Option Addr} {n lc : Nat} {l : List El} (h : RowV w (.slice la n lc) l) (p : Nat) (hp : p ≤ l.length) : RowV w (.slice la p lc) (l.take p) := by
  rcases h with ⟨h1, h2⟩ | ⟨g, o, c, h1, h2, h3, h4⟩
  · injection h1 with q1 q2 q3
    subst h2
    obtain rfl : p = 0 := by simpa using hp
    exact .inl ⟨by rw [q1, q3], rfl⟩
  · injection h1 with q1 q2 q3
    have hl : (l.take p).length = p := by simp; omega
    refine .inr ⟨g, o, lc, by rw [q1, hl], by omega, fun h0 => h3 (by omega), fun k hk => ?_⟩
    have hkp : k < p := by omega
    rw [show (l.take p).getD k el0 = l.getD k el0 by simp [List.getD, List.getElem?_take, hkp]]
    exact h4 k (by omega)
theorem RowV.drop {w : World} {la : Option Addr} {n lc : Nat} {l : List El} (h : RowV w (.slice la n lc) l) (hn : l.length = n) (p : Nat) (hp : p ≤ n) : RowV w (.slice (if lc = p then la else la.map (·.add (p * 10))) (n - p) (lc - p)) (l.drop p) := by
  have hcap := h.cap hn
  rcases h with ⟨h1, h2⟩ | ⟨g, o, c, h1, h2, h3, h4⟩
  · injection h1 with q1 q2 q3
    subst q1
    exact .inl ⟨by rw [show n - p = 0 by omega, show lc - p = 0 by omega]; simp, by rw [h2]; simp⟩
  · injection h1 with q1 q2 q3
    subst q1
    have hl : (l.drop p).length = n - p := by simp [hn]
    by_cases hlp : lc = p
    · refine .inr ⟨g, o, lc - p, by rw [if_pos hlp, hl], by omega, fun h0 => by omega, fun k hk => by omega⟩
    · refine .inr ⟨g, o + p * 10, lc - p, by rw [if_neg hlp, hl, Option.map_some, Addr.add_mid], by omega, fun h0 => h3 (by omega), fun k hk => ?_⟩
      rw [show (l.drop p).getD k el0 = l.getD (p + k) el0 by simp [List.getD], show o + p * 10 + k * 10 = o + (p + k) * 10 by omega]
      exact h4 (p + k) (by omega)
/-- What 'c[p:]' is. -/
structure LoV (la : Option Addr) (n lc p : Nat) (la' : Option Addr) (lc' : Nat) : Prop where
  run : ∀ (ev : Operand → Value) (op : Oper) (x y : Operand), op.op = .slice 25 x (some y) none none → ev x = .slice la n lc → ev y = .int .i64 (p : Int) → ∀ w, (execOp ev op).run Try.prog w = .ok (.value (.slice la' (n - p) lc')) w
  row : ∀ w l, RowV w (.slice la n lc) l → l.length = n → RowV w (.slice la' (n - p) lc') (l.drop p)
theorem lo_any (la : Option Addr) (n lc p : Nat) (hp : p ≤ n) : ∃ la' lc', LoV la n lc p la' lc' :=
  ⟨_, _, fun ev op x y ho hx hy w => exec_slice_lo ev op ho la n lc p hx hy hp w, fun w l h hn => h.drop hn p hp⟩
theorem info26p : (Try.prog.info? 25).map (fun i => (i.zero, i.size, i.bytes)) = some (some (.slice none 0 0), 1, 24) := by kernel_rfl
theorem build3 (a1 a2 a3 : Option Addr) (n1 n2 n3 c1 c2 c3 : Nat) (w : World) : (Instr.buildSlice 48 3 #[(0, .slice a1 n1 c1), (1, .slice a2 n2 c2), (2, .slice a3 n3 c3)]).run Try.prog w = .ok (.slice (some ⟨w.heap.size, 0, none⟩) 3 3) (w.alloc (.cells #[.slice a1 n1 c1, .slice a2 n2 c2, .slice a3 n3 c3] 25)) := by
  obtain ⟨i0, hi, hz0, hz1, hz2⟩ := info_parts info26p
  refine run_buildSlice (P := Try.prog) w 48 25 3 _ _ i0 _ Try.underlying48 hi hz0 (by rw [hz1]; decide) (by rw [hz1]; decide) ?_
  rw [hz1]
  kernel_rfl
theorem build2 (a1 a2 : Option Addr) (n1 n2 c1 c2 : Nat) (w : World) : (Instr.buildSlice 48 2 #[(0, .slice a1 n1 c1), (1, .slice a2 n2 c2)]).run Try.prog w = .ok (.slice (some ⟨w.heap.size, 0, none⟩) 2 2) (w.alloc (.cells #[.slice a1 n1 c1, .slice a2 n2 c2] 25)) := by
  obtain ⟨i0, hi, hz0, hz1, hz2⟩ := info_parts info26p
  refine run_buildSlice (P := Try.prog) w 48 25 2 _ _ i0 _ Try.underlying48 hi hz0 (by rw [hz1]; decide) (by rw [hz1]; decide) ?_
  rw [hz1]
  kernel_rfl
theorem exec_build3 (ev : Operand → Value) (op : Oper) (x y z : Operand) (ho : op.op = .buildSlice 48 3 #[(0, x), (1, y), (2, z)]) (a1 a2 a3 : Option Addr) (n1 n2 n3 c1 c2 c3 : Nat) (hx : ev x = .slice a1 n1 c1) (hy : ev y = .slice a2 n2 c2) (hz : ev z = .slice a3 n3 c3) (w : World) : (execOp ev op).run Try.prog w = .ok (.value (.slice (some ⟨w.heap.size, 0, none⟩) 3 3)) (w.alloc (.cells #[.slice a1 n1 c1, .slice a2 n2 c2, .slice a3 n3 c3] 25)) := by
  unfold execOp
  simp only [ho, List.map_toArray, List.map_cons, List.map_nil, hx, hy, hz, Sem.run_bind, Sem.run_pure, build3, Result.andThen_ok]
theorem exec_build2 (ev : Operand → Value) (op : Oper) (x y : Operand) (ho : op.op = .buildSlice 48 2 #[(0, x), (1, y)]) (a1 a2 : Option Addr) (n1 n2 c1 c2 : Nat) (hx : ev x = .slice a1 n1 c1) (hy : ev y = .slice a2 n2 c2) (w : World) : (execOp ev op).run Try.prog w = .ok (.value (.slice (some ⟨w.heap.size, 0, none⟩) 2 2)) (w.alloc (.cells #[.slice a1 n1 c1, .slice a2 n2 c2] 25)) := by
  unfold execOp
  simp only [ho, List.map_toArray, List.map_cons, List.map_nil, hx, hy, Sem.run_bind, Sem.run_pure, build2, Result.andThen_ok]
theorem many3 {w w' : World} {T : TypeId} {v1 v2 v3 : Value} {l1 l2 l3 : List El} (hb : Box w w' T [v1, v2, v3]) (h1 : RowV w v1 l1) (h2 : RowV w v2 l2) (h3 : RowV w v3 l3) : ManyV w' w.heap.size (fun k => ([v1, v2, v3] : List Value).getD k undef) [l1, l2, l3] := by
  refine ⟨by rw [hb.size]; omega, fun k hk => ?_, fun k hk => ?_⟩
  · have hk : k < 3 := by simpa using hk
    refine hb.cell k _ ?_
    simp [List.getD, hk]
  · have hk : k < 3 := by simpa using hk
    rcases (by omega : k = 0 ∨ k = 1 ∨ k = 2) with rfl | rfl | rfl
    · exact h1.turn hb.turn (fun _ _ => id)
    · exact h2.turn hb.turn (fun _ _ => id)
    · exact h3.turn hb.turn (fun _ _ => id)
theorem many2 {w w' : World} {T : TypeId} {v1 v2 : Value} {l1 l2 : List El} (hb : Box w w' T [v1, v2]) (h1 : RowV w v1 l1) (h2 : RowV w v2 l2) : ManyV w' w.heap.size (fun k => ([v1, v2] : List Value).getD k undef) [l1, l2] := by
  refine ⟨by rw [hb.size]; omega, fun k hk => ?_, fun k hk => ?_⟩
  · have hk : k < 2 := by simpa using hk
    refine hb.cell k _ ?_
    simp [List.getD, hk]
  · have hk : k < 2 := by simpa using hk
    rcases (by omega : k = 0 ∨ k = 1) with rfl | rfl
    · exact h1.turn hb.turn (fun _ _ => id)
    · exact h2.turn hb.turn (fun _ _ => id)
/-- A chart with an element; without one. -/
def putE (l : List El) (e : El) : List El := l.filter (fun x => decide (x.id < e.id)) ++ e :: l.filter (fun x => decide (e.id < x.id))
def dropE (l : List El) (nr : Int) : List El := l.filter (fun x => !decide (x.id = nr))
theorem mem_take_at {l : List El} {p : Nat} {x : El} (h : x ∈ l.take p) : ∃ k, k < p ∧ k < l.length ∧ l.getD k el0 = x := by
  obtain ⟨i, hi, rfl⟩ := List.getElem_of_mem h
  have h2 : i < p ∧ i < l.length := by rw [List.length_take] at hi; omega
  exact ⟨i, h2.1, h2.2, by simp [List.getD, h2.2]⟩
theorem mem_drop_at {l : List El} {p : Nat} {x : El} (h : x ∈ l.drop p) : ∃ k, p ≤ k ∧ k < l.length ∧ l.getD k el0 = x := by
  obtain ⟨i, hi, rfl⟩ := List.getElem_of_mem h
  have h2 : p + i < l.length := by simp at hi; omega
  exact ⟨p + i, by omega, h2, by simp [List.getD, h2]⟩
theorem IsPlace.less {l : List El} {nr : Int} {p : Nat} (h : IsPlace l nr p) : l.filter (fun x => decide (x.id < nr)) = l.take p := by
  conv => lhs; rw [← List.take_append_drop p l]
  rw [List.filter_append, List.filter_eq_self.2, List.filter_eq_nil_iff.2, List.append_nil]
  · intro x hx
    obtain ⟨k, h1, h2, rfl⟩ := mem_drop_at hx
    have := h.hi k h1 h2
    simp only [decide_eq_true_eq]; omega
  · intro x hx
    obtain ⟨k, h1, h2, rfl⟩ := mem_take_at hx
    simpa using h.lo k h1
theorem IsPlace.more {l : List El} {nr : Int} {p : Nat} (h : IsPlace l nr p) (hr : Rises l) : l.filter (fun x => decide (nr < x.id)) = if thereB l nr p = true then l.drop (p + 1) else l.drop p := by
  have hlow : ∀ x ∈ l.take p, ¬ (decide (nr < x.id) = true) := fun x hx => by
    obtain ⟨k, h1, h2, rfl⟩ := mem_take_at hx
    have := h.lo k h1
    simp only [decide_eq_true_eq]; omega
  conv => lhs; rw [← List.take_append_drop p l]
  rw [List.filter_append, List.filter_eq_nil_iff.2 hlow, List.nil_append]
  unfold thereB
  by_cases ht : p < l.length ∧ (l.getD p el0).id = nr
  · rw [if_pos (by simpa using ht), List.drop_eq_getElem_cons ht.1, List.filter_cons_of_neg, List.filter_eq_self.2]
    · intro x hx
      obtain ⟨k, h1, h2, rfl⟩ := mem_drop_at hx
      have := hr.get (i := p) (j := k) (by omega) h2
      simp only [decide_eq_true_eq]
      omega
    · have e : l[p]'ht.1 = l.getD p el0 := by simp [List.getD, ht.1]
      rw [e]
      simp only [decide_eq_true_eq]
      omega
  · rw [if_neg (by simpa using ht), List.filter_eq_self.2]
    intro x hx
    obtain ⟨k, h1, h2, rfl⟩ := mem_drop_at hx
    have h3 := h.hi k h1 h2
    simp only [decide_eq_true_eq]
    by_cases e : k = p
    · subst e
      have : (l.getD k el0).id ≠ nr := fun e => ht ⟨h2, e⟩
      omega
    · have h4 := hr.get (i := p) (j := k) (by omega) h2
      have h5 := h.hi p (Nat.le_refl _) (by omega)
      omega
theorem dropE_split (l : List El) (nr : Int) (hr : Rises l) {p : Nat} (h : IsPlace l nr p) : dropE l nr = l.take p ++ if thereB l nr p = true then l.drop (p + 1) else l.drop p := by
  rw [← h.more hr]
  unfold dropE
  conv => lhs; rw [← List.take_append_drop p l]
  rw [List.filter_append]
  congr 1
  · rw [List.filter_eq_self]
    intro x hx
    obtain ⟨k, h1, h2, rfl⟩ := mem_take_at hx
    have := h.lo k h1
    simp only [Bool.not_eq_true', decide_eq_false_iff_not]; omega
  · have hlow : ∀ x ∈ l.take p, ¬ (decide (nr < x.id) = true) := fun x hx => by
      obtain ⟨k, h1, h2, rfl⟩ := mem_take_at hx
      have := h.lo k h1
      simp only [decide_eq_true_eq]; omega
    conv => rhs; rw [← List.take_append_drop p l]
    rw [List.filter_append, List.filter_eq_nil_iff.2 hlow, List.nil_append]
    apply List.filter_congr
    intro x hx
    obtain ⟨k, h1, h2, rfl⟩ := mem_drop_at hx
    have := h.hi k h1 h2
    rw [Bool.eq_iff_iff]
    simp only [Bool.not_eq_true', decide_eq_false_iff_not, decide_eq_true_eq]; omega
theorem IsPlace.put {l : List El} {e : El} {p : Nat} (h : IsPlace l e.id p) (hr : Rises l) : putE l e = [l.take p, [e], if thereB l e.id p = true then l.drop (p + 1) else l.drop p].flatten := by
  unfold putE
  rw [h.less, h.more hr]
  simp

theorem own_base {w : World} {b b' : Nat} {v : Value} {n : Nat} {xs : List Value} (h : w.ownsRow b 38 10 v n xs) (hb : b' ≤ b) : w.ownsRow b' 38 10 v n xs := by
  refine ⟨h.1, ?_⟩
  rcases h.2 with h | ⟨g, cap, cur, h1, h2, h3⟩
  · exact .inl h
  · exact .inr ⟨g, cap, cur, h1, Nat.le_trans hb h2, h3⟩

set_option maxHeartbeats 1600000 in
theorem put_any (w : World) (v : Value) (l : List El) (e : El) (hv : RowV w v l) (hr : Rises l) (hb : l.length ≤ 1000) : Calls Try.prog 53 #[v, .agg e.vals.toArray] w (NewEls w (putE l e)) := by
  obtain ⟨la, lc, rfl⟩ := hv.form
  obtain ⟨n, hn⟩ : ∃ n, l.length = n := ⟨_, rfl⟩
  rw [hn] at hv hb
  simp only [hn]
  have hbx := box_alloc w 38 e.vals
  obtain ⟨w1, hw1⟩ : ∃ w1, w.alloc (.cells e.vals.toArray 38) = w1 := ⟨_, rfl⟩
  rw [hw1] at hbx
  have c0 := hbx.cell 0 _ e.v0
  have hcap := hv.cap hn
  have HB := Lib.hid hbx
  have HV := Lib.hid hv
  have HN := Lib.hid hn
  have HR := Lib.hid hr
  clear hbx hv hn hr
  go_enter Try.func53, Try.ntmps53
  go_wp2_with fail
  clear hw1
  refine (place_any w1 _ l e.id (HV.out.turn HB.out.turn (fun _ _ => id)) HR.out (by rw [HN.out]; omega)).mono ?_
  rintro r w2 ⟨p, hp, rfl, t2⟩
  have hpn : p ≤ n := by rw [← HN.out]; exact hp.le
  have HPL := Lib.hid (hp.put HR.out)
  have HTB : Hid (thereB l e.id p = true → p < n) := fun h => by
    unfold thereB at h
    rw [← HN.out]
    exact (of_decide_eq_true h).1
  have HT2 := Lib.hid (HB.out.turn.trans t2 (fun _ _ => id))
  have HY := Lib.hid (rangeAt_turn (HB.out.range) t2 (fun h => h))
  have HV2 := Lib.hid (HV.out.turn HT2.out (fun _ _ => id))
  obtain ⟨la1, lc1, hlo1⟩ := lo_any la n lc p hpn
  clear t2 hp c0
  cases hth : thereB l e.id p
  · have HTH := Lib.hid hth
    clear hth
    go_wp2_with (with_reducible (show wpList _ _ _ (Oper.mk (some 17) (.slice 25 _ _ _ _) _ _ _ _ :: _) _ _); refine still ?_)
    refine list_exec rfl _ _ (hlo1.run _ _ (.tmp 15) (.tmp 16) rfl rfl rfl _) ?_
    have HD := Lib.hid (hlo1.row w2 l HV2.out HN.out)
    go_wp2_with fail
    refine wp_region_held_drew (S := fun wq => wq.rangeAt w.heap.size 0 e.vals) (by kernel_rfl) HY.out (fun hHeld => ?_)
    refine wpAnyH_take (i := 0) (v := .slice la n lc) rfl (by kernel_rfl) (by kernel_rfl) (by kernel_rfl) (fun _ _ _ h => h) (Or.inl ⟨by rfl, ?yq1⟩) (by assumption) ?rq1
    case yq1 => (intro wq hSw; (try simp only [List.getElem_toArray, List.getElem_cons_zero, List.getElem_cons_succ]); go_simp; (try with_reducible rfl); all_goals (try omega))
    case rq1 =>
    try simp only [Act.put, List.setIfInBounds_toArray, List.set_cons_zero, List.set_cons_succ, List.getElem_toArray, List.getElem_cons_zero, List.getElem_cons_succ]
    refine wpAnyH_take (i := 1) (v := .int .i64 (p : Int)) rfl (by kernel_rfl) (by kernel_rfl) (by kernel_rfl) (fun _ _ _ h => h) (Or.inl ⟨by rfl, ?yq2⟩) (by assumption) ?rq2
    case yq2 => (intro wq hSw; (try simp only [List.getElem_toArray, List.getElem_cons_zero, List.getElem_cons_succ]); go_simp; (try with_reducible rfl); all_goals (try omega))
    case rq2 =>
    try simp only [Act.put, List.setIfInBounds_toArray, List.set_cons_zero, List.set_cons_succ, List.getElem_toArray, List.getElem_cons_zero, List.getElem_cons_succ]
    refine wpAnyH_take (i := 2) (v := .slice la p lc) rfl (by kernel_rfl) (by kernel_rfl) (by kernel_rfl) (fun _ _ _ h => h) (Or.inl ⟨by rfl, ?yq3⟩) (by assumption) ?rq3
    case yq3 => (intro wq hSw; exact exec_slice_hi _ _ rfl la n lc p rfl rfl (by omega) wq)
    case rq3 =>
    try simp only [Act.put, List.setIfInBounds_toArray, List.set_cons_zero, List.set_cons_succ, List.getElem_toArray, List.getElem_cons_zero, List.getElem_cons_succ]
    refine wpAnyH_take (i := 3) (v := .agg e.vals.toArray) rfl (by kernel_rfl) (by kernel_rfl) (by kernel_rfl) (fun _ _ _ h => h) (Or.inl ⟨by rfl, ?yq4⟩) (by assumption) ?rq4
    case yq4 => (intro wq hSw; exact exec_load_mid _ _ 38 _ rfl w.heap.size 0 rfl e.vals _ _ hSw Try.underlying38 rfl el_info)
    case rq4 =>
    try simp only [Act.put, List.setIfInBounds_toArray, List.set_cons_zero, List.set_cons_succ, List.getElem_toArray, List.getElem_cons_zero, List.getElem_cons_succ]
    refine wpAnyH_take (i := 5) (v := .slice la1 (n - p) lc1) rfl (by kernel_rfl) (by kernel_rfl) (by kernel_rfl) (fun _ _ _ h => h) (Or.inl ⟨by rfl, ?yq5⟩) (by assumption) ?rq5
    case yq5 => (intro wq hSw; (try simp only [List.getElem_toArray, List.getElem_cons_zero, List.getElem_cons_succ]); go_simp; (try with_reducible rfl); all_goals (try omega))
    case rq5 =>
    try simp only [Act.put, List.setIfInBounds_toArray, List.set_cons_zero, List.set_cons_succ, List.getElem_toArray, List.getElem_cons_zero, List.getElem_cons_succ]
    have hb1 := box_alloc w2.drew 38 e.vals
    have hone := one_rowV (w := w2.drew) e
    obtain ⟨w3, hw3⟩ : ∃ w3, w2.drew.alloc (.cells e.vals.toArray 38) = w3 := ⟨_, rfl⟩
    have hx1 : ∀ ev op y, op.op = .buildSlice 25 1 #[(0, y)] → ev y = .agg e.vals.toArray → (execOp ev op).run Try.prog w2.drew = .ok (.value (.slice (some ⟨w2.drew.heap.size, 0, none⟩) 1 1)) w3 := fun ev op y ho hy => by rw [← hw3]; exact exec_build_one ev op y 25 Try.underlying25 ho e hy _
    rw [hw3] at hb1 hone
    have hb3 := box_alloc w3 25 [.slice la p lc, .slice (some ⟨w2.drew.heap.size, 0, none⟩) 1 1, .slice la1 (n - p) lc1]
    obtain ⟨w4, hw4⟩ : ∃ w4, w3.alloc (.cells #[.slice la p lc, .slice (some ⟨w2.drew.heap.size, 0, none⟩) 1 1, .slice la1 (n - p) lc1] 25) = w4 := ⟨_, rfl⟩
    have hx3 : ∀ ev op x y z, op.op = .buildSlice 48 3 #[(0, x), (1, y), (2, z)] → ev x = .slice la p lc → ev y = .slice (some ⟨w2.drew.heap.size, 0, none⟩) 1 1 → ev z = .slice la1 (n - p) lc1 → (execOp ev op).run Try.prog w3 = .ok (.value (.slice (some ⟨w3.heap.size, 0, none⟩) 3 3)) w4 := fun ev op x y z ho h1 h2 h3 => by rw [← hw4]; exact exec_build3 ev op x y z ho _ _ _ _ _ _ _ _ _ h1 h2 h3 _
    rw [hw4] at hb3
    have t23 : Turn (fun _ => False) w2 w3 := (Turn.refl _ w2).drew.trans hb1.turn (fun _ _ => id)
    have t24 : Turn (fun _ => False) w2 w4 := t23.trans hb3.turn (fun _ _ => id)
    have hmany := many3 hb3 ((HV2.out.turn t23 (fun _ _ => id)).take p (by rw [HN.out]; exact hpn)) hone (HD.out.turn t23 (fun _ _ => id))
    have HMANY := Lib.hid hmany
    have HT23 := Lib.hid t23
    have HT24 := Lib.hid t24
    have HX1 := Lib.hid hx1
    have HX3 := Lib.hid hx3
    clear hb1 hone hb3 hw3 hw4 hx1 hx3 hmany t23 t24
    refine wpAnyH_ready (rs := [4]) (by kernel_rfl) (by simp) ?_
    refine AllReadyH.cons rfl (fun K hK => ?_) AllReadyH.nil
    rw [if_pos (by rfl)]
    refine wp_exec (HX1.out _ _ (.tmp 24) rfl rfl) ?_
    refine hK.out _ _ (rangeAt_turn HY.out HT23.out id) (fun _ => ?_)
    clear hK K
    try simp only [Act.put, List.setIfInBounds_toArray, List.set_cons_zero, List.set_cons_succ, List.getElem_toArray, List.getElem_cons_zero, List.getElem_cons_succ]
    refine wpAnyH_ready (rs := [6]) (by kernel_rfl) (by simp) ?_
    refine AllReadyH.cons rfl (fun K hK => ?_) AllReadyH.nil
    rw [if_pos (by rfl)]
    refine wp_exec (HX3.out _ _ (.tmp 23) (.tmp 25) (.tmp 26) rfl rfl rfl rfl) ?_
    refine hK.out _ _ (rangeAt_turn HY.out HT24.out id) (fun _ => ?_)
    clear hK K
    try simp only [Act.put, List.setIfInBounds_toArray, List.set_cons_zero, List.set_cons_succ, List.getElem_toArray, List.getElem_cons_zero, List.getElem_cons_succ]
    refine wpAnyH_ready (rs := [7]) (by kernel_rfl) (by simp) ?_
    refine AllReadyH.cons rfl (fun K hK => ?_) AllReadyH.nil
    go_simp
    refine (concat_els w4 w3.heap.size 3 _ [l.take p, [e], (l.drop p)] 3 rfl (Nat.le_refl _) HMANY.out (by omega) (by have := HN.out; simp [sumL]; omega)).mono ?_
    rintro r w5 ⟨v5, rfl, ho5, t5⟩
    have HO5 := Lib.hid ho5
    have HT5 := Lib.hid (HT24.out.trans t5 (fun _ _ => id))
    clear ho5 t5
    refine hK.out _ _ (rangeAt_turn HY.out HT5.out id) (fun _ => ?_)
    clear hK K
    try simp only [Act.put, List.setIfInBounds_toArray, List.set_cons_zero, List.set_cons_succ, List.getElem_toArray, List.getElem_cons_zero, List.getElem_cons_succ]
    refine wpAnyH_take (i := 8) (v := v5) rfl (by kernel_rfl) (by kernel_rfl) (by kernel_rfl) (fun _ _ _ h => h) (Or.inl ⟨by rfl, ?yq6⟩) (by assumption) ?rq6
    case yq6 => (intro wq hSw; (try simp only [List.getElem_toArray, List.getElem_cons_zero, List.getElem_cons_succ]); go_simp; (try with_reducible rfl); all_goals (try omega))
    case rq6 =>
    try simp only [Act.put, List.setIfInBounds_toArray, List.set_cons_zero, List.set_cons_succ, List.getElem_toArray, List.getElem_cons_zero, List.getElem_cons_succ]
    refine wpAnyH_done (by kernel_rfl) ?_ _
    clear hHeld
    obtain ⟨a5, c5, hv5⟩ := own_slice24 HO5.out
    subst hv5
    go_wp2_with fail
    go_ret
    refine ⟨_, rfl, ?_, HT2.out.trans HT5.out (fun _ _ => id)⟩
    rw [HPL.out, HTH.out]
    exact own_base HO5.out (Nat.le_trans HT2.out.size HT24.out.size)
  · have HTH := Lib.hid hth
    clear hth
    go_wp2_with (with_reducible (show wpList _ _ _ (Oper.mk (some 17) (.slice 25 _ _ _ _) _ _ _ _ :: _) _ _); refine still ?_)
    refine list_exec rfl _ _ (hlo1.run _ _ (.tmp 15) (.tmp 16) rfl rfl rfl _) ?_
    have hp1 := HTB.out HTH.out
    obtain ⟨la2, lc2, hlo2⟩ := lo_any la1 (n - p) lc1 1 (by omega)
    go_wp2_with (with_reducible (show wpList _ _ _ (Oper.mk (some 20) (.slice 25 _ _ _ _) _ _ _ _ :: _) _ _); refine still ?_)
    refine list_exec rfl _ _ (hlo2.run _ _ (.tmp 19) (.const (.int .i64 1)) rfl rfl rfl _) ?_
    have HD := Lib.hid (show RowV w2 (.slice la2 (n - p - 1) lc2) (l.drop (p + 1)) from by
      have h1 := hlo2.row w2 _ (hlo1.row w2 l HV2.out HN.out) (by rw [List.length_drop, HN.out])
      rwa [List.drop_drop] at h1)
    go_wp2_with fail
    refine wp_region_held_drew (S := fun wq => wq.rangeAt w.heap.size 0 e.vals) (by kernel_rfl) HY.out (fun hHeld => ?_)
    refine wpAnyH_take (i := 0) (v := .slice la n lc) rfl (by kernel_rfl) (by kernel_rfl) (by kernel_rfl) (fun _ _ _ h => h) (Or.inl ⟨by rfl, ?yq7⟩) (by assumption) ?rq7
    case yq7 => (intro wq hSw; (try simp only [List.getElem_toArray, List.getElem_cons_zero, List.getElem_cons_succ]); go_simp; (try with_reducible rfl); all_goals (try omega))
    case rq7 =>
    try simp only [Act.put, List.setIfInBounds_toArray, List.set_cons_zero, List.set_cons_succ, List.getElem_toArray, List.getElem_cons_zero, List.getElem_cons_succ]
    refine wpAnyH_take (i := 1) (v := .int .i64 (p : Int)) rfl (by kernel_rfl) (by kernel_rfl) (by kernel_rfl) (fun _ _ _ h => h) (Or.inl ⟨by rfl, ?yq8⟩) (by assumption) ?rq8
    case yq8 => (intro wq hSw; (try simp only [List.getElem_toArray, List.getElem_cons_zero, List.getElem_cons_succ]); go_simp; (try with_reducible rfl); all_goals (try omega))
    case rq8 =>
    try simp only [Act.put, List.setIfInBounds_toArray, List.set_cons_zero, List.set_cons_succ, List.getElem_toArray, List.getElem_cons_zero, List.getElem_cons_succ]
    refine wpAnyH_take (i := 2) (v := .slice la p lc) rfl (by kernel_rfl) (by kernel_rfl) (by kernel_rfl) (fun _ _ _ h => h) (Or.inl ⟨by rfl, ?yq9⟩) (by assumption) ?rq9
    case yq9 => (intro wq hSw; exact exec_slice_hi _ _ rfl la n lc p rfl rfl (by omega) wq)
    case rq9 =>
    try simp only [Act.put, List.setIfInBounds_toArray, List.set_cons_zero, List.set_cons_succ, List.getElem_toArray, List.getElem_cons_zero, List.getElem_cons_succ]
    refine wpAnyH_take (i := 3) (v := .agg e.vals.toArray) rfl (by kernel_rfl) (by kernel_rfl) (by kernel_rfl) (fun _ _ _ h => h) (Or.inl ⟨by rfl, ?yq10⟩) (by assumption) ?rq10
    case yq10 => (intro wq hSw; exact exec_load_mid _ _ 38 _ rfl w.heap.size 0 rfl e.vals _ _ hSw Try.underlying38 rfl el_info)
    case rq10 =>
    try simp only [Act.put, List.setIfInBounds_toArray, List.set_cons_zero, List.set_cons_succ, List.getElem_toArray, List.getElem_cons_zero, List.getElem_cons_succ]
    refine wpAnyH_take (i := 5) (v := .slice la2 (n - p - 1) lc2) rfl (by kernel_rfl) (by kernel_rfl) (by kernel_rfl) (fun _ _ _ h => h) (Or.inl ⟨by rfl, ?yq11⟩) (by assumption) ?rq11
    case yq11 => (intro wq hSw; (try simp only [List.getElem_toArray, List.getElem_cons_zero, List.getElem_cons_succ]); go_simp; (try with_reducible rfl); all_goals (try omega))
    case rq11 =>
    try simp only [Act.put, List.setIfInBounds_toArray, List.set_cons_zero, List.set_cons_succ, List.getElem_toArray, List.getElem_cons_zero, List.getElem_cons_succ]
    have hb1 := box_alloc w2.drew 38 e.vals
    have hone := one_rowV (w := w2.drew) e
    obtain ⟨w3, hw3⟩ : ∃ w3, w2.drew.alloc (.cells e.vals.toArray 38) = w3 := ⟨_, rfl⟩
    have hx1 : ∀ ev op y, op.op = .buildSlice 25 1 #[(0, y)] → ev y = .agg e.vals.toArray → (execOp ev op).run Try.prog w2.drew = .ok (.value (.slice (some ⟨w2.drew.heap.size, 0, none⟩) 1 1)) w3 := fun ev op y ho hy => by rw [← hw3]; exact exec_build_one ev op y 25 Try.underlying25 ho e hy _
    rw [hw3] at hb1 hone
    have hb3 := box_alloc w3 25 [.slice la p lc, .slice (some ⟨w2.drew.heap.size, 0, none⟩) 1 1, .slice la2 (n - p - 1) lc2]
    obtain ⟨w4, hw4⟩ : ∃ w4, w3.alloc (.cells #[.slice la p lc, .slice (some ⟨w2.drew.heap.size, 0, none⟩) 1 1, .slice la2 (n - p - 1) lc2] 25) = w4 := ⟨_, rfl⟩
    have hx3 : ∀ ev op x y z, op.op = .buildSlice 48 3 #[(0, x), (1, y), (2, z)] → ev x = .slice la p lc → ev y = .slice (some ⟨w2.drew.heap.size, 0, none⟩) 1 1 → ev z = .slice la2 (n - p - 1) lc2 → (execOp ev op).run Try.prog w3 = .ok (.value (.slice (some ⟨w3.heap.size, 0, none⟩) 3 3)) w4 := fun ev op x y z ho h1 h2 h3 => by rw [← hw4]; exact exec_build3 ev op x y z ho _ _ _ _ _ _ _ _ _ h1 h2 h3 _
    rw [hw4] at hb3
    have t23 : Turn (fun _ => False) w2 w3 := (Turn.refl _ w2).drew.trans hb1.turn (fun _ _ => id)
    have t24 : Turn (fun _ => False) w2 w4 := t23.trans hb3.turn (fun _ _ => id)
    have hmany := many3 hb3 ((HV2.out.turn t23 (fun _ _ => id)).take p (by rw [HN.out]; exact hpn)) hone (HD.out.turn t23 (fun _ _ => id))
    have HMANY := Lib.hid hmany
    have HT23 := Lib.hid t23
    have HT24 := Lib.hid t24
    have HX1 := Lib.hid hx1
    have HX3 := Lib.hid hx3
    clear hb1 hone hb3 hw3 hw4 hx1 hx3 hmany t23 t24
    refine wpAnyH_ready (rs := [4]) (by kernel_rfl) (by simp) ?_
    refine AllReadyH.cons rfl (fun K hK => ?_) AllReadyH.nil
    rw [if_pos (by rfl)]
    refine wp_exec (HX1.out _ _ (.tmp 24) rfl rfl) ?_
    refine hK.out _ _ (rangeAt_turn HY.out HT23.out id) (fun _ => ?_)
    clear hK K
    try simp only [Act.put, List.setIfInBounds_toArray, List.set_cons_zero, List.set_cons_succ, List.getElem_toArray, List.getElem_cons_zero, List.getElem_cons_succ]
    refine wpAnyH_ready (rs := [6]) (by kernel_rfl) (by simp) ?_
    refine AllReadyH.cons rfl (fun K hK => ?_) AllReadyH.nil
    rw [if_pos (by rfl)]
    refine wp_exec (HX3.out _ _ (.tmp 23) (.tmp 25) (.tmp 26) rfl rfl rfl rfl) ?_
    refine hK.out _ _ (rangeAt_turn HY.out HT24.out id) (fun _ => ?_)
    clear hK K
    try simp only [Act.put, List.setIfInBounds_toArray, List.set_cons_zero, List.set_cons_succ, List.getElem_toArray, List.getElem_cons_zero, List.getElem_cons_succ]
    refine wpAnyH_ready (rs := [7]) (by kernel_rfl) (by simp) ?_
    refine AllReadyH.cons rfl (fun K hK => ?_) AllReadyH.nil
    go_simp
    refine (concat_els w4 w3.heap.size 3 _ [l.take p, [e], (l.drop (p + 1))] 3 rfl (Nat.le_refl _) HMANY.out (by omega) (by have := HN.out; simp [sumL]; omega)).mono ?_
    rintro r w5 ⟨v5, rfl, ho5, t5⟩
    have HO5 := Lib.hid ho5
    have HT5 := Lib.hid (HT24.out.trans t5 (fun _ _ => id))
    clear ho5 t5
    refine hK.out _ _ (rangeAt_turn HY.out HT5.out id) (fun _ => ?_)
    clear hK K
    try simp only [Act.put, List.setIfInBounds_toArray, List.set_cons_zero, List.set_cons_succ, List.getElem_toArray, List.getElem_cons_zero, List.getElem_cons_succ]
    refine wpAnyH_take (i := 8) (v := v5) rfl (by kernel_rfl) (by kernel_rfl) (by kernel_rfl) (fun _ _ _ h => h) (Or.inl ⟨by rfl, ?yq12⟩) (by assumption) ?rq12
    case yq12 => (intro wq hSw; (try simp only [List.getElem_toArray, List.getElem_cons_zero, List.getElem_cons_succ]); go_simp; (try with_reducible rfl); all_goals (try omega))
    case rq12 =>
    try simp only [Act.put, List.setIfInBounds_toArray, List.set_cons_zero, List.set_cons_succ, List.getElem_toArray, List.getElem_cons_zero, List.getElem_cons_succ]
    refine wpAnyH_done (by kernel_rfl) ?_ _
    clear hHeld
    obtain ⟨a5, c5, hv5⟩ := own_slice24 HO5.out
    subst hv5
    go_wp2_with fail
    go_ret
    refine ⟨_, rfl, ?_, HT2.out.trans HT5.out (fun _ _ => id)⟩
    rw [HPL.out, HTH.out]
    exact own_base HO5.out (Nat.le_trans HT2.out.size HT24.out.size)
end Go.Proofs.Ytkciaafkhpjnaaa
namespace Go.Proofs.Ytkciaafkhpjnaaa
set_option maxRecDepth 100000
open Go.RowKit
set_option linter.unusedVariables false
set_option linter.unusedSimpArgs false


section
variable {P : Program} {ops : Array Oper} {Q : Exit → Act → World → Prop} {a : Act} {o : Oper} {rest : List Oper}
/-- A whole variable is written. -/
theorem list_put (w : World) (B : Nat) (T : TypeId) (zs cs : List Value) (hh : w.heap[B]? = some (.cells zs.toArray T (0, 0))) (hl : zs.length = cs.length) (h1 : ∀ v ∈ cs, v.oneCell' = true) (hi : (P.info? T).map (·.size) = some cs.length)
    (hgd : o.guard = none) (x y : Operand) (ho : o.op = .store T x y) (hx : a.eval x = .pointer (some ⟨B, 0, none⟩)) (hy : a.eval y = .agg cs.toArray)
    (h : ∀ w', w'.heap[B]? = some (.cells cs.toArray T (0, 0)) → Turn (fun q => q = B) w w' → wpList P ops Q rest (a.put o.dst undef) w') : wpList P ops Q (o :: rest) a w := by
  refine wpList_store_mid hgd T x y ho B 0 cs.toArray hx hy (by have := there_row hh; rw [hl] at this; simpa using this) (by simpa using hi) (all_oneCell_toArray h1) (h _ ?_ (turn_setCells B cs 0 w))
  have := heap_setCells B T cs 0 w zs hh (by omega)
  rw [this]
  simp [hl]
end
theorem range_of {w : World} {B : Nat} {T : TypeId} {cs : List Value} (h : w.heap[B]? = some (.cells cs.toArray T (0, 0))) : w.rangeAt B 0 cs := fun j v hj => by rw [Nat.zero_add, cell_of_row w _ j _ T (0, 0) h]; simpa using hj
theorem exec_zero24 (ev : Operand → Value) (op : Oper) (ho : op.op = .alloc 38) (w : World) : (execOp ev op).run Try.prog w = .ok (.value (.pointer (some ⟨w.heap.size, 0, none⟩))) (w.alloc (.cells el0.vals.toArray 38)) := by
  unfold execOp
  simp only [ho, Sem.run_bind, el_zero, Result.andThen_ok]
  rfl
theorem exec_build24 (ev : Operand → Value) (op : Oper) (ho : op.op = .build 38 #[]) (w : World) : (execOp ev op).run Try.prog w = .ok (.value (.agg el0.vals.toArray)) w := by
  unfold execOp
  simp only [ho, List.map_toArray, List.map_nil, Sem.run_bind, Sem.run_pure, el_build0, Result.andThen_ok]
theorem find_results (w : World) (b : Nat) (x : El) (r : Bool) (h2 : w.rangeAt b 0 x.vals) (tmps : Array Value) (e4 : tmps.getD 4 undef = .pointer (some ⟨b, 0, none⟩)) (e5 : tmps.getD 5 undef = .bool r) :
    (results Try.f48 tmps).run Try.prog w = .ok (.tuple #[.agg x.vals.toArray, .bool r]) w := by
  have hl : (loadVar 38 ⟨b, 0, none⟩).run Try.prog w = .ok (.agg x.vals.toArray) w := run_loadVar_mid (P := Try.prog) w b 0 38 x.vals _ h2 Try.underlying38 rfl el_info
  have hr : Try.f48.results = #[.cell 4 38, .tmp 5] := by kernel_rfl
  have e4' : tmps[4]?.getD undef = .pointer (some ⟨b, 0, none⟩) := by simpa using e4
  have e5' : tmps[5]?.getD undef = .bool r := by simpa using e5
  simp [results, hr, e4', e5', asAddr, hl]
/-- What Find tells. -/
def findX (l : List El) (nr : Int) (p : Nat) : El := if thereB l nr p = true then l.getD p el0 else el0
def FindPost (w : World) (l : List El) (nr : Int) (e : Ending) (w' : World) : Prop := ∃ p : Nat, IsPlace l nr p ∧ e = .returned (.tuple #[.agg (findX l nr p).vals.toArray, .bool (thereB l nr p)]) ∧ Turn (fun _ => False) w w'
set_option maxHeartbeats 1600000 in
theorem find_any (w : World) (v : Value) (l : List El) (nr : Int) (hv : RowV w v l) (hr : Rises l) (hb : l.length ≤ 1000) : Calls Try.prog 48 #[v, .int .i64 nr] w (FindPost w l nr) := by
  obtain ⟨la, lc, rfl⟩ := hv.form
  obtain ⟨n, hn⟩ : ∃ n, l.length = n := ⟨_, rfl⟩
  rw [hn] at hv hb
  simp only [hn]
  have hbx := box_alloc w 38 el0.vals
  obtain ⟨w1, hw1⟩ : ∃ w1, w.alloc (.cells el0.vals.toArray 38) = w1 := ⟨_, rfl⟩
  have hx0 : ∀ ev op, op.op = .alloc 38 → (execOp ev op).run Try.prog w = .ok (.value (.pointer (some ⟨w.heap.size, 0, none⟩))) w1 := fun ev op ho => by rw [← hw1]; exact exec_zero24 ev op ho w
  rw [hw1] at hbx
  have HX0 := Lib.hid hx0
  have HB := Lib.hid hbx
  have HV := Lib.hid hv
  have HN := Lib.hid hn
  have HR := Lib.hid hr
  clear hbx hv hn hr hw1 hx0
  go_enter Try.func48, Try.ntmps48
  go_wp2_with (with_reducible (show wpList _ _ _ (Oper.mk (some 4) (.alloc 38) _ _ _ _ :: _) _ _); refine still ?_)
  refine list_exec rfl _ _ (HX0.out _ _ rfl) ?_
  go_wp2_with fail
  refine (place_any w1 _ l nr (HV.out.turn HB.out.turn (fun _ _ => id)) HR.out (by rw [HN.out]; omega)).mono ?_
  rintro r w2 ⟨p, hp, rfl, t2⟩
  have HPL := Lib.hid hp
  have HT2 := Lib.hid (HB.out.turn.trans t2 (fun _ _ => id))
  have HH := Lib.hid ((t2.block _ (by rw [HB.out.size]; exact Nat.lt_succ_self _) id).trans HB.out.heap)
  clear t2 hp
  cases hth : thereB l nr p
  · have hfx : findX l nr p = el0 := by unfold findX; rw [hth]; rfl
    have HTH := Lib.hid hth
    have HFX := Lib.hid hfx
    clear hth hfx
    go_wp2_with (with_reducible (show wpList _ _ _ (Oper.mk (some 16) (.build 38 #[]) _ _ _ _ :: _) _ _); refine still ?_)
    refine list_exec rfl _ _ (exec_build24 _ _ rfl _) ?_
    go_wp2_with (with_reducible (show wpList _ _ _ (Oper.mk none (.store 38 (.tmp 4) (.tmp 16)) _ _ _ _ :: _) _ _); refine still ?_)
    refine list_put w2 w.heap.size 38 el0.vals el0.vals HH.out rfl el0.vals_one el_info rfl (.tmp 4) (.tmp 16) rfl rfl rfl (fun w3 h3 t3 => ?_)
    have H3 := Lib.hid h3
    have HT3 := Lib.hid (HT2.out.trans t3 (fun q hq e => by omega))
    clear h3 t3
    go_wp2_with fail
    refine bodyPost_ret (find_results w3 w.heap.size el0 false (range_of H3.out) _ rfl rfl) rfl ?_
    exact ⟨p, HPL.out, by rw [HTH.out, HFX.out], HT3.out⟩
  · have hfx : findX l nr p = l.getD p el0 := by unfold findX; rw [hth]; rfl
    have hpn : p < n := by
      have := hth
      unfold thereB at this
      rw [HN.out] at this
      exact (of_decide_eq_true this).1
    have HTH := Lib.hid hth
    have HFX := Lib.hid hfx
    obtain ⟨b, o, rfl, hc, hs1⟩ := (HV.out.turn HT2.out (fun _ _ => id)).one HN.out p hpn
    have gi : (0 : Int) ≤ (p : Int) ∧ (p : Int) < (n : Int) := by omega
    clear hth hfx
    generalize hx : l.getD p el0 = x at *
    have HX := Lib.hid hx
    clear hx
    go_wp2_with (with_reducible (show wpList _ _ _ (Oper.mk (some 20) (.load 38 (.tmp 19)) _ _ _ _ :: _) _ _); refine still ?_)
    refine wpList_load_mid rfl 38 (.tmp 19) rfl b (o + p * 10) rfl x.vals _ hs1 Try.underlying38 rfl el_info ?_
    go_wp2_with (with_reducible (show wpList _ _ _ (Oper.mk none (.store 38 (.tmp 4) (.tmp 20)) _ _ _ _ :: _) _ _); refine still ?_)
    refine list_put w2 w.heap.size 38 el0.vals x.vals HH.out rfl x.vals_one el_info rfl (.tmp 4) (.tmp 20) rfl rfl rfl (fun w3 h3 t3 => ?_)
    have H3 := Lib.hid h3
    have HT3 := Lib.hid (HT2.out.trans t3 (fun q hq e => by omega))
    clear h3 t3 hs1
    go_wp2_with fail
    refine bodyPost_ret (find_results w3 w.heap.size x true (range_of H3.out) _ rfl rfl) rfl ?_
    exact ⟨p, HPL.out, by rw [HTH.out, HFX.out], HT3.out⟩
theorem clone_els (w : World) (v : Value) (l : List El) (hv : RowV w v l) (hb : l.length ≤ 1000) : Calls Try.prog 32 #[v] w (NewEls w l) := by
  rcases hv with ⟨rfl, rfl⟩ | hq
  · have hnil : ∀ w, (binOp .eql 25 (.slice none 0 0) (.slice none 0 0)).run Try.prog w = .ok (.bool true) w := fun w => Lib.run_eql_slice_nil (P := Try.prog) w 25 38 none 0 0 0 0 Try.underlying25
    go_enter Try.func32, Try.ntmps32
    go_wp2_with fail
    go_ret
    exact ⟨_, rfl, World.ownsRow_nil _ _ _ _, Turn.refl _ _⟩
  · have hv : RowV w v l := .inr hq
    obtain ⟨g, o, c, rfl, hc, _, h4⟩ := hq
    obtain ⟨n, hn⟩ : ∃ n, l.length = n := ⟨_, rfl⟩
    rw [hn] at hv hb ⊢
    have hnil : ∀ w, (binOp .eql 25 (.slice (some ⟨g, o, none⟩) n c) (.slice none 0 0)).run Try.prog w = .ok (.bool false) w := fun w => Lib.run_eql_slice_nil (P := Try.prog) w 25 38 _ _ _ 0 0 Try.underlying25
    have hown := World.ownsRow_lit (base := w.heap.size) (e := 38) (size := 10) w #[] 0 (Nat.le_refl _) (by unfold maxLen; omega) (by simp)
    have T0 := (Turn.refl (fun _ => False) w).alloc (.cells #[] 38)
    obtain ⟨v', w', hr, ho, t⟩ := app_els (w.alloc (.cells #[] 38)) w.heap.size 25 25 Try.underlying25 _ _ [] l hown (hv.turn T0 (fun _ _ => id)) (by simp) (by simp; omega)
    have t2 := turn_on hown (Nat.le_refl _) T0 t
    obtain ⟨a5, c5, hv5⟩ := own_slice24 ho
    subst hv5
    have HN := Lib.hid hn
    have HR := Lib.hid hr
    have HO := Lib.hid ho
    have HT := Lib.hid t2
    clear hr ho t2 t hown hv h4 hn hc T0
    go_enter Try.func32, Try.ntmps32
    go_wp2_with (with_reducible (show wpList _ _ _ (Oper.mk (some 7) _ _ _ _ _ :: _) _ _); refine still ?_)
    refine list_exec rfl _ _ (exec_append _ _ (.tmp 5) (.tmp 6) 25 rfl _ _ _ _ _ rfl rfl HR.out) ?_
    go_wp2_with fail
    go_ret
    exact ⟨_, rfl, by simpa using HO.out, HT.out⟩

set_option maxHeartbeats 1600000 in
theorem drop_any (w : World) (v : Value) (l : List El) (nr : Int) (hv : RowV w v l) (hr : Rises l) (hb : l.length ≤ 1000) : Calls Try.prog 54 #[v, .int .i64 nr] w (NewEls w (dropE l nr)) := by
  obtain ⟨la, lc, rfl⟩ := hv.form
  obtain ⟨n, hn⟩ : ∃ n, l.length = n := ⟨_, rfl⟩
  rw [hn] at hv hb
  simp only [hn]
  have hcap := hv.cap hn
  have HV := Lib.hid hv
  have HN := Lib.hid hn
  have HR := Lib.hid hr
  clear hv hn hr
  go_enter Try.func54, Try.ntmps54
  go_wp2_with fail
  refine (place_any w _ l nr HV.out HR.out (by rw [HN.out]; omega)).mono ?_
  rintro r w2 ⟨p, hp, rfl, t2⟩
  have HDE := Lib.hid (dropE_split l nr HR.out hp)
  have HPL := Lib.hid hp
  have HT2 := Lib.hid t2
  have HV2 := Lib.hid (HV.out.turn HT2.out (fun _ _ => id))
  clear t2 hp
  cases hth : thereB l nr p
  · have HTH := Lib.hid hth
    clear hth
    go_wp2_with fail
    refine (clone_els w2 _ l HV2.out (by rw [HN.out]; exact hb)).mono ?_
    rintro r w3 ⟨v3, rfl, ho3, t3⟩
    have HO3 := Lib.hid ho3
    have HT3 := Lib.hid (HT2.out.trans t3 (fun _ _ => id))
    clear ho3 t3
    go_wp2_with fail
    go_ret
    refine ⟨_, rfl, ?_, HT3.out⟩
    rw [HDE.out, HTH.out]
    rw [if_neg (by simp), List.take_append_drop]
    exact own_base HO3.out HT2.out.size
  · have hpn : p < n := by
      have := hth
      unfold thereB at this
      rw [HN.out] at this
      exact (of_decide_eq_true this).1
    have hwp : IntKind.i64.wrap ((p : Int) + 1) = ((p + 1 : Nat) : Int) := by rw [IntKind.wrap_i64]; omega
    have HTH := Lib.hid hth
    clear hth
    obtain ⟨la1, lc1, hlo1⟩ := lo_any la n lc (p + 1) (by omega)
    have HD := Lib.hid (hlo1.row w2 l HV2.out HN.out)
    go_wp2_with fail
    refine wp_region_held_drew (S := fun wq => True) (by kernel_rfl) trivial (fun hHeld => ?_)
    refine wpAnyH_take (i := 0) (v := .slice la n lc) rfl (by kernel_rfl) (by kernel_rfl) (by kernel_rfl) (fun _ _ _ h => h) (Or.inl ⟨by rfl, ?yq1⟩) (by assumption) ?rq1
    case yq1 => (intro wq hSw; (try simp only [List.getElem_toArray, List.getElem_cons_zero, List.getElem_cons_succ]); go_simp; (try with_reducible rfl); all_goals (try omega))
    case rq1 =>
    try simp only [Act.put, List.setIfInBounds_toArray, List.set_cons_zero, List.set_cons_succ, List.getElem_toArray, List.getElem_cons_zero, List.getElem_cons_succ]
    refine wpAnyH_take (i := 1) (v := .int .i64 (p : Int)) rfl (by kernel_rfl) (by kernel_rfl) (by kernel_rfl) (fun _ _ _ h => h) (Or.inl ⟨by rfl, ?yq2⟩) (by assumption) ?rq2
    case yq2 => (intro wq hSw; (try simp only [List.getElem_toArray, List.getElem_cons_zero, List.getElem_cons_succ]); go_simp; (try with_reducible rfl); all_goals (try omega))
    case rq2 =>
    try simp only [Act.put, List.setIfInBounds_toArray, List.set_cons_zero, List.set_cons_succ, List.getElem_toArray, List.getElem_cons_zero, List.getElem_cons_succ]
    refine wpAnyH_take (i := 2) (v := .slice la p lc) rfl (by kernel_rfl) (by kernel_rfl) (by kernel_rfl) (fun _ _ _ h => h) (Or.inl ⟨by rfl, ?yq3⟩) (by assumption) ?rq3
    case yq3 => (intro wq hSw; exact exec_slice_hi _ _ rfl la n lc p rfl rfl (by omega) wq)
    case rq3 =>
    try simp only [Act.put, List.setIfInBounds_toArray, List.set_cons_zero, List.set_cons_succ, List.getElem_toArray, List.getElem_cons_zero, List.getElem_cons_succ]
    refine wpAnyH_take (i := 3) (v := .slice la n lc) rfl (by kernel_rfl) (by kernel_rfl) (by kernel_rfl) (fun _ _ _ h => h) (Or.inl ⟨by rfl, ?yq4⟩) (by assumption) ?rq4
    case yq4 => (intro wq hSw; (try simp only [List.getElem_toArray, List.getElem_cons_zero, List.getElem_cons_succ]); go_simp; (try with_reducible rfl); all_goals (try omega))
    case rq4 =>
    try simp only [Act.put, List.setIfInBounds_toArray, List.set_cons_zero, List.set_cons_succ, List.getElem_toArray, List.getElem_cons_zero, List.getElem_cons_succ]
    refine wpAnyH_take (i := 4) (v := .int .i64 (p : Int)) rfl (by kernel_rfl) (by kernel_rfl) (by kernel_rfl) (fun _ _ _ h => h) (Or.inl ⟨by rfl, ?yq5⟩) (by assumption) ?rq5
    case yq5 => (intro wq hSw; (try simp only [List.getElem_toArray, List.getElem_cons_zero, List.getElem_cons_succ]); go_simp; (try with_reducible rfl); all_goals (try omega))
    case rq5 =>
    try simp only [Act.put, List.setIfInBounds_toArray, List.set_cons_zero, List.set_cons_succ, List.getElem_toArray, List.getElem_cons_zero, List.getElem_cons_succ]
    refine wpAnyH_take (i := 5) (v := .int .i64 ((p + 1 : Nat) : Int)) rfl (by kernel_rfl) (by kernel_rfl) (by kernel_rfl) (fun _ _ _ h => h) (Or.inl ⟨by rfl, ?yq6⟩) (by assumption) ?rq6
    case yq6 => (intro wq hSw; (try simp only [List.getElem_toArray, List.getElem_cons_zero, List.getElem_cons_succ]); go_simp; (try with_reducible rfl); all_goals (try omega))
    case rq6 =>
    try simp only [Act.put, List.setIfInBounds_toArray, List.set_cons_zero, List.set_cons_succ, List.getElem_toArray, List.getElem_cons_zero, List.getElem_cons_succ]
    refine wpAnyH_take (i := 6) (v := .slice la1 (n - (p + 1)) lc1) rfl (by kernel_rfl) (by kernel_rfl) (by kernel_rfl) (fun _ _ _ h => h) (Or.inl ⟨by rfl, ?yq7⟩) (by assumption) ?rq7
    case yq7 => (intro wq hSw; exact hlo1.run _ _ _ _ rfl rfl rfl wq)
    case rq7 =>
    try simp only [Act.put, List.setIfInBounds_toArray, List.set_cons_zero, List.set_cons_succ, List.getElem_toArray, List.getElem_cons_zero, List.getElem_cons_succ]
    have hb3 := box_alloc w2.drew 25 [.slice la p lc, .slice la1 (n - (p + 1)) lc1]
    obtain ⟨w4, hw4⟩ : ∃ w4, w2.drew.alloc (.cells #[.slice la p lc, .slice la1 (n - (p + 1)) lc1] 25) = w4 := ⟨_, rfl⟩
    have hx3 : ∀ ev op x y, op.op = .buildSlice 48 2 #[(0, x), (1, y)] → ev x = .slice la p lc → ev y = .slice la1 (n - (p + 1)) lc1 → (execOp ev op).run Try.prog w2.drew = .ok (.value (.slice (some ⟨w2.drew.heap.size, 0, none⟩) 2 2)) w4 := fun ev op x y ho h1 h2 => by rw [← hw4]; exact exec_build2 ev op x y ho _ _ _ _ _ _ h1 h2 _
    rw [hw4] at hb3
    have td : Turn (fun _ => False) w2 w2.drew := (Turn.refl _ w2).drew
    have t24 : Turn (fun _ => False) w2 w4 := td.trans hb3.turn (fun _ _ => id)
    have hmany := many2 hb3 ((HV2.out.turn td (fun _ _ => id)).take p (by rw [HN.out]; omega)) (HD.out.turn td (fun _ _ => id))
    have HMANY := Lib.hid hmany
    have HT24 := Lib.hid t24
    have HX3 := Lib.hid hx3
    clear hb3 hw4 hx3 hmany t24 td
    refine wpAnyH_ready (rs := [7]) (by kernel_rfl) (by simp) ?_
    refine AllReadyH.cons rfl (fun K hK => ?_) AllReadyH.nil
    rw [if_pos (by rfl)]
    refine wp_exec (HX3.out _ _ (.tmp 19) (.tmp 23) rfl rfl rfl) ?_
    refine hK.out _ _ trivial (fun _ => ?_)
    clear hK K
    try simp only [Act.put, List.setIfInBounds_toArray, List.set_cons_zero, List.set_cons_succ, List.getElem_toArray, List.getElem_cons_zero, List.getElem_cons_succ]
    refine wpAnyH_ready (rs := [8]) (by kernel_rfl) (by simp) ?_
    refine AllReadyH.cons rfl (fun K hK => ?_) AllReadyH.nil
    go_simp
    refine (concat_els w4 w2.drew.heap.size 2 _ [l.take p, l.drop (p + 1)] 2 rfl (Nat.le_refl _) HMANY.out (by omega) (by have := HN.out; simp [sumL]; omega)).mono ?_
    rintro r w5 ⟨v5, rfl, ho5, t5⟩
    have HO5 := Lib.hid ho5
    have HT5 := Lib.hid (HT24.out.trans t5 (fun _ _ => id))
    clear ho5 t5
    refine hK.out _ _ trivial (fun _ => ?_)
    clear hK K
    try simp only [Act.put, List.setIfInBounds_toArray, List.set_cons_zero, List.set_cons_succ, List.getElem_toArray, List.getElem_cons_zero, List.getElem_cons_succ]
    refine wpAnyH_take (i := 9) (v := v5) rfl (by kernel_rfl) (by kernel_rfl) (by kernel_rfl) (fun _ _ _ h => h) (Or.inl ⟨by rfl, ?yq8⟩) (by assumption) ?rq8
    case yq8 => (intro wq hSw; (try simp only [List.getElem_toArray, List.getElem_cons_zero, List.getElem_cons_succ]); go_simp; (try with_reducible rfl); all_goals (try omega))
    case rq8 =>
    try simp only [Act.put, List.setIfInBounds_toArray, List.set_cons_zero, List.set_cons_succ, List.getElem_toArray, List.getElem_cons_zero, List.getElem_cons_succ]
    refine wpAnyH_done (by kernel_rfl) ?_ _
    clear hHeld
    obtain ⟨a5, c5, hv5⟩ := own_slice24 HO5.out
    subst hv5
    go_wp2_with fail
    go_ret
    refine ⟨_, rfl, ?_, HT2.out.trans HT5.out (fun _ _ => id)⟩
    rw [HDE.out, HTH.out, if_pos rfl, show l.take p ++ l.drop (p + 1) = [l.take p, l.drop (p + 1)].flatten by simp]
    exact own_base HO5.out (Nat.le_trans HT2.out.size HT24.out.size)
end Go.Proofs.Ytkciaafkhpjnaaa
namespace Go.Proofs.Ytkciaafkhpjnaaa
set_option maxRecDepth 100000
open Go.RowKit
set_option linter.unusedVariables false
set_option linter.unusedSimpArgs false


/-- Where a number stands first. -/
def IdxPost (w : World) (l : List El) (nr : Int) (e : Ending) (w' : World) : Prop :=
  ((∃ k, k < l.length ∧ (l.getD k el0).id = nr ∧ (∀ j, j < k → (l.getD j el0).id ≠ nr) ∧ e = .returned (.int .i64 (k : Int))) ∨ ((∀ j, j < l.length → (l.getD j el0).id ≠ nr) ∧ e = .returned (.int .i64 (-1)))) ∧ w = w'
theorem rfind_any (w : World) (v : Value) (l : List El) (nr : Int) (hv : RowV w v l) (hb : l.length ≤ 1000) : Calls Try.prog 20 #[v, .int .i64 nr] w (IdxPost w l nr) := by
  obtain ⟨la, lc, rfl⟩ := hv.form
  obtain ⟨n, hn⟩ : ∃ n, l.length = n := ⟨_, rfl⟩
  rw [hn] at hv hb
  simp only [hn]
  have HV := Lib.hid hv
  have HN := Lib.hid hn
  clear hv hn
  go_enter Try.func20, Try.ntmps20
  go_wp2_with fail
  go_loop [5] (fun iv => ∃ k : Nat, k ≤ n ∧ iv = .int .i64 (k : Int) ∧ ∀ j, j < k → (l.getD j el0).id ≠ nr) (fun iv => n - (intOf iv).toNat)
  case atStart => exact ⟨0, Nat.zero_le _, rfl, fun j hj => by omega⟩
  case round =>
    obtain ⟨k, hk, rfl, hne⟩ := hrel
    have HNE := Lib.hid hne
    clear hne
    by_cases hlt : k < n
    · obtain ⟨b, o, rfl, hc, hs1⟩ := HV.out.one HN.out k hlt
      have gi : (0 : Int) ≤ (k : Int) ∧ (k : Int) < (n : Int) := by omega
      generalize hx : l.getD k el0 = x at *
      have HX := Lib.hid hx
      have c0 := range0 hs1
      clear hx hs1
      by_cases he : x.id = nr
      · have d1 : (x.id == nr) = true := by simpa using he
        have HE := Lib.hid he
        clear he
        go_wp2_with fail
        go_ret
        exact ⟨.inl ⟨k, by rw [HN.out]; exact hlt, by rw [HX.out]; exact HE.out, HNE.out, rfl⟩, rfl⟩
      · have d1 : (x.id == nr) = false := by simpa using he
        have HE := Lib.hid he
        clear he
        go_wp2_with fail
        go_round
        case rel => exact ⟨k + 1, by omega, by go_num, fun j hj => by
          by_cases e : j = k
          · subst e; rw [HX.out]; exact HE.out
          · exact HNE.out j (by omega)⟩
        case measure => simp [intOf]; omega
    · have hke : k = n := by omega
      subst hke
      go_wp2_with fail
      go_ret
      exact ⟨.inr ⟨fun j hj => HNE.out j (by rw [← HN.out]; exact hj), rfl⟩, rfl⟩

set_option maxHeartbeats 4000000 in
theorem same_any (w : World) (v1 v2 : Value) (l1 l2 : List El) (h1 : RowV w v1 l1) (h2 : RowV w v2 l2) (hb : l1.length ≤ 100000 ∧ l2.length ≤ 100000) : Calls Try.prog 14 #[v1, v2] w fun e w' => e = .returned (.bool (decide (l1 = l2))) ∧ Turn (fun _ => False) w w' := by
  obtain ⟨a1, c1, rfl⟩ := h1.form
  obtain ⟨a2, c2, rfl⟩ := h2.form
  obtain ⟨n, hn⟩ : ∃ n, l1.length = n := ⟨_, rfl⟩
  obtain ⟨m, hm⟩ : ∃ m, l2.length = m := ⟨_, rfl⟩
  rw [hn] at h1 hb
  rw [hm] at h2 hb
  rw [hn, hm]
  have H1 := Lib.hid h1
  have H2 := Lib.hid h2
  have HN := Lib.hid hn
  have HM := Lib.hid hm
  clear h1 h2 hn hm
  by_cases hnm : n = m
  · subst hnm
    have hd0 : ((n : Int) != (n : Int)) = false := by simp
    go_enter Try.func14, Try.ntmps14
    go_wp2_with fail
    go_loopw [4, 5] (fun rv iv wr => rv = .bool false ∧ ∃ k : Nat, k ≤ n ∧ iv = .int .i64 (k : Int) ∧ (∀ j, j < k → l1.getD j el0 = l2.getD j el0) ∧ Turn (fun _ => False) w wr) (fun _ iv _ => n - (intOf iv).toNat)
    case atStart => exact ⟨rfl, 0, by omega, rfl, fun j hj => by omega, Turn.refl _ _⟩
    case round =>
      obtain ⟨rfl, k, hk, rfl, hall, htr⟩ := hrel
      have HA := Lib.hid hall
      have HTr := Lib.hid htr
      clear hall htr
      by_cases hlt : k < n
      · obtain ⟨g1, o1, e1, hc1, hs1⟩ := (H1.out.turn HTr.out (fun _ _ => id)).one HN.out k hlt
        obtain ⟨g2, o2, e2, hc2, hs2⟩ := (H2.out.turn HTr.out (fun _ _ => id)).one HM.out k hlt
        subst e1 e2
        have hd1 : decide ((k : Int) < (n : Int)) = true := decide_eq_true (by omega)
        have gk : (0 : Int) ≤ (k : Int) ∧ (k : Int) < (n : Int) := by omega
        generalize hxe : l1.getD k el0 = x at *
        generalize hye : l2.getD k el0 = y at *
        have HXE := Lib.hid hxe
        have HYE := Lib.hid hye
        clear hxe hye
        go_wp2_with fail
        refine wp_region_held_drew (S := fun wq => wq.rangeAt g1 (o1 + k * 10) x.vals ∧ wq.rangeAt g2 (o2 + k * 10) y.vals) (by kernel_rfl) ⟨hs1, hs2⟩ (fun hHeld => ?_)
        refine wpAnyH_take (i := 0) (v := .slice (some ⟨g1, o1, none⟩) n c1) rfl (by kernel_rfl) (by kernel_rfl) (by kernel_rfl) (fun _ _ _ h => h) (Or.inl ⟨by rfl, ?yq1⟩) (by assumption) ?rq1
        case yq1 => (intro wq hSw; (try simp only [List.getElem_toArray, List.getElem_cons_zero, List.getElem_cons_succ]); go_simp; (try with_reducible rfl); all_goals (try omega))
        case rq1 =>
        try simp only [Act.put, List.setIfInBounds_toArray, List.set_cons_zero, List.set_cons_succ, List.getElem_toArray, List.getElem_cons_zero, List.getElem_cons_succ]
        refine wpAnyH_take (i := 1) (v := .int .i64 (k : Int)) rfl (by kernel_rfl) (by kernel_rfl) (by kernel_rfl) (fun _ _ _ h => h) (Or.inl ⟨by rfl, ?yq2⟩) (by assumption) ?rq2
        case yq2 => (intro wq hSw; (try simp only [List.getElem_toArray, List.getElem_cons_zero, List.getElem_cons_succ]); go_simp; (try with_reducible rfl); all_goals (try omega))
        case rq2 =>
        try simp only [Act.put, List.setIfInBounds_toArray, List.set_cons_zero, List.set_cons_succ, List.getElem_toArray, List.getElem_cons_zero, List.getElem_cons_succ]
        refine wpAnyH_take (i := 2) (v := .pointer (some ⟨g1, o1 + k * 10, none⟩)) rfl (by kernel_rfl) (by kernel_rfl) (by kernel_rfl) (fun _ _ _ h => h) (Or.inl ⟨by rfl, ?yq3⟩) (by assumption) ?rq3
        case yq3 => (intro wq hSw; (try simp only [List.getElem_toArray, List.getElem_cons_zero, List.getElem_cons_succ]); go_simp; (try with_reducible rfl); all_goals (try omega))
        case rq3 =>
        try simp only [Act.put, List.setIfInBounds_toArray, List.set_cons_zero, List.set_cons_succ, List.getElem_toArray, List.getElem_cons_zero, List.getElem_cons_succ]
        refine wpAnyH_take (i := 3) (v := .agg x.vals.toArray) rfl (by kernel_rfl) (by kernel_rfl) (by kernel_rfl) (fun _ _ _ h => h) (Or.inl ⟨by rfl, ?yq4⟩) (by assumption) ?rq4
        case yq4 => (intro wq hSw; exact exec_load_mid _ _ 38 _ rfl g1 (o1 + k * 10) rfl x.vals _ _ hSw.1 Try.underlying38 rfl el_info)
        case rq4 =>
        try simp only [Act.put, List.setIfInBounds_toArray, List.set_cons_zero, List.set_cons_succ, List.getElem_toArray, List.getElem_cons_zero, List.getElem_cons_succ]
        refine wpAnyH_take (i := 4) (v := .slice (some ⟨g2, o2, none⟩) n c2) rfl (by kernel_rfl) (by kernel_rfl) (by kernel_rfl) (fun _ _ _ h => h) (Or.inl ⟨by rfl, ?yq5⟩) (by assumption) ?rq5
        case yq5 => (intro wq hSw; (try simp only [List.getElem_toArray, List.getElem_cons_zero, List.getElem_cons_succ]); go_simp; (try with_reducible rfl); all_goals (try omega))
        case rq5 =>
        try simp only [Act.put, List.setIfInBounds_toArray, List.set_cons_zero, List.set_cons_succ, List.getElem_toArray, List.getElem_cons_zero, List.getElem_cons_succ]
        refine wpAnyH_take (i := 5) (v := .int .i64 (k : Int)) rfl (by kernel_rfl) (by kernel_rfl) (by kernel_rfl) (fun _ _ _ h => h) (Or.inl ⟨by rfl, ?yq6⟩) (by assumption) ?rq6
        case yq6 => (intro wq hSw; (try simp only [List.getElem_toArray, List.getElem_cons_zero, List.getElem_cons_succ]); go_simp; (try with_reducible rfl); all_goals (try omega))
        case rq6 =>
        try simp only [Act.put, List.setIfInBounds_toArray, List.set_cons_zero, List.set_cons_succ, List.getElem_toArray, List.getElem_cons_zero, List.getElem_cons_succ]
        refine wpAnyH_take (i := 6) (v := .pointer (some ⟨g2, o2 + k * 10, none⟩)) rfl (by kernel_rfl) (by kernel_rfl) (by kernel_rfl) (fun _ _ _ h => h) (Or.inl ⟨by rfl, ?yq7⟩) (by assumption) ?rq7
        case yq7 => (intro wq hSw; (try simp only [List.getElem_toArray, List.getElem_cons_zero, List.getElem_cons_succ]); go_simp; (try with_reducible rfl); all_goals (try omega))
        case rq7 =>
        try simp only [Act.put, List.setIfInBounds_toArray, List.set_cons_zero, List.set_cons_succ, List.getElem_toArray, List.getElem_cons_zero, List.getElem_cons_succ]
        refine wpAnyH_take (i := 7) (v := .agg y.vals.toArray) rfl (by kernel_rfl) (by kernel_rfl) (by kernel_rfl) (fun _ _ _ h => h) (Or.inl ⟨by rfl, ?yq8⟩) (by assumption) ?rq8
        case yq8 => (intro wq hSw; exact exec_load_mid _ _ 38 _ rfl g2 (o2 + k * 10) rfl y.vals _ _ hSw.2 Try.underlying38 rfl el_info)
        case rq8 =>
        try simp only [Act.put, List.setIfInBounds_toArray, List.set_cons_zero, List.set_cons_succ, List.getElem_toArray, List.getElem_cons_zero, List.getElem_cons_succ]
        refine wpAnyH_take (i := 8) (v := .bool (!decide (x = y))) rfl (by kernel_rfl) (by kernel_rfl) (by kernel_rfl) (fun _ _ _ h => h) (Or.inl ⟨by rfl, ?yq9⟩) (by assumption) ?rq9
        case yq9 => (intro wq hSw; exact exec_neq_el _ _ rfl _ _ wq rfl rfl)
        case rq9 =>
        try simp only [Act.put, List.setIfInBounds_toArray, List.set_cons_zero, List.set_cons_succ, List.getElem_toArray, List.getElem_cons_zero, List.getElem_cons_succ]
        refine wpAnyH_done (by kernel_rfl) ?_ _
        clear hHeld
        by_cases he : x = y
        · rw [decide_eq_true he]
          have HE := Lib.hid he
          clear he
          go_wp2_with fail
          go_roundw
          case rel => exact ⟨rfl, k + 1, by omega, by go_num, fun j hj => by
            by_cases e : j = k
            · subst e; rw [HXE.out, HYE.out]; exact HE.out
            · exact HA.out j (by omega), HTr.out.trans ((Turn.refl _ wr).drew) (fun _ _ => id)⟩
          case measure => simp [intOf]; omega
        · rw [decide_eq_false he]
          have HE := Lib.hid he
          clear he
          go_wp2_with fail
          go_ret
          refine ⟨?_, HTr.out.trans ((Turn.refl _ wr).drew) (fun _ _ => id)⟩
          rw [decide_eq_false (fun h => HE.out (by rw [← HXE.out, ← HYE.out, h]))]
          rfl
      · have hd1 : decide ((k : Int) < (n : Int)) = false := decide_eq_false (by omega)
        have hke : k = n := by omega
        go_wp2_with fail
        go_ret
        refine ⟨?_, HTr.out⟩
        rw [decide_eq_true (getD_ext (by rw [HN.out, HM.out]) (fun j hj => HA.out j (by rw [hke, ← HN.out]; exact hj)))]
        rfl
  · have hd0 : ((n : Int) != (m : Int)) = true := by simp; omega
    have hne : l1 ≠ l2 := fun h => hnm (by rw [← HN.out, ← HM.out, h])
    have HNE := Lib.hid (decide_eq_false hne)
    clear hne
    go_enter Try.func14, Try.ntmps14
    go_wp2_with fail
    go_ret
    refine ⟨?_, Turn.refl _ _⟩
    rw [HNE.out]
    rfl
/-- Do numbers rise? -/
def risesB (l : List El) : Bool := (List.range (l.length - 1)).all fun i => decide ((l.getD i el0).id < (l.getD (i + 1) el0).id)
theorem risesB_iff (l : List El) : risesB l = true ↔ Rises l := by
  unfold risesB
  rw [List.all_eq_true]
  constructor
  · intro h
    have hs : ∀ j, j < l.length → ∀ i, i < j → (l.getD i el0).id < (l.getD j el0).id := by
      intro j
      induction j with
      | zero => intro _ i hi; omega
      | succ j ih =>
        intro hj i hi
        have h1 := h j (by rw [List.mem_range]; omega)
        have h2 := of_decide_eq_true h1
        by_cases e : i = j
        · subst e; exact h2
        · have := ih (by omega) i (by omega); omega
    unfold Rises
    rw [List.pairwise_iff_getElem]
    intro i j hi hj hij
    have := hs j hj i hij
    simpa [List.getD, hi, hj] using this
  · intro h i hi
    rw [List.mem_range] at hi
    exact decide_eq_true (h.get (by omega) (by omega))

set_option maxHeartbeats 1600000 in
theorem rises_any (w : World) (v : Value) (l : List El) (hv : RowV w v l) (hb : l.length ≤ 1000000000000) : Calls Try.prog 26 #[v] w fun e w' => e = .returned (.bool (risesB l)) ∧ Turn (fun _ => False) w w' := by
  obtain ⟨la, lc, rfl⟩ := hv.form
  obtain ⟨n, hn⟩ : ∃ n, l.length = n := ⟨_, rfl⟩
  rw [hn] at hv hb
  simp only [hn]
  have HV := Lib.hid hv
  have HN := Lib.hid hn
  clear hv hn
  go_enter Try.func26, Try.ntmps26
  go_wp2_with fail
  go_loopw [2, 3] (fun rv iv wr => rv = .bool false ∧ ∃ k : Nat, (k + 1 ≤ n ∨ k = 0) ∧ iv = .int .i64 ((k + 1 : Nat) : Int) ∧ (∀ j, j < k → (l.getD j el0).id < (l.getD (j + 1) el0).id) ∧ Turn (fun _ => False) w wr) (fun _ iv _ => n - (intOf iv).toNat)
  case atStart => exact ⟨rfl, 0, by omega, rfl, fun j hj => by omega, Turn.refl _ _⟩
  case round =>
    obtain ⟨rfl, k, hk, rfl, hall, htr⟩ := hrel
    have HA := Lib.hid hall
    have HTr := Lib.hid htr
    clear hall htr
    by_cases hlt : k + 1 < n
    · obtain ⟨g1, o1, e1, hc1, hs1⟩ := (HV.out.turn HTr.out (fun _ _ => id)).one HN.out k (by omega)
      obtain ⟨g2, o2, e2, hc2, hs2⟩ := (HV.out.turn HTr.out (fun _ _ => id)).one HN.out (k + 1) hlt
      subst e1
      injection e2 with e2
      injection e2 with e2 e3 _
      subst e2 e3
      have hd1 : decide (((k + 1 : Nat) : Int) < (n : Int)) = true := decide_eq_true (by omega)
      have gk : (0 : Int) ≤ (k : Int) ∧ (k : Int) < (n : Int) := by omega
      have gk1 : (0 : Int) ≤ ((k + 1 : Nat) : Int) ∧ ((k + 1 : Nat) : Int) < (n : Int) := by omega
      have hwk : IntKind.i64.wrap (((k + 1 : Nat) : Int) - 1) = (k : Int) := by rw [IntKind.wrap_i64]; omega
      generalize hxe : l.getD k el0 = x at *
      generalize hye : l.getD (k + 1) el0 = y at *
      have HXE := Lib.hid hxe
      have HYE := Lib.hid hye
      have c1 := range0 hs1
      have c2 := range0 hs2
      clear hxe hye hs1 hs2
      generalize hK : k + 1 = K at *
      have HK := Lib.hid hK
      clear hK
      go_wp2_with fail
      refine wp_region_held_drew (S := fun wq => wq.cell? ⟨g1, o1 + k * 10, none⟩ = some (.int .i64 x.id) ∧ wq.cell? ⟨g1, o1 + K * 10, none⟩ = some (.int .i64 y.id)) (by kernel_rfl) ⟨c1, c2⟩ (fun hHeld => ?_)
      refine wpAnyH_take (i := 0) (v := .slice (some ⟨g1, o1, none⟩) n lc) rfl (by kernel_rfl) (by kernel_rfl) (by kernel_rfl) (fun _ _ _ h => h) (Or.inl ⟨by rfl, ?yq10⟩) (by assumption) ?rq10
      case yq10 => (intro wq hSw; (try simp only [List.getElem_toArray, List.getElem_cons_zero, List.getElem_cons_succ]); go_simp; (try with_reducible rfl); all_goals (try omega))
      case rq10 =>
      try simp only [Act.put, List.setIfInBounds_toArray, List.set_cons_zero, List.set_cons_succ, List.getElem_toArray, List.getElem_cons_zero, List.getElem_cons_succ]
      refine wpAnyH_take (i := 1) (v := .int .i64 (K : Int)) rfl (by kernel_rfl) (by kernel_rfl) (by kernel_rfl) (fun _ _ _ h => h) (Or.inl ⟨by rfl, ?yq11⟩) (by assumption) ?rq11
      case yq11 => (intro wq hSw; (try simp only [List.getElem_toArray, List.getElem_cons_zero, List.getElem_cons_succ]); go_simp; (try with_reducible rfl); all_goals (try omega))
      case rq11 =>
      try simp only [Act.put, List.setIfInBounds_toArray, List.set_cons_zero, List.set_cons_succ, List.getElem_toArray, List.getElem_cons_zero, List.getElem_cons_succ]
      refine wpAnyH_take (i := 2) (v := .int .i64 (k : Int)) rfl (by kernel_rfl) (by kernel_rfl) (by kernel_rfl) (fun _ _ _ h => h) (Or.inl ⟨by rfl, ?yq12⟩) (by assumption) ?rq12
      case yq12 => (intro wq hSw; (try simp only [List.getElem_toArray, List.getElem_cons_zero, List.getElem_cons_succ]); go_simp; (try with_reducible rfl); all_goals (try omega))
      case rq12 =>
      try simp only [Act.put, List.setIfInBounds_toArray, List.set_cons_zero, List.set_cons_succ, List.getElem_toArray, List.getElem_cons_zero, List.getElem_cons_succ]
      refine wpAnyH_take (i := 3) (v := .pointer (some ⟨g1, o1 + k * 10, none⟩)) rfl (by kernel_rfl) (by kernel_rfl) (by kernel_rfl) (fun _ _ _ h => h) (Or.inl ⟨by rfl, ?yq13⟩) (by assumption) ?rq13
      case yq13 => (intro wq hSw; (try simp only [List.getElem_toArray, List.getElem_cons_zero, List.getElem_cons_succ]); go_simp; (try with_reducible rfl); all_goals (try omega))
      case rq13 =>
      try simp only [Act.put, List.setIfInBounds_toArray, List.set_cons_zero, List.set_cons_succ, List.getElem_toArray, List.getElem_cons_zero, List.getElem_cons_succ]
      refine wpAnyH_take (i := 4) (v := .pointer (some ⟨g1, o1 + k * 10, none⟩)) rfl (by kernel_rfl) (by kernel_rfl) (by kernel_rfl) (fun _ _ _ h => h) (Or.inl ⟨by rfl, ?yq14⟩) (by assumption) ?rq14
      case yq14 => (intro wq hSw; (try simp only [List.getElem_toArray, List.getElem_cons_zero, List.getElem_cons_succ]); go_simp; (try with_reducible rfl); all_goals (try omega))
      case rq14 =>
      try simp only [Act.put, List.setIfInBounds_toArray, List.set_cons_zero, List.set_cons_succ, List.getElem_toArray, List.getElem_cons_zero, List.getElem_cons_succ]
      refine wpAnyH_take (i := 5) (v := .int .i64 x.id) rfl (by kernel_rfl) (by kernel_rfl) (by kernel_rfl) (fun _ _ _ h => h) (Or.inl ⟨by rfl, ?yq15⟩) (by assumption) ?rq15
      case yq15 => (intro wq hSw; obtain ⟨k1, k2⟩ := hSw; (try simp only [List.getElem_toArray, List.getElem_cons_zero, List.getElem_cons_succ]); go_simp; (try with_reducible rfl); all_goals (try omega))
      case rq15 =>
      try simp only [Act.put, List.setIfInBounds_toArray, List.set_cons_zero, List.set_cons_succ, List.getElem_toArray, List.getElem_cons_zero, List.getElem_cons_succ]
      refine wpAnyH_take (i := 6) (v := .slice (some ⟨g1, o1, none⟩) n lc) rfl (by kernel_rfl) (by kernel_rfl) (by kernel_rfl) (fun _ _ _ h => h) (Or.inl ⟨by rfl, ?yq16⟩) (by assumption) ?rq16
      case yq16 => (intro wq hSw; (try simp only [List.getElem_toArray, List.getElem_cons_zero, List.getElem_cons_succ]); go_simp; (try with_reducible rfl); all_goals (try omega))
      case rq16 =>
      try simp only [Act.put, List.setIfInBounds_toArray, List.set_cons_zero, List.set_cons_succ, List.getElem_toArray, List.getElem_cons_zero, List.getElem_cons_succ]
      refine wpAnyH_take (i := 7) (v := .int .i64 (K : Int)) rfl (by kernel_rfl) (by kernel_rfl) (by kernel_rfl) (fun _ _ _ h => h) (Or.inl ⟨by rfl, ?yq17⟩) (by assumption) ?rq17
      case yq17 => (intro wq hSw; (try simp only [List.getElem_toArray, List.getElem_cons_zero, List.getElem_cons_succ]); go_simp; (try with_reducible rfl); all_goals (try omega))
      case rq17 =>
      try simp only [Act.put, List.setIfInBounds_toArray, List.set_cons_zero, List.set_cons_succ, List.getElem_toArray, List.getElem_cons_zero, List.getElem_cons_succ]
      refine wpAnyH_take (i := 8) (v := .pointer (some ⟨g1, o1 + K * 10, none⟩)) rfl (by kernel_rfl) (by kernel_rfl) (by kernel_rfl) (fun _ _ _ h => h) (Or.inl ⟨by rfl, ?yq18⟩) (by assumption) ?rq18
      case yq18 => (intro wq hSw; (try simp only [List.getElem_toArray, List.getElem_cons_zero, List.getElem_cons_succ]); go_simp; (try with_reducible rfl); all_goals (try omega))
      case rq18 =>
      try simp only [Act.put, List.setIfInBounds_toArray, List.set_cons_zero, List.set_cons_succ, List.getElem_toArray, List.getElem_cons_zero, List.getElem_cons_succ]
      refine wpAnyH_take (i := 9) (v := .pointer (some ⟨g1, o1 + K * 10, none⟩)) rfl (by kernel_rfl) (by kernel_rfl) (by kernel_rfl) (fun _ _ _ h => h) (Or.inl ⟨by rfl, ?yq19⟩) (by assumption) ?rq19
      case yq19 => (intro wq hSw; (try simp only [List.getElem_toArray, List.getElem_cons_zero, List.getElem_cons_succ]); go_simp; (try with_reducible rfl); all_goals (try omega))
      case rq19 =>
      try simp only [Act.put, List.setIfInBounds_toArray, List.set_cons_zero, List.set_cons_succ, List.getElem_toArray, List.getElem_cons_zero, List.getElem_cons_succ]
      refine wpAnyH_take (i := 10) (v := .int .i64 y.id) rfl (by kernel_rfl) (by kernel_rfl) (by kernel_rfl) (fun _ _ _ h => h) (Or.inl ⟨by rfl, ?yq20⟩) (by assumption) ?rq20
      case yq20 => (intro wq hSw; obtain ⟨k1, k2⟩ := hSw; (try simp only [List.getElem_toArray, List.getElem_cons_zero, List.getElem_cons_succ]); go_simp; (try with_reducible rfl); all_goals (try omega))
      case rq20 =>
      try simp only [Act.put, List.setIfInBounds_toArray, List.set_cons_zero, List.set_cons_succ, List.getElem_toArray, List.getElem_cons_zero, List.getElem_cons_succ]
      refine wpAnyH_take (i := 11) (v := .bool (decide (y.id ≤ x.id))) rfl (by kernel_rfl) (by kernel_rfl) (by kernel_rfl) (fun _ _ _ h => h) (Or.inl ⟨by rfl, ?yq21⟩) (by assumption) ?rq21
      case yq21 => (intro wq hSw; (try simp only [List.getElem_toArray, List.getElem_cons_zero, List.getElem_cons_succ]); go_simp; (try with_reducible rfl); all_goals (try omega))
      case rq21 =>
      try simp only [Act.put, List.setIfInBounds_toArray, List.set_cons_zero, List.set_cons_succ, List.getElem_toArray, List.getElem_cons_zero, List.getElem_cons_succ]
      refine wpAnyH_done (by kernel_rfl) ?_ _
      clear hHeld
      by_cases he : x.id < y.id
      · rw [decide_eq_false (show ¬ y.id ≤ x.id by omega)]
        have HE := Lib.hid he
        clear he
        go_wp2_with fail
        go_roundw
        case rel => exact ⟨rfl, K, by omega, by go_num, fun j hj => by
          by_cases e : j = k
          · subst e; rw [HXE.out, HK.out, HYE.out]; exact HE.out
          · exact HA.out j (by have := HK.out; omega), HTr.out.trans ((Turn.refl _ wr).drew) (fun _ _ => id)⟩
        case measure => simp [intOf]; omega
      · rw [decide_eq_true (show y.id ≤ x.id by omega)]
        have HE := Lib.hid he
        clear he
        go_wp2_with fail
        go_ret
        refine ⟨?_, HTr.out.trans ((Turn.refl _ wr).drew) (fun _ _ => id)⟩
        have : risesB l = false := by
          unfold risesB
          rw [List.all_eq_false]
          refine ⟨k, by rw [List.mem_range, HN.out]; have := HK.out; omega, ?_⟩
          rw [HXE.out, HK.out, HYE.out]
          simpa using HE.out
        rw [this]
        rfl
    · have hd1 : decide (((k + 1 : Nat) : Int) < (n : Int)) = false := decide_eq_false (by omega)
      generalize hK : k + 1 = K at *
      have HK := Lib.hid hK
      clear hK
      go_wp2_with fail
      go_ret
      refine ⟨?_, HTr.out⟩
      have : risesB l = true := by
        unfold risesB
        rw [List.all_eq_true]
        intro i hi
        rw [List.mem_range, HN.out] at hi
        exact decide_eq_true (HA.out i (by have := HK.out; omega))
      rw [this]
      rfl

set_option maxHeartbeats 1600000 in
theorem rrises_any (w : World) (v : Value) (l : List El) (hv : RowV w v l) (hb : l.length ≤ 1000000000000) : Calls Try.prog 37 #[v] w fun e w' => e = .returned (.bool (risesB l)) ∧ Turn (fun _ => False) w w' := by
  obtain ⟨la, lc, rfl⟩ := hv.form
  obtain ⟨n, hn⟩ : ∃ n, l.length = n := ⟨_, rfl⟩
  rw [hn] at hv hb
  simp only [hn]
  have HV := Lib.hid hv
  have HN := Lib.hid hn
  clear hv hn
  go_enter Try.func37, Try.ntmps37
  go_wp2_with fail
  go_loopw [2, 3] (fun rv iv wr => rv = .bool false ∧ ∃ k : Nat, (k + 1 ≤ n ∨ k = 0) ∧ iv = .int .i64 ((k + 1 : Nat) : Int) ∧ (∀ j, j < k → (l.getD j el0).id < (l.getD (j + 1) el0).id) ∧ Turn (fun _ => False) w wr) (fun _ iv _ => n - (intOf iv).toNat)
  case atStart => exact ⟨rfl, 0, by omega, rfl, fun j hj => by omega, Turn.refl _ _⟩
  case round =>
    obtain ⟨rfl, k, hk, rfl, hall, htr⟩ := hrel
    have HA := Lib.hid hall
    have HTr := Lib.hid htr
    clear hall htr
    by_cases hlt : k + 1 < n
    · obtain ⟨g1, o1, e1, hc1, hs1⟩ := (HV.out.turn HTr.out (fun _ _ => id)).one HN.out k (by omega)
      obtain ⟨g2, o2, e2, hc2, hs2⟩ := (HV.out.turn HTr.out (fun _ _ => id)).one HN.out (k + 1) hlt
      subst e1
      injection e2 with e2
      injection e2 with e2 e3 _
      subst e2 e3
      have hd1 : decide (((k + 1 : Nat) : Int) < (n : Int)) = true := decide_eq_true (by omega)
      have gk : (0 : Int) ≤ (k : Int) ∧ (k : Int) < (n : Int) := by omega
      have gk1 : (0 : Int) ≤ ((k + 1 : Nat) : Int) ∧ ((k + 1 : Nat) : Int) < (n : Int) := by omega
      have hwk : IntKind.i64.wrap (((k + 1 : Nat) : Int) - 1) = (k : Int) := by rw [IntKind.wrap_i64]; omega
      generalize hxe : l.getD k el0 = x at *
      generalize hye : l.getD (k + 1) el0 = y at *
      have HXE := Lib.hid hxe
      have HYE := Lib.hid hye
      have c1 := range0 hs1
      have c2 := range0 hs2
      clear hxe hye hs1 hs2
      generalize hK : k + 1 = K at *
      have HK := Lib.hid hK
      clear hK
      go_wp2_with fail
      refine wp_region_held_drew (S := fun wq => wq.cell? ⟨g1, o1 + k * 10, none⟩ = some (.int .i64 x.id) ∧ wq.cell? ⟨g1, o1 + K * 10, none⟩ = some (.int .i64 y.id)) (by kernel_rfl) ⟨c1, c2⟩ (fun hHeld => ?_)
      refine wpAnyH_take (i := 0) (v := .slice (some ⟨g1, o1, none⟩) n lc) rfl (by kernel_rfl) (by kernel_rfl) (by kernel_rfl) (fun _ _ _ h => h) (Or.inl ⟨by rfl, ?yq22⟩) (by assumption) ?rq22
      case yq22 => (intro wq hSw; (try simp only [List.getElem_toArray, List.getElem_cons_zero, List.getElem_cons_succ]); go_simp; (try with_reducible rfl); all_goals (try omega))
      case rq22 =>
      try simp only [Act.put, List.setIfInBounds_toArray, List.set_cons_zero, List.set_cons_succ, List.getElem_toArray, List.getElem_cons_zero, List.getElem_cons_succ]
      refine wpAnyH_take (i := 1) (v := .int .i64 (K : Int)) rfl (by kernel_rfl) (by kernel_rfl) (by kernel_rfl) (fun _ _ _ h => h) (Or.inl ⟨by rfl, ?yq23⟩) (by assumption) ?rq23
      case yq23 => (intro wq hSw; (try simp only [List.getElem_toArray, List.getElem_cons_zero, List.getElem_cons_succ]); go_simp; (try with_reducible rfl); all_goals (try omega))
      case rq23 =>
      try simp only [Act.put, List.setIfInBounds_toArray, List.set_cons_zero, List.set_cons_succ, List.getElem_toArray, List.getElem_cons_zero, List.getElem_cons_succ]
      refine wpAnyH_take (i := 2) (v := .int .i64 (k : Int)) rfl (by kernel_rfl) (by kernel_rfl) (by kernel_rfl) (fun _ _ _ h => h) (Or.inl ⟨by rfl, ?yq24⟩) (by assumption) ?rq24
      case yq24 => (intro wq hSw; (try simp only [List.getElem_toArray, List.getElem_cons_zero, List.getElem_cons_succ]); go_simp; (try with_reducible rfl); all_goals (try omega))
      case rq24 =>
      try simp only [Act.put, List.setIfInBounds_toArray, List.set_cons_zero, List.set_cons_succ, List.getElem_toArray, List.getElem_cons_zero, List.getElem_cons_succ]
      refine wpAnyH_take (i := 3) (v := .pointer (some ⟨g1, o1 + k * 10, none⟩)) rfl (by kernel_rfl) (by kernel_rfl) (by kernel_rfl) (fun _ _ _ h => h) (Or.inl ⟨by rfl, ?yq25⟩) (by assumption) ?rq25
      case yq25 => (intro wq hSw; (try simp only [List.getElem_toArray, List.getElem_cons_zero, List.getElem_cons_succ]); go_simp; (try with_reducible rfl); all_goals (try omega))
      case rq25 =>
      try simp only [Act.put, List.setIfInBounds_toArray, List.set_cons_zero, List.set_cons_succ, List.getElem_toArray, List.getElem_cons_zero, List.getElem_cons_succ]
      refine wpAnyH_take (i := 4) (v := .pointer (some ⟨g1, o1 + k * 10, none⟩)) rfl (by kernel_rfl) (by kernel_rfl) (by kernel_rfl) (fun _ _ _ h => h) (Or.inl ⟨by rfl, ?yq26⟩) (by assumption) ?rq26
      case yq26 => (intro wq hSw; (try simp only [List.getElem_toArray, List.getElem_cons_zero, List.getElem_cons_succ]); go_simp; (try with_reducible rfl); all_goals (try omega))
      case rq26 =>
      try simp only [Act.put, List.setIfInBounds_toArray, List.set_cons_zero, List.set_cons_succ, List.getElem_toArray, List.getElem_cons_zero, List.getElem_cons_succ]
      refine wpAnyH_take (i := 5) (v := .int .i64 x.id) rfl (by kernel_rfl) (by kernel_rfl) (by kernel_rfl) (fun _ _ _ h => h) (Or.inl ⟨by rfl, ?yq27⟩) (by assumption) ?rq27
      case yq27 => (intro wq hSw; obtain ⟨k1, k2⟩ := hSw; (try simp only [List.getElem_toArray, List.getElem_cons_zero, List.getElem_cons_succ]); go_simp; (try with_reducible rfl); all_goals (try omega))
      case rq27 =>
      try simp only [Act.put, List.setIfInBounds_toArray, List.set_cons_zero, List.set_cons_succ, List.getElem_toArray, List.getElem_cons_zero, List.getElem_cons_succ]
      refine wpAnyH_take (i := 6) (v := .slice (some ⟨g1, o1, none⟩) n lc) rfl (by kernel_rfl) (by kernel_rfl) (by kernel_rfl) (fun _ _ _ h => h) (Or.inl ⟨by rfl, ?yq28⟩) (by assumption) ?rq28
      case yq28 => (intro wq hSw; (try simp only [List.getElem_toArray, List.getElem_cons_zero, List.getElem_cons_succ]); go_simp; (try with_reducible rfl); all_goals (try omega))
      case rq28 =>
      try simp only [Act.put, List.setIfInBounds_toArray, List.set_cons_zero, List.set_cons_succ, List.getElem_toArray, List.getElem_cons_zero, List.getElem_cons_succ]
      refine wpAnyH_take (i := 7) (v := .int .i64 (K : Int)) rfl (by kernel_rfl) (by kernel_rfl) (by kernel_rfl) (fun _ _ _ h => h) (Or.inl ⟨by rfl, ?yq29⟩) (by assumption) ?rq29
      case yq29 => (intro wq hSw; (try simp only [List.getElem_toArray, List.getElem_cons_zero, List.getElem_cons_succ]); go_simp; (try with_reducible rfl); all_goals (try omega))
      case rq29 =>
      try simp only [Act.put, List.setIfInBounds_toArray, List.set_cons_zero, List.set_cons_succ, List.getElem_toArray, List.getElem_cons_zero, List.getElem_cons_succ]
      refine wpAnyH_take (i := 8) (v := .pointer (some ⟨g1, o1 + K * 10, none⟩)) rfl (by kernel_rfl) (by kernel_rfl) (by kernel_rfl) (fun _ _ _ h => h) (Or.inl ⟨by rfl, ?yq30⟩) (by assumption) ?rq30
      case yq30 => (intro wq hSw; (try simp only [List.getElem_toArray, List.getElem_cons_zero, List.getElem_cons_succ]); go_simp; (try with_reducible rfl); all_goals (try omega))
      case rq30 =>
      try simp only [Act.put, List.setIfInBounds_toArray, List.set_cons_zero, List.set_cons_succ, List.getElem_toArray, List.getElem_cons_zero, List.getElem_cons_succ]
      refine wpAnyH_take (i := 9) (v := .pointer (some ⟨g1, o1 + K * 10, none⟩)) rfl (by kernel_rfl) (by kernel_rfl) (by kernel_rfl) (fun _ _ _ h => h) (Or.inl ⟨by rfl, ?yq31⟩) (by assumption) ?rq31
      case yq31 => (intro wq hSw; (try simp only [List.getElem_toArray, List.getElem_cons_zero, List.getElem_cons_succ]); go_simp; (try with_reducible rfl); all_goals (try omega))
      case rq31 =>
      try simp only [Act.put, List.setIfInBounds_toArray, List.set_cons_zero, List.set_cons_succ, List.getElem_toArray, List.getElem_cons_zero, List.getElem_cons_succ]
      refine wpAnyH_take (i := 10) (v := .int .i64 y.id) rfl (by kernel_rfl) (by kernel_rfl) (by kernel_rfl) (fun _ _ _ h => h) (Or.inl ⟨by rfl, ?yq32⟩) (by assumption) ?rq32
      case yq32 => (intro wq hSw; obtain ⟨k1, k2⟩ := hSw; (try simp only [List.getElem_toArray, List.getElem_cons_zero, List.getElem_cons_succ]); go_simp; (try with_reducible rfl); all_goals (try omega))
      case rq32 =>
      try simp only [Act.put, List.setIfInBounds_toArray, List.set_cons_zero, List.set_cons_succ, List.getElem_toArray, List.getElem_cons_zero, List.getElem_cons_succ]
      refine wpAnyH_take (i := 11) (v := .bool (decide (y.id ≤ x.id))) rfl (by kernel_rfl) (by kernel_rfl) (by kernel_rfl) (fun _ _ _ h => h) (Or.inl ⟨by rfl, ?yq33⟩) (by assumption) ?rq33
      case yq33 => (intro wq hSw; (try simp only [List.getElem_toArray, List.getElem_cons_zero, List.getElem_cons_succ]); go_simp; (try with_reducible rfl); all_goals (try omega))
      case rq33 =>
      try simp only [Act.put, List.setIfInBounds_toArray, List.set_cons_zero, List.set_cons_succ, List.getElem_toArray, List.getElem_cons_zero, List.getElem_cons_succ]
      refine wpAnyH_done (by kernel_rfl) ?_ _
      clear hHeld
      by_cases he : x.id < y.id
      · rw [decide_eq_false (show ¬ y.id ≤ x.id by omega)]
        have HE := Lib.hid he
        clear he
        go_wp2_with fail
        go_roundw
        case rel => exact ⟨rfl, K, by omega, by go_num, fun j hj => by
          by_cases e : j = k
          · subst e; rw [HXE.out, HK.out, HYE.out]; exact HE.out
          · exact HA.out j (by have := HK.out; omega), HTr.out.trans ((Turn.refl _ wr).drew) (fun _ _ => id)⟩
        case measure => simp [intOf]; omega
      · rw [decide_eq_true (show y.id ≤ x.id by omega)]
        have HE := Lib.hid he
        clear he
        go_wp2_with fail
        go_ret
        refine ⟨?_, HTr.out.trans ((Turn.refl _ wr).drew) (fun _ _ => id)⟩
        have : risesB l = false := by
          unfold risesB
          rw [List.all_eq_false]
          refine ⟨k, by rw [List.mem_range, HN.out]; have := HK.out; omega, ?_⟩
          rw [HXE.out, HK.out, HYE.out]
          simpa using HE.out
        rw [this]
        rfl
    · have hd1 : decide (((k + 1 : Nat) : Int) < (n : Int)) = false := decide_eq_false (by omega)
      generalize hK : k + 1 = K at *
      have HK := Lib.hid hK
      clear hK
      go_wp2_with fail
      go_ret
      refine ⟨?_, HTr.out⟩
      have : risesB l = true := by
        unfold risesB
        rw [List.all_eq_true]
        intro i hi
        rw [List.mem_range, HN.out] at hi
        exact decide_eq_true (HA.out i (by have := HK.out; omega))
      rw [this]
      rfl
end Go.Proofs.Ytkciaafkhpjnaaa
namespace Go.Proofs.Ytkciaafkhpjnaaa
set_option maxRecDepth 100000
open Go.RowKit
set_option linter.unusedVariables false
set_option linter.unusedSimpArgs false


theorem Turn.cells_at {w w' : World} (t : Turn (fun _ => False) w w') {p : Addr} {v : Value} (h : w.cell? p = some v) : w'.cell? p = some v := (t.cell (World.block_lt_of_cell? w _ h) id).trans h
def doneB (l : List El) (e : El) : Bool := l.any fun x => decide (e.id ≤ x.id)
/-- What is laid of a chart, with an element in its place. -/
def outP (l : List El) (e : El) : List El := l.filter (fun x => decide (x.id < e.id)) ++ (if doneB l e = true then [e] else []) ++ l.filter (fun x => decide (e.id < x.id))
theorem doneB_false {l : List El} {e : El} (h : doneB l e = false) : ∀ x ∈ l, x.id < e.id := fun x hx => by
  have := (List.any_eq_false.1 h) x hx
  simp only [decide_eq_true_eq] at this
  omega
theorem filter_none {l : List El} {p : El → Bool} (h : ∀ x ∈ l, p x = false) : l.filter p = [] := by
  rw [List.filter_eq_nil_iff]
  intro x hx
  simp [h x hx]
theorem outP_low {l : List El} {e : El} (h : ∀ x ∈ l, x.id < e.id) : doneB l e = false ∧ outP l e = l := by
  have h1 : doneB l e = false := by
    unfold doneB
    rw [List.any_eq_false]
    intro x hx
    have := h x hx
    simp only [decide_eq_true_eq]; omega
  refine ⟨h1, ?_⟩
  unfold outP
  rw [h1, filter_none (p := fun x => decide (e.id < x.id)) (fun x hx => by have := h x hx; simp only [decide_eq_false_iff_not]; omega), List.filter_eq_self.2 (fun x hx => by simpa using h x hx)]
  simp
theorem below_at {l : List El} (hr : Rises l) {k : Nat} (hk : k < l.length) : ∀ x ∈ l.take k, x.id < (l.getD k el0).id := fun x hx => by
  obtain ⟨j, h1, h2, rfl⟩ := mem_take_at hx
  exact hr.get h1 hk
theorem outP_D {l : List El} (hr : Rises l) {k : Nat} (hk : k < l.length) {e : El} (h : (l.getD k el0).id < e.id) : doneB (l.take k) e = false ∧ doneB (l.take (k + 1)) e = false ∧ outP (l.take (k + 1)) e = outP (l.take k) e ++ [l.getD k el0] := by
  have h1 := below_at hr hk
  have h2 : ∀ x ∈ l.take (k + 1), x.id < e.id := by
    rw [take_snoc l k hk]
    intro x hx
    rcases List.mem_append.1 hx with hx | hx
    · have := h1 x hx; omega
    · rw [List.mem_singleton.1 hx]; exact h
  have h3 := outP_low (fun x hx => (show x.id < e.id by have := h1 x hx; omega) : ∀ x ∈ l.take k, x.id < e.id)
  have h4 := outP_low h2
  exact ⟨h3.1, h4.1, by rw [h4.2, h3.2, take_snoc l k hk]⟩
theorem outP_B {l : List El} (hr : Rises l) {k : Nat} (hk : k < l.length) {e : El} (h : (l.getD k el0).id = e.id) : doneB (l.take k) e = false ∧ doneB (l.take (k + 1)) e = true ∧ outP (l.take (k + 1)) e = outP (l.take k) e ++ [e] := by
  have h1 := below_at hr hk
  have h2 : ∀ x ∈ l.take k, x.id < e.id := fun x hx => by have := h1 x hx; omega
  have h3 := outP_low h2
  have h4 : doneB (l.take (k + 1)) e = true := by
    unfold doneB
    rw [take_snoc l k hk, List.any_append]
    simp only [List.any_cons, List.any_nil, Bool.or_false]
    rw [decide_eq_true (show e.id ≤ (l.getD k el0).id by omega), Bool.or_true]
  refine ⟨h3.1, h4, ?_⟩
  rw [h3.2]
  have f1 : ([l.getD k el0] : List El).filter (fun x => decide (x.id < e.id)) = [] := filter_none (fun x hx => by rw [List.mem_singleton.1 hx]; simp only [decide_eq_false_iff_not]; omega)
  have f2 : ([l.getD k el0] : List El).filter (fun x => decide (e.id < x.id)) = [] := filter_none (fun x hx => by rw [List.mem_singleton.1 hx]; simp only [decide_eq_false_iff_not]; omega)
  unfold outP
  rw [h4, take_snoc l k hk, List.filter_append, List.filter_append, List.filter_eq_self.2 (fun x hx => by simpa using h2 x hx), filter_none (p := fun x => decide (e.id < x.id)) (fun x hx => by have := h2 x hx; simp only [decide_eq_false_iff_not]; omega), f1, f2]
  simp
theorem outP_C {l : List El} {k : Nat} (hk : k < l.length) {e : El} (h : e.id < (l.getD k el0).id) : doneB (l.take (k + 1)) e = true ∧ outP (l.take (k + 1)) e = (if doneB (l.take k) e = true then outP (l.take k) e else outP (l.take k) e ++ [e]) ++ [l.getD k el0] := by
  have h4 : doneB (l.take (k + 1)) e = true := by
    unfold doneB
    rw [take_snoc l k hk, List.any_append]
    simp only [List.any_cons, List.any_nil, Bool.or_false]
    rw [decide_eq_true (show e.id ≤ (l.getD k el0).id by omega), Bool.or_true]
  refine ⟨h4, ?_⟩
  have f1 : ([l.getD k el0] : List El).filter (fun x => decide (x.id < e.id)) = [] := filter_none (fun x hx => by rw [List.mem_singleton.1 hx]; simp only [decide_eq_false_iff_not]; omega)
  have f2 : ([l.getD k el0] : List El).filter (fun x => decide (e.id < x.id)) = [l.getD k el0] := List.filter_eq_self.2 (fun x hx => by rw [List.mem_singleton.1 hx]; simpa using h)
  cases hd : doneB (l.take k) e
  · rw [if_neg (by simp)]
    have h2 := doneB_false hd
    rw [(outP_low h2).2]
    unfold outP
    rw [h4, take_snoc l k hk, List.filter_append, List.filter_append, f1, f2, List.filter_eq_self.2 (fun x hx => by simpa using h2 x hx), filter_none (p := fun x => decide (e.id < x.id)) (fun x hx => by have := h2 x hx; simp only [decide_eq_false_iff_not]; omega)]
    simp
  · rw [if_pos rfl]
    unfold outP
    rw [h4, hd, take_snoc l k hk, List.filter_append, List.filter_append, f1, f2]
    simp
theorem done_above {l : List El} (hr : Rises l) {k : Nat} (hk : k < l.length) {e : El} (h : doneB (l.take k) e = true) : e.id < (l.getD k el0).id := by
  unfold doneB at h
  rw [List.any_eq_true] at h
  obtain ⟨x, hx, hd⟩ := h
  have := below_at hr hk x hx
  have := of_decide_eq_true hd
  omega
theorem outP_end {l : List El} {e : El} : putE l e = if doneB l e = true then outP l e else outP l e ++ [e] := by
  cases hd : doneB l e
  · rw [if_neg (by simp)]
    have h2 := doneB_false hd
    rw [(outP_low h2).2]
    unfold putE
    rw [List.filter_eq_self.2 (fun x hx => by simpa using h2 x hx), filter_none (p := fun x => decide (e.id < x.id)) (fun x hx => by have := h2 x hx; simp only [decide_eq_false_iff_not]; omega)]
  · rw [if_pos rfl]
    unfold putE outP
    rw [hd]
    simp
theorem outP_len (l : List El) (e : El) : (outP l e).length ≤ 2 * l.length + 1 := by
  unfold outP
  have h1 := List.length_filter_le (fun x : El => decide (x.id < e.id)) l
  have h2 := List.length_filter_le (fun x : El => decide (e.id < x.id)) l
  simp only [List.length_append]
  split <;> simp <;> omega

set_option maxHeartbeats 4000000 in
theorem rput_any (w : World) (v : Value) (l : List El) (e : El) (hv : RowV w v l) (hr : Rises l) (hb : l.length ≤ 1000) : Calls Try.prog 15 #[v, .agg e.vals.toArray] w (NewEls w (putE l e)) := by
  obtain ⟨la, lc, rfl⟩ := hv.form
  obtain ⟨n, hn⟩ : ∃ n, l.length = n := ⟨_, rfl⟩
  rw [hn] at hv hb
  simp only [hn]
  have hbx := box_alloc w 38 e.vals
  obtain ⟨w1, hw1⟩ : ∃ w1, w.alloc (.cells e.vals.toArray 38) = w1 := ⟨_, rfl⟩
  rw [hw1] at hbx
  have HB := Lib.hid hbx
  have HV := Lib.hid (hv.turn hbx.turn (fun _ _ => id))
  have HN := Lib.hid hn
  have HR := Lib.hid hr
  have HE0 := Lib.hid (hbx.cell 0 _ e.v0)
  clear hbx hv hn hr
  obtain ⟨X, hX⟩ : ∃ X, w.heap.size = X := ⟨_, rfl⟩
  rw [hX] at HE0
  have HRX : Hid (w1.rangeAt X 0 e.vals) := hX ▸ HB.out.range
  have HXX := Lib.hid hX
  go_enter Try.func15, Try.ntmps15
  go_wp2_with fail
  try rw [hw1]
  try rw [hX]
  clear hw1 hX
  go_loopw [5, 6, 7] (fun sv dv iv wr => ∃ k : Nat, k ≤ n ∧ iv = .int .i64 (k : Int) ∧ dv = .bool (doneB (l.take k) e) ∧ wr.ownsRow w1.heap.size 38 10 sv (outP (l.take k) e).length (elsV (outP (l.take k) e)) ∧ Turn (fun _ => False) w1 wr) (fun _ _ iv _ => n - (intOf iv).toNat)
  case atStart => exact ⟨0, Nat.zero_le _, rfl, rfl, World.ownsRow_nil _ _ _ _, Turn.refl _ _⟩
  case round =>
    obtain ⟨k, hk, rfl, rfl, ho, htr⟩ := hrel
    have HO := Lib.hid ho
    have HT := Lib.hid htr
    clear ho htr
    by_cases hlt : k < n
    · have hkl : k < l.length := by rw [HN.out]; exact hlt
      have HD := fun h => outP_D HR.out hkl (e := e) h
      have HBB := fun h => outP_B HR.out hkl (e := e) h
      have HC := fun h => outP_C hkl (e := e) h
      have HA := fun h => done_above HR.out hkl (e := e) h
      have hD := Lib.hid HD
      have hBB := Lib.hid HBB
      have hC := Lib.hid HC
      have hA := Lib.hid HA
      clear HD HBB HC HA hkl
      obtain ⟨g, o, hla, hc, hs1⟩ := (HV.out.turn HT.out (fun _ _ => id)).one HN.out k hlt
      subst hla
      have gi : (0 : Int) ≤ (k : Int) ∧ (k : Int) < (n : Int) := by omega
      generalize hx : l.getD k el0 = x at *
      have HX := Lib.hid hx
      have c1 := range0 hs1
      have c2 := HT.out.cells_at HE0.out
      have HS1 := Lib.hid hs1
      clear hx hs1
      go_wp2_with fail
      cases hdn : doneB (l.take k) e
      · have HDN := Lib.hid hdn
        clear hdn
        refine wp_region_held_drew (S := fun wq => wq.cell? ⟨g, o + k * 10, none⟩ = some (.int .i64 x.id) ∧ wq.cell? ⟨X, 0, none⟩ = some (.int .i64 e.id)) (by kernel_rfl) ⟨c1, c2⟩ (fun hHeld => ?_)
        refine wpAnyH_take (i := 0) (v := .bool false) rfl (by kernel_rfl) (by kernel_rfl) (by kernel_rfl) (fun _ _ _ h => h) (Or.inl ⟨by rfl, ?yq1⟩) (by assumption) ?rq1
        case yq1 => (intro wq hSw; (try simp only [List.getElem_toArray, List.getElem_cons_zero, List.getElem_cons_succ]); go_simp; (try with_reducible rfl); all_goals (try omega))
        case rq1 =>
        try simp only [Act.put, List.setIfInBounds_toArray, List.set_cons_zero, List.set_cons_succ, List.getElem_toArray, List.getElem_cons_zero, List.getElem_cons_succ]
        refine wpAnyH_take (i := 1) (v := .bool true) rfl (by kernel_rfl) (by kernel_rfl) (by kernel_rfl) (fun _ _ _ h => h) (Or.inl ⟨by rfl, ?yq2⟩) (by assumption) ?rq2
        case yq2 => (intro wq hSw; (try simp only [List.getElem_toArray, List.getElem_cons_zero, List.getElem_cons_succ]); go_simp; (try with_reducible rfl); all_goals (try omega))
        case rq2 =>
        try simp only [Act.put, List.setIfInBounds_toArray, List.set_cons_zero, List.set_cons_succ, List.getElem_toArray, List.getElem_cons_zero, List.getElem_cons_succ]
        refine wpAnyH_take (i := 2) (v := .bool true) rfl (by kernel_rfl) (by kernel_rfl) (by kernel_rfl) (fun _ _ _ h => h) (Or.inl ⟨by rfl, ?yq3⟩) (by assumption) ?rq3
        case yq3 => (intro wq hSw; (try simp only [List.getElem_toArray, List.getElem_cons_zero, List.getElem_cons_succ]); go_simp; (try with_reducible rfl); all_goals (try omega))
        case rq3 =>
        try simp only [Act.put, List.setIfInBounds_toArray, List.set_cons_zero, List.set_cons_succ, List.getElem_toArray, List.getElem_cons_zero, List.getElem_cons_succ]
        refine wpAnyH_take (i := 3) (v := .slice (some ⟨g, o, none⟩) n lc) rfl (by kernel_rfl) (by kernel_rfl) (by kernel_rfl) (fun _ _ _ h => h) (Or.inl ⟨by rfl, ?yq4⟩) (by assumption) ?rq4
        case yq4 => (intro wq hSw; (try simp only [List.getElem_toArray, List.getElem_cons_zero, List.getElem_cons_succ]); go_simp; (try with_reducible rfl); all_goals (try omega))
        case rq4 =>
        try simp only [Act.put, List.setIfInBounds_toArray, List.set_cons_zero, List.set_cons_succ, List.getElem_toArray, List.getElem_cons_zero, List.getElem_cons_succ]
        refine wpAnyH_take (i := 4) (v := .int .i64 (k : Int)) rfl (by kernel_rfl) (by kernel_rfl) (by kernel_rfl) (fun _ _ _ h => h) (Or.inl ⟨by rfl, ?yq5⟩) (by assumption) ?rq5
        case yq5 => (intro wq hSw; (try simp only [List.getElem_toArray, List.getElem_cons_zero, List.getElem_cons_succ]); go_simp; (try with_reducible rfl); all_goals (try omega))
        case rq5 =>
        try simp only [Act.put, List.setIfInBounds_toArray, List.set_cons_zero, List.set_cons_succ, List.getElem_toArray, List.getElem_cons_zero, List.getElem_cons_succ]
        refine wpAnyH_take (i := 5) (v := .pointer (some ⟨g, o + k * 10, none⟩)) rfl (by kernel_rfl) (by kernel_rfl) (by kernel_rfl) (fun _ _ _ h => h) (Or.inl ⟨by rfl, ?yq6⟩) (by assumption) ?rq6
        case yq6 => (intro wq hSw; (try simp only [List.getElem_toArray, List.getElem_cons_zero, List.getElem_cons_succ]); go_simp; (try with_reducible rfl); all_goals (try omega))
        case rq6 =>
        try simp only [Act.put, List.setIfInBounds_toArray, List.set_cons_zero, List.set_cons_succ, List.getElem_toArray, List.getElem_cons_zero, List.getElem_cons_succ]
        refine wpAnyH_take (i := 6) (v := .pointer (some ⟨g, o + k * 10, none⟩)) rfl (by kernel_rfl) (by kernel_rfl) (by kernel_rfl) (fun _ _ _ h => h) (Or.inl ⟨by rfl, ?yq7⟩) (by assumption) ?rq7
        case yq7 => (intro wq hSw; (try simp only [List.getElem_toArray, List.getElem_cons_zero, List.getElem_cons_succ]); go_simp; (try with_reducible rfl); all_goals (try omega))
        case rq7 =>
        try simp only [Act.put, List.setIfInBounds_toArray, List.set_cons_zero, List.set_cons_succ, List.getElem_toArray, List.getElem_cons_zero, List.getElem_cons_succ]
        refine wpAnyH_take (i := 7) (v := .int .i64 x.id) rfl (by kernel_rfl) (by kernel_rfl) (by kernel_rfl) (fun _ _ _ h => h) (Or.inl ⟨by rfl, ?yq8⟩) (by assumption) ?rq8
        case yq8 => (intro wq hSw; obtain ⟨k1, k2⟩ := hSw; (try simp only [List.getElem_toArray, List.getElem_cons_zero, List.getElem_cons_succ]); go_simp; (try with_reducible rfl); all_goals (try omega))
        case rq8 =>
        try simp only [Act.put, List.setIfInBounds_toArray, List.set_cons_zero, List.set_cons_succ, List.getElem_toArray, List.getElem_cons_zero, List.getElem_cons_succ]
        refine wpAnyH_take (i := 8) (v := .pointer (some ⟨X, 0, none⟩)) rfl (by kernel_rfl) (by kernel_rfl) (by kernel_rfl) (fun _ _ _ h => h) (Or.inl ⟨by rfl, ?yq9⟩) (by assumption) ?rq9
        case yq9 => (intro wq hSw; (try simp only [List.getElem_toArray, List.getElem_cons_zero, List.getElem_cons_succ]); go_simp; (try with_reducible rfl); all_goals (try omega))
        case rq9 =>
        try simp only [Act.put, List.setIfInBounds_toArray, List.set_cons_zero, List.set_cons_succ, List.getElem_toArray, List.getElem_cons_zero, List.getElem_cons_succ]
        refine wpAnyH_take (i := 9) (v := .int .i64 e.id) rfl (by kernel_rfl) (by kernel_rfl) (by kernel_rfl) (fun _ _ _ h => h) (Or.inl ⟨by rfl, ?yq10⟩) (by assumption) ?rq10
        case yq10 => (intro wq hSw; obtain ⟨k1, k2⟩ := hSw; (try simp only [List.getElem_toArray, List.getElem_cons_zero, List.getElem_cons_succ]); go_simp; (try with_reducible rfl); all_goals (try omega))
        case rq10 =>
        try simp only [Act.put, List.setIfInBounds_toArray, List.set_cons_zero, List.set_cons_succ, List.getElem_toArray, List.getElem_cons_zero, List.getElem_cons_succ]
        refine wpAnyH_take (i := 10) (v := .bool (decide (e.id ≤ x.id))) rfl (by kernel_rfl) (by kernel_rfl) (by kernel_rfl) (fun _ _ _ h => h) (Or.inl ⟨by rfl, ?yq11⟩) (by assumption) ?rq11
        case yq11 => (intro wq hSw; (try simp only [List.getElem_toArray, List.getElem_cons_zero, List.getElem_cons_succ]); go_simp; (try with_reducible rfl); all_goals (try omega))
        case rq11 =>
        try simp only [Act.put, List.setIfInBounds_toArray, List.set_cons_zero, List.set_cons_succ, List.getElem_toArray, List.getElem_cons_zero, List.getElem_cons_succ]
        refine wpAnyH_take (i := 11) (v := .bool (decide (e.id ≤ x.id))) rfl (by kernel_rfl) (by kernel_rfl) (by kernel_rfl) (fun _ _ _ h => h) (Or.inl ⟨by rfl, ?yq12⟩) (by assumption) ?rq12
        case yq12 => (intro wq hSw; (try simp only [List.getElem_toArray, List.getElem_cons_zero, List.getElem_cons_succ]); go_simp; (try with_reducible rfl); all_goals (try omega))
        case rq12 =>
        try simp only [Act.put, List.setIfInBounds_toArray, List.set_cons_zero, List.set_cons_succ, List.getElem_toArray, List.getElem_cons_zero, List.getElem_cons_succ]
        refine wpAnyH_done (by kernel_rfl) ?_ _
        clear hHeld
        have HOd := Lib.hid (own_rows_turn HO.out ((Turn.refl (fun _ => False) wr).drew) (fun _ _ => id))
        have HTd := Lib.hid (HT.out.drew)
        obtain ⟨wd, hwd⟩ : ∃ wd, wr.drew = wd := ⟨_, rfl⟩
        rw [hwd] at HOd HTd ⊢
        clear hwd
        by_cases hge : e.id ≤ x.id
        · rw [decide_eq_true hge]
          by_cases heq : x.id = e.id
          · go_wp2_with (with_reducible (show wpList _ _ _ (Oper.mk (some 27) (.load 38 (.tmp 3)) _ _ _ _ :: _) _ _); refine still ?_)
            refine wpList_load_mid rfl 38 (.tmp 3) rfl X 0 rfl e.vals _ (rangeAt_turn HRX.out HTd.out id) Try.underlying38 rfl el_info ?_
            obtain ⟨va, wa, hra, hoa, tta, aa, ca, hva⟩ := app_one wd w1.heap.size 25 25 Try.underlying25 _ (outP (l.take k) e) e HOd.out HTd.out.size (by have := outP_len (l.take k) e; have : (l.take k).length ≤ k := List.length_take_le _ _; (try simp only [List.length_append, List.length_cons, List.length_nil]); omega)
            have HRa := Lib.hid hra
            have HOa := Lib.hid hoa
            have HTa := Lib.hid (turn_on HOd.out (Nat.le_refl _) HTd.out tta)
            clear hra hoa tta hva
            go_wp2_with (with_reducible (show wpList _ _ _ (Oper.mk (some 28) _ _ _ _ _ :: _) _ _); refine still ?_)
            refine list_exec rfl _ _ (exec_build_one _ _ (.tmp 27) 25 Try.underlying25 rfl e rfl _) ?_
            go_wp2_with (with_reducible (show wpList _ _ _ (Oper.mk (some 29) _ _ _ _ _ :: _) _ _); refine still ?_)
            refine list_exec rfl _ _ (exec_append _ _ (.tmp 26) (.tmp 28) 25 rfl _ _ _ _ _ rfl rfl HRa.out) ?_
            have d1 := HTa.out.cells_at HE0.out
            have HS2 := Lib.hid (show wa.rangeAt g (o + k * 10) x.vals from by
              obtain ⟨g', o', h1, _, h3⟩ := (HV.out.turn HTa.out (fun _ _ => id)).one HN.out k hlt
              injection h1 with h1
              injection h1 with h1 h2 _
              subst h1 h2
              rwa [HX.out] at h3)
            have d2 := range0 HS2.out
            go_wp2_with fail
            refine wp_region_held_drew (S := fun wq => wq.cell? ⟨g, o + k * 10, none⟩ = some (.int .i64 x.id) ∧ wq.cell? ⟨X, 0, none⟩ = some (.int .i64 e.id)) (by kernel_rfl) ⟨d2, d1⟩ (fun hHeld => ?_)
            refine wpAnyH_take (i := 0) (v := .slice (some ⟨g, o, none⟩) n lc) rfl (by kernel_rfl) (by kernel_rfl) (by kernel_rfl) (fun _ _ _ h => h) (Or.inl ⟨by rfl, ?yq13⟩) (by assumption) ?rq13
            case yq13 => (intro wq hSw; (try simp only [List.getElem_toArray, List.getElem_cons_zero, List.getElem_cons_succ]); go_simp; (try with_reducible rfl); all_goals (try omega))
            case rq13 =>
            try simp only [Act.put, List.setIfInBounds_toArray, List.set_cons_zero, List.set_cons_succ, List.getElem_toArray, List.getElem_cons_zero, List.getElem_cons_succ]
            refine wpAnyH_take (i := 1) (v := .int .i64 (k : Int)) rfl (by kernel_rfl) (by kernel_rfl) (by kernel_rfl) (fun _ _ _ h => h) (Or.inl ⟨by rfl, ?yq14⟩) (by assumption) ?rq14
            case yq14 => (intro wq hSw; (try simp only [List.getElem_toArray, List.getElem_cons_zero, List.getElem_cons_succ]); go_simp; (try with_reducible rfl); all_goals (try omega))
            case rq14 =>
            try simp only [Act.put, List.setIfInBounds_toArray, List.set_cons_zero, List.set_cons_succ, List.getElem_toArray, List.getElem_cons_zero, List.getElem_cons_succ]
            refine wpAnyH_take (i := 2) (v := .pointer (some ⟨g, o + k * 10, none⟩)) rfl (by kernel_rfl) (by kernel_rfl) (by kernel_rfl) (fun _ _ _ h => h) (Or.inl ⟨by rfl, ?yq15⟩) (by assumption) ?rq15
            case yq15 => (intro wq hSw; (try simp only [List.getElem_toArray, List.getElem_cons_zero, List.getElem_cons_succ]); go_simp; (try with_reducible rfl); all_goals (try omega))
            case rq15 =>
            try simp only [Act.put, List.setIfInBounds_toArray, List.set_cons_zero, List.set_cons_succ, List.getElem_toArray, List.getElem_cons_zero, List.getElem_cons_succ]
            refine wpAnyH_take (i := 3) (v := .pointer (some ⟨g, o + k * 10, none⟩)) rfl (by kernel_rfl) (by kernel_rfl) (by kernel_rfl) (fun _ _ _ h => h) (Or.inl ⟨by rfl, ?yq16⟩) (by assumption) ?rq16
            case yq16 => (intro wq hSw; (try simp only [List.getElem_toArray, List.getElem_cons_zero, List.getElem_cons_succ]); go_simp; (try with_reducible rfl); all_goals (try omega))
            case rq16 =>
            try simp only [Act.put, List.setIfInBounds_toArray, List.set_cons_zero, List.set_cons_succ, List.getElem_toArray, List.getElem_cons_zero, List.getElem_cons_succ]
            refine wpAnyH_take (i := 4) (v := .int .i64 x.id) rfl (by kernel_rfl) (by kernel_rfl) (by kernel_rfl) (fun _ _ _ h => h) (Or.inl ⟨by rfl, ?yq17⟩) (by assumption) ?rq17
            case yq17 => (intro wq hSw; obtain ⟨k1, k2⟩ := hSw; (try simp only [List.getElem_toArray, List.getElem_cons_zero, List.getElem_cons_succ]); go_simp; (try with_reducible rfl); all_goals (try omega))
            case rq17 =>
            try simp only [Act.put, List.setIfInBounds_toArray, List.set_cons_zero, List.set_cons_succ, List.getElem_toArray, List.getElem_cons_zero, List.getElem_cons_succ]
            refine wpAnyH_take (i := 5) (v := .pointer (some ⟨X, 0, none⟩)) rfl (by kernel_rfl) (by kernel_rfl) (by kernel_rfl) (fun _ _ _ h => h) (Or.inl ⟨by rfl, ?yq18⟩) (by assumption) ?rq18
            case yq18 => (intro wq hSw; (try simp only [List.getElem_toArray, List.getElem_cons_zero, List.getElem_cons_succ]); go_simp; (try with_reducible rfl); all_goals (try omega))
            case rq18 =>
            try simp only [Act.put, List.setIfInBounds_toArray, List.set_cons_zero, List.set_cons_succ, List.getElem_toArray, List.getElem_cons_zero, List.getElem_cons_succ]
            refine wpAnyH_take (i := 6) (v := .int .i64 e.id) rfl (by kernel_rfl) (by kernel_rfl) (by kernel_rfl) (fun _ _ _ h => h) (Or.inl ⟨by rfl, ?yq19⟩) (by assumption) ?rq19
            case yq19 => (intro wq hSw; obtain ⟨k1, k2⟩ := hSw; (try simp only [List.getElem_toArray, List.getElem_cons_zero, List.getElem_cons_succ]); go_simp; (try with_reducible rfl); all_goals (try omega))
            case rq19 =>
            try simp only [Act.put, List.setIfInBounds_toArray, List.set_cons_zero, List.set_cons_succ, List.getElem_toArray, List.getElem_cons_zero, List.getElem_cons_succ]
            refine wpAnyH_take (i := 7) (v := .bool (x.id != e.id)) rfl (by kernel_rfl) (by kernel_rfl) (by kernel_rfl) (fun _ _ _ h => h) (Or.inl ⟨by rfl, ?yq20⟩) (by assumption) ?rq20
            case yq20 => (intro wq hSw; (try simp only [List.getElem_toArray, List.getElem_cons_zero, List.getElem_cons_succ]); go_simp; (try with_reducible rfl); all_goals (try omega))
            case rq20 =>
            try simp only [Act.put, List.setIfInBounds_toArray, List.set_cons_zero, List.set_cons_succ, List.getElem_toArray, List.getElem_cons_zero, List.getElem_cons_succ]
            refine wpAnyH_done (by kernel_rfl) ?_ _
            clear hHeld d1 d2
            rw [show (x.id != e.id) = false by simp; omega]
            have HOb := Lib.hid (own_rows_turn HOa.out ((Turn.refl (fun _ => False) wa).drew) (fun _ _ => id))
            have HTb := Lib.hid (HTa.out.drew)
            obtain ⟨wb, hwb⟩ : ∃ wb, wa.drew = wb := ⟨_, rfl⟩
            rw [hwb] at HOb HTb ⊢
            clear hwb
            have hq := hBB.out heq
            have Q1 := Lib.hid hq.2.1
            have Q2 := Lib.hid hq.2.2
            clear hq
            clear c1 c2
            go_wp2_with fail
            go_roundw
            case rel => exact ⟨k + 1, by omega, by go_num, by rw [Q1.out], by rw [Q2.out]; exact HOb.out, HTb.out⟩
            case measure => simp [intOf]; omega
          · go_wp2_with (with_reducible (show wpList _ _ _ (Oper.mk (some 27) (.load 38 (.tmp 3)) _ _ _ _ :: _) _ _); refine still ?_)
            refine wpList_load_mid rfl 38 (.tmp 3) rfl X 0 rfl e.vals _ (rangeAt_turn HRX.out HTd.out id) Try.underlying38 rfl el_info ?_
            obtain ⟨va, wa, hra, hoa, tta, aa, ca, hva⟩ := app_one wd w1.heap.size 25 25 Try.underlying25 _ (outP (l.take k) e) e HOd.out HTd.out.size (by have := outP_len (l.take k) e; have : (l.take k).length ≤ k := List.length_take_le _ _; (try simp only [List.length_append, List.length_cons, List.length_nil]); omega)
            have HRa := Lib.hid hra
            have HOa := Lib.hid hoa
            have HTa := Lib.hid (turn_on HOd.out (Nat.le_refl _) HTd.out tta)
            clear hra hoa tta hva
            go_wp2_with (with_reducible (show wpList _ _ _ (Oper.mk (some 28) _ _ _ _ _ :: _) _ _); refine still ?_)
            refine list_exec rfl _ _ (exec_build_one _ _ (.tmp 27) 25 Try.underlying25 rfl e rfl _) ?_
            go_wp2_with (with_reducible (show wpList _ _ _ (Oper.mk (some 29) _ _ _ _ _ :: _) _ _); refine still ?_)
            refine list_exec rfl _ _ (exec_append _ _ (.tmp 26) (.tmp 28) 25 rfl _ _ _ _ _ rfl rfl HRa.out) ?_
            have d1 := HTa.out.cells_at HE0.out
            have HS2 := Lib.hid (show wa.rangeAt g (o + k * 10) x.vals from by
              obtain ⟨g', o', h1, _, h3⟩ := (HV.out.turn HTa.out (fun _ _ => id)).one HN.out k hlt
              injection h1 with h1
              injection h1 with h1 h2 _
              subst h1 h2
              rwa [HX.out] at h3)
            have d2 := range0 HS2.out
            go_wp2_with fail
            refine wp_region_held_drew (S := fun wq => wq.cell? ⟨g, o + k * 10, none⟩ = some (.int .i64 x.id) ∧ wq.cell? ⟨X, 0, none⟩ = some (.int .i64 e.id)) (by kernel_rfl) ⟨d2, d1⟩ (fun hHeld => ?_)
            refine wpAnyH_take (i := 0) (v := .slice (some ⟨g, o, none⟩) n lc) rfl (by kernel_rfl) (by kernel_rfl) (by kernel_rfl) (fun _ _ _ h => h) (Or.inl ⟨by rfl, ?yq21⟩) (by assumption) ?rq21
            case yq21 => (intro wq hSw; (try simp only [List.getElem_toArray, List.getElem_cons_zero, List.getElem_cons_succ]); go_simp; (try with_reducible rfl); all_goals (try omega))
            case rq21 =>
            try simp only [Act.put, List.setIfInBounds_toArray, List.set_cons_zero, List.set_cons_succ, List.getElem_toArray, List.getElem_cons_zero, List.getElem_cons_succ]
            refine wpAnyH_take (i := 1) (v := .int .i64 (k : Int)) rfl (by kernel_rfl) (by kernel_rfl) (by kernel_rfl) (fun _ _ _ h => h) (Or.inl ⟨by rfl, ?yq22⟩) (by assumption) ?rq22
            case yq22 => (intro wq hSw; (try simp only [List.getElem_toArray, List.getElem_cons_zero, List.getElem_cons_succ]); go_simp; (try with_reducible rfl); all_goals (try omega))
            case rq22 =>
            try simp only [Act.put, List.setIfInBounds_toArray, List.set_cons_zero, List.set_cons_succ, List.getElem_toArray, List.getElem_cons_zero, List.getElem_cons_succ]
            refine wpAnyH_take (i := 2) (v := .pointer (some ⟨g, o + k * 10, none⟩)) rfl (by kernel_rfl) (by kernel_rfl) (by kernel_rfl) (fun _ _ _ h => h) (Or.inl ⟨by rfl, ?yq23⟩) (by assumption) ?rq23
            case yq23 => (intro wq hSw; (try simp only [List.getElem_toArray, List.getElem_cons_zero, List.getElem_cons_succ]); go_simp; (try with_reducible rfl); all_goals (try omega))
            case rq23 =>
            try simp only [Act.put, List.setIfInBounds_toArray, List.set_cons_zero, List.set_cons_succ, List.getElem_toArray, List.getElem_cons_zero, List.getElem_cons_succ]
            refine wpAnyH_take (i := 3) (v := .pointer (some ⟨g, o + k * 10, none⟩)) rfl (by kernel_rfl) (by kernel_rfl) (by kernel_rfl) (fun _ _ _ h => h) (Or.inl ⟨by rfl, ?yq24⟩) (by assumption) ?rq24
            case yq24 => (intro wq hSw; (try simp only [List.getElem_toArray, List.getElem_cons_zero, List.getElem_cons_succ]); go_simp; (try with_reducible rfl); all_goals (try omega))
            case rq24 =>
            try simp only [Act.put, List.setIfInBounds_toArray, List.set_cons_zero, List.set_cons_succ, List.getElem_toArray, List.getElem_cons_zero, List.getElem_cons_succ]
            refine wpAnyH_take (i := 4) (v := .int .i64 x.id) rfl (by kernel_rfl) (by kernel_rfl) (by kernel_rfl) (fun _ _ _ h => h) (Or.inl ⟨by rfl, ?yq25⟩) (by assumption) ?rq25
            case yq25 => (intro wq hSw; obtain ⟨k1, k2⟩ := hSw; (try simp only [List.getElem_toArray, List.getElem_cons_zero, List.getElem_cons_succ]); go_simp; (try with_reducible rfl); all_goals (try omega))
            case rq25 =>
            try simp only [Act.put, List.setIfInBounds_toArray, List.set_cons_zero, List.set_cons_succ, List.getElem_toArray, List.getElem_cons_zero, List.getElem_cons_succ]
            refine wpAnyH_take (i := 5) (v := .pointer (some ⟨X, 0, none⟩)) rfl (by kernel_rfl) (by kernel_rfl) (by kernel_rfl) (fun _ _ _ h => h) (Or.inl ⟨by rfl, ?yq26⟩) (by assumption) ?rq26
            case yq26 => (intro wq hSw; (try simp only [List.getElem_toArray, List.getElem_cons_zero, List.getElem_cons_succ]); go_simp; (try with_reducible rfl); all_goals (try omega))
            case rq26 =>
            try simp only [Act.put, List.setIfInBounds_toArray, List.set_cons_zero, List.set_cons_succ, List.getElem_toArray, List.getElem_cons_zero, List.getElem_cons_succ]
            refine wpAnyH_take (i := 6) (v := .int .i64 e.id) rfl (by kernel_rfl) (by kernel_rfl) (by kernel_rfl) (fun _ _ _ h => h) (Or.inl ⟨by rfl, ?yq27⟩) (by assumption) ?rq27
            case yq27 => (intro wq hSw; obtain ⟨k1, k2⟩ := hSw; (try simp only [List.getElem_toArray, List.getElem_cons_zero, List.getElem_cons_succ]); go_simp; (try with_reducible rfl); all_goals (try omega))
            case rq27 =>
            try simp only [Act.put, List.setIfInBounds_toArray, List.set_cons_zero, List.set_cons_succ, List.getElem_toArray, List.getElem_cons_zero, List.getElem_cons_succ]
            refine wpAnyH_take (i := 7) (v := .bool (x.id != e.id)) rfl (by kernel_rfl) (by kernel_rfl) (by kernel_rfl) (fun _ _ _ h => h) (Or.inl ⟨by rfl, ?yq28⟩) (by assumption) ?rq28
            case yq28 => (intro wq hSw; (try simp only [List.getElem_toArray, List.getElem_cons_zero, List.getElem_cons_succ]); go_simp; (try with_reducible rfl); all_goals (try omega))
            case rq28 =>
            try simp only [Act.put, List.setIfInBounds_toArray, List.set_cons_zero, List.set_cons_succ, List.getElem_toArray, List.getElem_cons_zero, List.getElem_cons_succ]
            refine wpAnyH_done (by kernel_rfl) ?_ _
            clear hHeld d1 d2
            rw [show (x.id != e.id) = true by simp; omega]
            have HOb := Lib.hid (own_rows_turn HOa.out ((Turn.refl (fun _ => False) wa).drew) (fun _ _ => id))
            have HTb := Lib.hid (HTa.out.drew)
            obtain ⟨wb, hwb⟩ : ∃ wb, wa.drew = wb := ⟨_, rfl⟩
            rw [hwb] at HOb HTb ⊢
            clear hwb
            have HS3 := Lib.hid (show wb.rangeAt g (o + k * 10) x.vals from by
              obtain ⟨g', o', h1, _, h3⟩ := (HV.out.turn HTb.out (fun _ _ => id)).one HN.out k hlt
              injection h1 with h1
              injection h1 with h1 h2 _
              subst h1 h2
              rwa [HX.out] at h3)
            go_wp2_with (with_reducible (show wpList _ _ _ (Oper.mk (some 42) (.load 38 (.tmp 41)) _ _ _ _ :: _) _ _); refine still ?_)
            refine wpList_load_mid rfl 38 (.tmp 41) rfl g (o + k * 10) rfl x.vals _ HS3.out Try.underlying38 rfl el_info ?_
            obtain ⟨vc, wc, hrc, hoc, ttc, ac, cc, hvc⟩ := app_one wb w1.heap.size 25 25 Try.underlying25 _ (outP (l.take k) e ++ [e]) x HOb.out HTb.out.size (by have := outP_len (l.take k) e; have : (l.take k).length ≤ k := List.length_take_le _ _; (try simp only [List.length_append, List.length_cons, List.length_nil]); omega)
            have HRc := Lib.hid hrc
            have HOc := Lib.hid hoc
            have HTc := Lib.hid (turn_on HOb.out (Nat.le_refl _) HTb.out ttc)
            clear hrc hoc ttc hvc
            go_wp2_with (with_reducible (show wpList _ _ _ (Oper.mk (some 43) _ _ _ _ _ :: _) _ _); refine still ?_)
            refine list_exec rfl _ _ (exec_build_one _ _ (.tmp 42) 25 Try.underlying25 rfl x rfl _) ?_
            go_wp2_with (with_reducible (show wpList _ _ _ (Oper.mk (some 44) _ _ _ _ _ :: _) _ _); refine still ?_)
            refine list_exec rfl _ _ (exec_append _ _ (.tmp 38) (.tmp 43) 25 rfl _ _ _ _ _ rfl rfl HRc.out) ?_
            have hq := hC.out (by omega)
            rw [HDN.out] at hq
            have Q1 := Lib.hid hq.1
            have Q2 := Lib.hid hq.2
            clear hq
            clear c1 c2
            go_wp2_with fail
            go_roundw
            case rel => exact ⟨k + 1, by omega, by go_num, by rw [Q1.out], by rw [Q2.out]; exact HOc.out, HTc.out⟩
            case measure => simp [intOf]; omega
        · rw [decide_eq_false hge]
          have d1 := HTd.out.cells_at HE0.out
          have HS2 := Lib.hid (show wd.rangeAt g (o + k * 10) x.vals from by
            obtain ⟨g', o', h1, _, h3⟩ := (HV.out.turn HTd.out (fun _ _ => id)).one HN.out k hlt
            injection h1 with h1
            injection h1 with h1 h2 _
            subst h1 h2
            rwa [HX.out] at h3)
          have d2 := range0 HS2.out
          go_wp2_with fail
          refine wp_region_held_drew (S := fun wq => wq.cell? ⟨g, o + k * 10, none⟩ = some (.int .i64 x.id) ∧ wq.cell? ⟨X, 0, none⟩ = some (.int .i64 e.id)) (by kernel_rfl) ⟨d2, d1⟩ (fun hHeld => ?_)
          refine wpAnyH_take (i := 0) (v := .slice (some ⟨g, o, none⟩) n lc) rfl (by kernel_rfl) (by kernel_rfl) (by kernel_rfl) (fun _ _ _ h => h) (Or.inl ⟨by rfl, ?yq29⟩) (by assumption) ?rq29
          case yq29 => (intro wq hSw; (try simp only [List.getElem_toArray, List.getElem_cons_zero, List.getElem_cons_succ]); go_simp; (try with_reducible rfl); all_goals (try omega))
          case rq29 =>
          try simp only [Act.put, List.setIfInBounds_toArray, List.set_cons_zero, List.set_cons_succ, List.getElem_toArray, List.getElem_cons_zero, List.getElem_cons_succ]
          refine wpAnyH_take (i := 1) (v := .int .i64 (k : Int)) rfl (by kernel_rfl) (by kernel_rfl) (by kernel_rfl) (fun _ _ _ h => h) (Or.inl ⟨by rfl, ?yq30⟩) (by assumption) ?rq30
          case yq30 => (intro wq hSw; (try simp only [List.getElem_toArray, List.getElem_cons_zero, List.getElem_cons_succ]); go_simp; (try with_reducible rfl); all_goals (try omega))
          case rq30 =>
          try simp only [Act.put, List.setIfInBounds_toArray, List.set_cons_zero, List.set_cons_succ, List.getElem_toArray, List.getElem_cons_zero, List.getElem_cons_succ]
          refine wpAnyH_take (i := 2) (v := .pointer (some ⟨g, o + k * 10, none⟩)) rfl (by kernel_rfl) (by kernel_rfl) (by kernel_rfl) (fun _ _ _ h => h) (Or.inl ⟨by rfl, ?yq31⟩) (by assumption) ?rq31
          case yq31 => (intro wq hSw; (try simp only [List.getElem_toArray, List.getElem_cons_zero, List.getElem_cons_succ]); go_simp; (try with_reducible rfl); all_goals (try omega))
          case rq31 =>
          try simp only [Act.put, List.setIfInBounds_toArray, List.set_cons_zero, List.set_cons_succ, List.getElem_toArray, List.getElem_cons_zero, List.getElem_cons_succ]
          refine wpAnyH_take (i := 3) (v := .pointer (some ⟨g, o + k * 10, none⟩)) rfl (by kernel_rfl) (by kernel_rfl) (by kernel_rfl) (fun _ _ _ h => h) (Or.inl ⟨by rfl, ?yq32⟩) (by assumption) ?rq32
          case yq32 => (intro wq hSw; (try simp only [List.getElem_toArray, List.getElem_cons_zero, List.getElem_cons_succ]); go_simp; (try with_reducible rfl); all_goals (try omega))
          case rq32 =>
          try simp only [Act.put, List.setIfInBounds_toArray, List.set_cons_zero, List.set_cons_succ, List.getElem_toArray, List.getElem_cons_zero, List.getElem_cons_succ]
          refine wpAnyH_take (i := 4) (v := .int .i64 x.id) rfl (by kernel_rfl) (by kernel_rfl) (by kernel_rfl) (fun _ _ _ h => h) (Or.inl ⟨by rfl, ?yq33⟩) (by assumption) ?rq33
          case yq33 => (intro wq hSw; obtain ⟨k1, k2⟩ := hSw; (try simp only [List.getElem_toArray, List.getElem_cons_zero, List.getElem_cons_succ]); go_simp; (try with_reducible rfl); all_goals (try omega))
          case rq33 =>
          try simp only [Act.put, List.setIfInBounds_toArray, List.set_cons_zero, List.set_cons_succ, List.getElem_toArray, List.getElem_cons_zero, List.getElem_cons_succ]
          refine wpAnyH_take (i := 5) (v := .pointer (some ⟨X, 0, none⟩)) rfl (by kernel_rfl) (by kernel_rfl) (by kernel_rfl) (fun _ _ _ h => h) (Or.inl ⟨by rfl, ?yq34⟩) (by assumption) ?rq34
          case yq34 => (intro wq hSw; (try simp only [List.getElem_toArray, List.getElem_cons_zero, List.getElem_cons_succ]); go_simp; (try with_reducible rfl); all_goals (try omega))
          case rq34 =>
          try simp only [Act.put, List.setIfInBounds_toArray, List.set_cons_zero, List.set_cons_succ, List.getElem_toArray, List.getElem_cons_zero, List.getElem_cons_succ]
          refine wpAnyH_take (i := 6) (v := .int .i64 e.id) rfl (by kernel_rfl) (by kernel_rfl) (by kernel_rfl) (fun _ _ _ h => h) (Or.inl ⟨by rfl, ?yq35⟩) (by assumption) ?rq35
          case yq35 => (intro wq hSw; obtain ⟨k1, k2⟩ := hSw; (try simp only [List.getElem_toArray, List.getElem_cons_zero, List.getElem_cons_succ]); go_simp; (try with_reducible rfl); all_goals (try omega))
          case rq35 =>
          try simp only [Act.put, List.setIfInBounds_toArray, List.set_cons_zero, List.set_cons_succ, List.getElem_toArray, List.getElem_cons_zero, List.getElem_cons_succ]
          refine wpAnyH_take (i := 7) (v := .bool (x.id != e.id)) rfl (by kernel_rfl) (by kernel_rfl) (by kernel_rfl) (fun _ _ _ h => h) (Or.inl ⟨by rfl, ?yq36⟩) (by assumption) ?rq36
          case yq36 => (intro wq hSw; (try simp only [List.getElem_toArray, List.getElem_cons_zero, List.getElem_cons_succ]); go_simp; (try with_reducible rfl); all_goals (try omega))
          case rq36 =>
          try simp only [Act.put, List.setIfInBounds_toArray, List.set_cons_zero, List.set_cons_succ, List.getElem_toArray, List.getElem_cons_zero, List.getElem_cons_succ]
          refine wpAnyH_done (by kernel_rfl) ?_ _
          clear hHeld d1 d2
          rw [show (x.id != e.id) = true by simp; omega]
          have HOb := Lib.hid (own_rows_turn HOd.out ((Turn.refl (fun _ => False) wd).drew) (fun _ _ => id))
          have HTb := Lib.hid (HTd.out.drew)
          obtain ⟨wb, hwb⟩ : ∃ wb, wd.drew = wb := ⟨_, rfl⟩
          rw [hwb] at HOb HTb ⊢
          clear hwb
          have HS3 := Lib.hid (show wb.rangeAt g (o + k * 10) x.vals from by
            obtain ⟨g', o', h1, _, h3⟩ := (HV.out.turn HTb.out (fun _ _ => id)).one HN.out k hlt
            injection h1 with h1
            injection h1 with h1 h2 _
            subst h1 h2
            rwa [HX.out] at h3)
          go_wp2_with (with_reducible (show wpList _ _ _ (Oper.mk (some 42) (.load 38 (.tmp 41)) _ _ _ _ :: _) _ _); refine still ?_)
          refine wpList_load_mid rfl 38 (.tmp 41) rfl g (o + k * 10) rfl x.vals _ HS3.out Try.underlying38 rfl el_info ?_
          obtain ⟨vc, wc, hrc, hoc, ttc, ac, cc, hvc⟩ := app_one wb w1.heap.size 25 25 Try.underlying25 _ (outP (l.take k) e) x HOb.out HTb.out.size (by have := outP_len (l.take k) e; have : (l.take k).length ≤ k := List.length_take_le _ _; (try simp only [List.length_append, List.length_cons, List.length_nil]); omega)
          have HRc := Lib.hid hrc
          have HOc := Lib.hid hoc
          have HTc := Lib.hid (turn_on HOb.out (Nat.le_refl _) HTb.out ttc)
          clear hrc hoc ttc hvc
          go_wp2_with (with_reducible (show wpList _ _ _ (Oper.mk (some 43) _ _ _ _ _ :: _) _ _); refine still ?_)
          refine list_exec rfl _ _ (exec_build_one _ _ (.tmp 42) 25 Try.underlying25 rfl x rfl _) ?_
          go_wp2_with (with_reducible (show wpList _ _ _ (Oper.mk (some 44) _ _ _ _ _ :: _) _ _); refine still ?_)
          refine list_exec rfl _ _ (exec_append _ _ (.tmp 38) (.tmp 43) 25 rfl _ _ _ _ _ rfl rfl HRc.out) ?_
          have hq := hD.out (by omega)
          have Q1 := Lib.hid hq.2.1
          have Q2 := Lib.hid hq.2.2
          clear hq
          clear c1 c2
          go_wp2_with fail
          go_roundw
          case rel => exact ⟨k + 1, by omega, by go_num, by rw [Q1.out, ← HDN.out], by rw [Q2.out]; exact HOc.out, HTc.out⟩
          case measure => simp [intOf]; omega
      · have HDN := Lib.hid hdn
        have hgt := hA.out hdn
        clear hdn
        refine wp_region_held_drew (S := fun wq => wq.cell? ⟨g, o + k * 10, none⟩ = some (.int .i64 x.id) ∧ wq.cell? ⟨X, 0, none⟩ = some (.int .i64 e.id)) (by kernel_rfl) ⟨c1, c2⟩ (fun hHeld => ?_)
        refine wpAnyH_take (i := 0) (v := .bool true) rfl (by kernel_rfl) (by kernel_rfl) (by kernel_rfl) (fun _ _ _ h => h) (Or.inl ⟨by rfl, ?yq37⟩) (by assumption) ?rq37
        case yq37 => (intro wq hSw; (try simp only [List.getElem_toArray, List.getElem_cons_zero, List.getElem_cons_succ]); go_simp; (try with_reducible rfl); all_goals (try omega))
        case rq37 =>
        try simp only [Act.put, List.setIfInBounds_toArray, List.set_cons_zero, List.set_cons_succ, List.getElem_toArray, List.getElem_cons_zero, List.getElem_cons_succ]
        refine wpAnyH_take (i := 1) (v := .bool false) rfl (by kernel_rfl) (by kernel_rfl) (by kernel_rfl) (fun _ _ _ h => h) (Or.inl ⟨by rfl, ?yq38⟩) (by assumption) ?rq38
        case yq38 => (intro wq hSw; (try simp only [List.getElem_toArray, List.getElem_cons_zero, List.getElem_cons_succ]); go_simp; (try with_reducible rfl); all_goals (try omega))
        case rq38 =>
        try simp only [Act.put, List.setIfInBounds_toArray, List.set_cons_zero, List.set_cons_succ, List.getElem_toArray, List.getElem_cons_zero, List.getElem_cons_succ]
        refine wpAnyH_take (i := 2) (v := .bool false) rfl (by kernel_rfl) (by kernel_rfl) (by kernel_rfl) (fun _ _ _ h => h) (Or.inl ⟨by rfl, ?yq39⟩) (by assumption) ?rq39
        case yq39 => (intro wq hSw; (try simp only [List.getElem_toArray, List.getElem_cons_zero, List.getElem_cons_succ]); go_simp; (try with_reducible rfl); all_goals (try omega))
        case rq39 =>
        try simp only [Act.put, List.setIfInBounds_toArray, List.set_cons_zero, List.set_cons_succ, List.getElem_toArray, List.getElem_cons_zero, List.getElem_cons_succ]
        refine wpAnyH_take (i := 3) (v := undef) rfl (by kernel_rfl) (by kernel_rfl) (by kernel_rfl) (fun _ _ _ h => h) (Or.inr ⟨by rfl, rfl⟩) (by assumption) ?rq40
        case rq40 =>
        try simp only [Act.put, List.setIfInBounds_toArray, List.set_cons_zero, List.set_cons_succ, List.getElem_toArray, List.getElem_cons_zero, List.getElem_cons_succ]
        refine wpAnyH_take (i := 4) (v := undef) rfl (by kernel_rfl) (by kernel_rfl) (by kernel_rfl) (fun _ _ _ h => h) (Or.inr ⟨by rfl, rfl⟩) (by assumption) ?rq41
        case rq41 =>
        try simp only [Act.put, List.setIfInBounds_toArray, List.set_cons_zero, List.set_cons_succ, List.getElem_toArray, List.getElem_cons_zero, List.getElem_cons_succ]
        refine wpAnyH_take (i := 5) (v := undef) rfl (by kernel_rfl) (by kernel_rfl) (by kernel_rfl) (fun _ _ _ h => h) (Or.inr ⟨by rfl, rfl⟩) (by assumption) ?rq42
        case rq42 =>
        try simp only [Act.put, List.setIfInBounds_toArray, List.set_cons_zero, List.set_cons_succ, List.getElem_toArray, List.getElem_cons_zero, List.getElem_cons_succ]
        refine wpAnyH_take (i := 6) (v := undef) rfl (by kernel_rfl) (by kernel_rfl) (by kernel_rfl) (fun _ _ _ h => h) (Or.inr ⟨by rfl, rfl⟩) (by assumption) ?rq43
        case rq43 =>
        try simp only [Act.put, List.setIfInBounds_toArray, List.set_cons_zero, List.set_cons_succ, List.getElem_toArray, List.getElem_cons_zero, List.getElem_cons_succ]
        refine wpAnyH_take (i := 7) (v := undef) rfl (by kernel_rfl) (by kernel_rfl) (by kernel_rfl) (fun _ _ _ h => h) (Or.inr ⟨by rfl, rfl⟩) (by assumption) ?rq44
        case rq44 =>
        try simp only [Act.put, List.setIfInBounds_toArray, List.set_cons_zero, List.set_cons_succ, List.getElem_toArray, List.getElem_cons_zero, List.getElem_cons_succ]
        refine wpAnyH_take (i := 8) (v := undef) rfl (by kernel_rfl) (by kernel_rfl) (by kernel_rfl) (fun _ _ _ h => h) (Or.inr ⟨by rfl, rfl⟩) (by assumption) ?rq45
        case rq45 =>
        try simp only [Act.put, List.setIfInBounds_toArray, List.set_cons_zero, List.set_cons_succ, List.getElem_toArray, List.getElem_cons_zero, List.getElem_cons_succ]
        refine wpAnyH_take (i := 9) (v := undef) rfl (by kernel_rfl) (by kernel_rfl) (by kernel_rfl) (fun _ _ _ h => h) (Or.inr ⟨by rfl, rfl⟩) (by assumption) ?rq46
        case rq46 =>
        try simp only [Act.put, List.setIfInBounds_toArray, List.set_cons_zero, List.set_cons_succ, List.getElem_toArray, List.getElem_cons_zero, List.getElem_cons_succ]
        refine wpAnyH_take (i := 10) (v := undef) rfl (by kernel_rfl) (by kernel_rfl) (by kernel_rfl) (fun _ _ _ h => h) (Or.inr ⟨by rfl, rfl⟩) (by assumption) ?rq47
        case rq47 =>
        try simp only [Act.put, List.setIfInBounds_toArray, List.set_cons_zero, List.set_cons_succ, List.getElem_toArray, List.getElem_cons_zero, List.getElem_cons_succ]
        refine wpAnyH_take (i := 11) (v := .bool false) rfl (by kernel_rfl) (by kernel_rfl) (by kernel_rfl) (fun _ _ _ h => h) (Or.inl ⟨by rfl, ?yq48⟩) (by assumption) ?rq48
        case yq48 => (intro wq hSw; (try simp only [List.getElem_toArray, List.getElem_cons_zero, List.getElem_cons_succ]); go_simp; (try with_reducible rfl); all_goals (try omega))
        case rq48 =>
        try simp only [Act.put, List.setIfInBounds_toArray, List.set_cons_zero, List.set_cons_succ, List.getElem_toArray, List.getElem_cons_zero, List.getElem_cons_succ]
        refine wpAnyH_done (by kernel_rfl) ?_ _
        clear hHeld
        have HOd := Lib.hid (own_rows_turn HO.out ((Turn.refl (fun _ => False) wr).drew) (fun _ _ => id))
        have HTd := Lib.hid (HT.out.drew)
        obtain ⟨wd, hwd⟩ : ∃ wd, wr.drew = wd := ⟨_, rfl⟩
        rw [hwd] at HOd HTd ⊢
        clear hwd
        have d1 := HTd.out.cells_at HE0.out
        have HS2 := Lib.hid (show wd.rangeAt g (o + k * 10) x.vals from by
          obtain ⟨g', o', h1, _, h3⟩ := (HV.out.turn HTd.out (fun _ _ => id)).one HN.out k hlt
          injection h1 with h1
          injection h1 with h1 h2 _
          subst h1 h2
          rwa [HX.out] at h3)
        have d2 := range0 HS2.out
        go_wp2_with fail
        refine wp_region_held_drew (S := fun wq => wq.cell? ⟨g, o + k * 10, none⟩ = some (.int .i64 x.id) ∧ wq.cell? ⟨X, 0, none⟩ = some (.int .i64 e.id)) (by kernel_rfl) ⟨d2, d1⟩ (fun hHeld => ?_)
        refine wpAnyH_take (i := 0) (v := .slice (some ⟨g, o, none⟩) n lc) rfl (by kernel_rfl) (by kernel_rfl) (by kernel_rfl) (fun _ _ _ h => h) (Or.inl ⟨by rfl, ?yq49⟩) (by assumption) ?rq49
        case yq49 => (intro wq hSw; (try simp only [List.getElem_toArray, List.getElem_cons_zero, List.getElem_cons_succ]); go_simp; (try with_reducible rfl); all_goals (try omega))
        case rq49 =>
        try simp only [Act.put, List.setIfInBounds_toArray, List.set_cons_zero, List.set_cons_succ, List.getElem_toArray, List.getElem_cons_zero, List.getElem_cons_succ]
        refine wpAnyH_take (i := 1) (v := .int .i64 (k : Int)) rfl (by kernel_rfl) (by kernel_rfl) (by kernel_rfl) (fun _ _ _ h => h) (Or.inl ⟨by rfl, ?yq50⟩) (by assumption) ?rq50
        case yq50 => (intro wq hSw; (try simp only [List.getElem_toArray, List.getElem_cons_zero, List.getElem_cons_succ]); go_simp; (try with_reducible rfl); all_goals (try omega))
        case rq50 =>
        try simp only [Act.put, List.setIfInBounds_toArray, List.set_cons_zero, List.set_cons_succ, List.getElem_toArray, List.getElem_cons_zero, List.getElem_cons_succ]
        refine wpAnyH_take (i := 2) (v := .pointer (some ⟨g, o + k * 10, none⟩)) rfl (by kernel_rfl) (by kernel_rfl) (by kernel_rfl) (fun _ _ _ h => h) (Or.inl ⟨by rfl, ?yq51⟩) (by assumption) ?rq51
        case yq51 => (intro wq hSw; (try simp only [List.getElem_toArray, List.getElem_cons_zero, List.getElem_cons_succ]); go_simp; (try with_reducible rfl); all_goals (try omega))
        case rq51 =>
        try simp only [Act.put, List.setIfInBounds_toArray, List.set_cons_zero, List.set_cons_succ, List.getElem_toArray, List.getElem_cons_zero, List.getElem_cons_succ]
        refine wpAnyH_take (i := 3) (v := .pointer (some ⟨g, o + k * 10, none⟩)) rfl (by kernel_rfl) (by kernel_rfl) (by kernel_rfl) (fun _ _ _ h => h) (Or.inl ⟨by rfl, ?yq52⟩) (by assumption) ?rq52
        case yq52 => (intro wq hSw; (try simp only [List.getElem_toArray, List.getElem_cons_zero, List.getElem_cons_succ]); go_simp; (try with_reducible rfl); all_goals (try omega))
        case rq52 =>
        try simp only [Act.put, List.setIfInBounds_toArray, List.set_cons_zero, List.set_cons_succ, List.getElem_toArray, List.getElem_cons_zero, List.getElem_cons_succ]
        refine wpAnyH_take (i := 4) (v := .int .i64 x.id) rfl (by kernel_rfl) (by kernel_rfl) (by kernel_rfl) (fun _ _ _ h => h) (Or.inl ⟨by rfl, ?yq53⟩) (by assumption) ?rq53
        case yq53 => (intro wq hSw; obtain ⟨k1, k2⟩ := hSw; (try simp only [List.getElem_toArray, List.getElem_cons_zero, List.getElem_cons_succ]); go_simp; (try with_reducible rfl); all_goals (try omega))
        case rq53 =>
        try simp only [Act.put, List.setIfInBounds_toArray, List.set_cons_zero, List.set_cons_succ, List.getElem_toArray, List.getElem_cons_zero, List.getElem_cons_succ]
        refine wpAnyH_take (i := 5) (v := .pointer (some ⟨X, 0, none⟩)) rfl (by kernel_rfl) (by kernel_rfl) (by kernel_rfl) (fun _ _ _ h => h) (Or.inl ⟨by rfl, ?yq54⟩) (by assumption) ?rq54
        case yq54 => (intro wq hSw; (try simp only [List.getElem_toArray, List.getElem_cons_zero, List.getElem_cons_succ]); go_simp; (try with_reducible rfl); all_goals (try omega))
        case rq54 =>
        try simp only [Act.put, List.setIfInBounds_toArray, List.set_cons_zero, List.set_cons_succ, List.getElem_toArray, List.getElem_cons_zero, List.getElem_cons_succ]
        refine wpAnyH_take (i := 6) (v := .int .i64 e.id) rfl (by kernel_rfl) (by kernel_rfl) (by kernel_rfl) (fun _ _ _ h => h) (Or.inl ⟨by rfl, ?yq55⟩) (by assumption) ?rq55
        case yq55 => (intro wq hSw; obtain ⟨k1, k2⟩ := hSw; (try simp only [List.getElem_toArray, List.getElem_cons_zero, List.getElem_cons_succ]); go_simp; (try with_reducible rfl); all_goals (try omega))
        case rq55 =>
        try simp only [Act.put, List.setIfInBounds_toArray, List.set_cons_zero, List.set_cons_succ, List.getElem_toArray, List.getElem_cons_zero, List.getElem_cons_succ]
        refine wpAnyH_take (i := 7) (v := .bool (x.id != e.id)) rfl (by kernel_rfl) (by kernel_rfl) (by kernel_rfl) (fun _ _ _ h => h) (Or.inl ⟨by rfl, ?yq56⟩) (by assumption) ?rq56
        case yq56 => (intro wq hSw; (try simp only [List.getElem_toArray, List.getElem_cons_zero, List.getElem_cons_succ]); go_simp; (try with_reducible rfl); all_goals (try omega))
        case rq56 =>
        try simp only [Act.put, List.setIfInBounds_toArray, List.set_cons_zero, List.set_cons_succ, List.getElem_toArray, List.getElem_cons_zero, List.getElem_cons_succ]
        refine wpAnyH_done (by kernel_rfl) ?_ _
        clear hHeld d1 d2
        rw [show (x.id != e.id) = true by simp; omega]
        have HOb := Lib.hid (own_rows_turn HOd.out ((Turn.refl (fun _ => False) wd).drew) (fun _ _ => id))
        have HTb := Lib.hid (HTd.out.drew)
        obtain ⟨wb, hwb⟩ : ∃ wb, wd.drew = wb := ⟨_, rfl⟩
        rw [hwb] at HOb HTb ⊢
        clear hwb
        have HS3 := Lib.hid (show wb.rangeAt g (o + k * 10) x.vals from by
          obtain ⟨g', o', h1, _, h3⟩ := (HV.out.turn HTb.out (fun _ _ => id)).one HN.out k hlt
          injection h1 with h1
          injection h1 with h1 h2 _
          subst h1 h2
          rwa [HX.out] at h3)
        go_wp2_with (with_reducible (show wpList _ _ _ (Oper.mk (some 42) (.load 38 (.tmp 41)) _ _ _ _ :: _) _ _); refine still ?_)
        refine wpList_load_mid rfl 38 (.tmp 41) rfl g (o + k * 10) rfl x.vals _ HS3.out Try.underlying38 rfl el_info ?_
        obtain ⟨vc, wc, hrc, hoc, ttc, ac, cc, hvc⟩ := app_one wb w1.heap.size 25 25 Try.underlying25 _ (outP (l.take k) e) x HOb.out HTb.out.size (by have := outP_len (l.take k) e; have : (l.take k).length ≤ k := List.length_take_le _ _; (try simp only [List.length_append, List.length_cons, List.length_nil]); omega)
        have HRc := Lib.hid hrc
        have HOc := Lib.hid hoc
        have HTc := Lib.hid (turn_on HOb.out (Nat.le_refl _) HTb.out ttc)
        clear hrc hoc ttc hvc
        go_wp2_with (with_reducible (show wpList _ _ _ (Oper.mk (some 43) _ _ _ _ _ :: _) _ _); refine still ?_)
        refine list_exec rfl _ _ (exec_build_one _ _ (.tmp 42) 25 Try.underlying25 rfl x rfl _) ?_
        go_wp2_with (with_reducible (show wpList _ _ _ (Oper.mk (some 44) _ _ _ _ _ :: _) _ _); refine still ?_)
        refine list_exec rfl _ _ (exec_append _ _ (.tmp 38) (.tmp 43) 25 rfl _ _ _ _ _ rfl rfl HRc.out) ?_
        have hq := hC.out hgt
        rw [HDN.out] at hq
        have Q1 := Lib.hid hq.1
        have Q2 := Lib.hid hq.2
        clear hq
        clear c1 c2
        go_wp2_with fail
        go_roundw
        case rel => exact ⟨k + 1, by omega, by go_num, by rw [Q1.out, ← HDN.out], by rw [Q2.out]; exact HOc.out, HTc.out⟩
        case measure => simp [intOf]; omega
    · have hke : k = n := by omega
      have hpe := outP_end (l := l) (e := e)
      have hto : l.take k = l := List.take_of_length_le (by rw [HN.out]; omega)
      have HPE := Lib.hid hpe
      have HTO := Lib.hid hto
      clear hpe hto
      cases hdn : doneB (l.take k) e
      · have HDN := Lib.hid hdn
        clear hdn
        have HTd := HT
        go_wp2_with (with_reducible (show wpList _ _ _ (Oper.mk (some 48) (.load 38 (.tmp 3)) _ _ _ _ :: _) _ _); refine still ?_)
        refine wpList_load_mid rfl 38 (.tmp 3) rfl X 0 rfl e.vals _ (rangeAt_turn HRX.out HT.out id) Try.underlying38 rfl el_info ?_
        obtain ⟨va, wa, hra, hoa, tta, aa, ca, hva⟩ := app_one wr w1.heap.size 25 25 Try.underlying25 _ (outP (l.take k) e) e HO.out HT.out.size (by have := outP_len (l.take k) e; have : (l.take k).length ≤ k := List.length_take_le _ _; (try simp only [List.length_append, List.length_cons, List.length_nil]); omega)
        have HRa := Lib.hid hra
        have HOa := Lib.hid hoa
        have HTa := Lib.hid (turn_on HO.out (Nat.le_refl _) HT.out tta)
        clear hra hoa tta hva
        go_wp2_with (with_reducible (show wpList _ _ _ (Oper.mk (some 49) _ _ _ _ _ :: _) _ _); refine still ?_)
        refine list_exec rfl _ _ (exec_build_one _ _ (.tmp 48) 25 Try.underlying25 rfl e rfl _) ?_
        go_wp2_with (with_reducible (show wpList _ _ _ (Oper.mk (some 50) _ _ _ _ _ :: _) _ _); refine still ?_)
        refine list_exec rfl _ _ (exec_append _ _ (.tmp 47) (.tmp 49) 25 rfl _ _ _ _ _ rfl rfl HRa.out) ?_
        go_wp2_with fail
        go_ret
        refine ⟨_, rfl, ?_, HB.out.turn.trans HTa.out (fun _ _ => id)⟩
        have h1 := HOa.out
        have h2 := HDN.out
        rw [HTO.out] at h1 h2
        rw [HPE.out, h2, if_neg (by simp)]
        exact own_base h1 HB.out.turn.size
      · have HDN := Lib.hid hdn
        clear hdn
        go_wp2_with fail
        go_ret
        refine ⟨_, rfl, ?_, HB.out.turn.trans HT.out (fun _ _ => id)⟩
        have h1 := HO.out
        have h2 := HDN.out
        rw [HTO.out] at h1 h2
        rw [HPE.out, h2, if_pos rfl]
        exact own_base h1 HB.out.turn.size
end Go.Proofs.Ytkciaafkhpjnaaa
