/- Own texts, packed: Am, Mkc, Gd. No statement is proved here. -/
import Derived.Test.YtkciaafkhpjnaaaQ15
import Derived.Test.YtkciaafkhpjnaaaQ07
import Derived.Test.YtkciaafkhpjnaaaQ16
import Derived.Test.YtkciaafkhpjnaaaQ06
import Derived.Test.YtkciaafkhpjnaaaQ09
namespace Go.Proofs.Ytkciaafkhpjnaaa
set_option maxRecDepth 100000
open Go.RowKit
set_option linter.unusedVariables false
set_option linter.unusedSimpArgs false


/-- An act of the document's charts: four numbers. -/
structure A4 where
  k : Int
  a : Int
  b : Int
  c : Int
def A4.vals (x : A4) : List Value := [.int .u8 x.k, .int .u8 x.a, .int .u8 x.b, .int .u8 x.c]
def a40 : A4 := ⟨0, 0, 0, 0⟩
structure A4.Ok (x : A4) : Prop where
  k : 0 ≤ x.k ∧ x.k < 256
  a : 0 ≤ x.a ∧ x.a < 256
  b : 0 ≤ x.b ∧ x.b < 256
  c : 0 ≤ x.c ∧ x.c < 256
theorem A4.vals_one (o : A4) : ∀ v ∈ o.vals, v.oneCell' = true := fun v hv => by
  simp only [A4.vals, List.mem_cons, List.not_mem_nil, or_false] at hv
  rcases hv with rfl | rfl | rfl | rfl <;> rfl
def ActsV (w : World) (v : Value) (l : List A4) : Prop :=
  (v = .slice none 0 0 ∧ l = []) ∨ ∃ g o c, v = .slice (some ⟨g, o, none⟩) l.length c ∧ l.length ≤ c ∧ (0 < l.length → g < w.heap.size) ∧ ∀ k, k < l.length → w.rangeAt g (o + k * 4) (l.getD k a40).vals ∧ (l.getD k a40).Ok
theorem ActsV.turn {w w' : World} {v : Value} {l : List A4} (h : ActsV w v l) (t : Turn (fun _ => False) w w') : ActsV w' v l := by
  rcases h with ⟨h1, h2⟩ | ⟨g, o, c, h1, h2, h3, h4⟩
  · exact .inl ⟨h1, h2⟩
  · exact .inr ⟨g, o, c, h1, h2, fun h0 => Nat.lt_of_lt_of_le (h3 h0) t.size, fun k hk => ⟨rangeAt_turn (h4 k hk).1 t id, (h4 k hk).2⟩⟩
theorem ActsV.form {w : World} {v : Value} {l : List A4} (h : ActsV w v l) : ∃ a c, v = .slice a l.length c := by
  rcases h with ⟨h1, rfl⟩ | ⟨g, o, c, h1, _⟩
  · exact ⟨_, _, h1⟩
  · exact ⟨_, _, h1⟩
theorem ActsV.one {w : World} {a : Option Addr} {n c : Nat} {l : List A4} (h : ActsV w (.slice a n c) l) (hn : l.length = n) (k : Nat) (hk : k < n) : ∃ g o, a = some ⟨g, o, none⟩ ∧ n ≤ c ∧ w.rangeAt g (o + k * 4) (l.getD k a40).vals ∧ (l.getD k a40).Ok := by
  subst hn
  rcases h with ⟨h1, rfl⟩ | ⟨g, o, c', h1, h2, h3, h4⟩
  · simp at hk
  · injection h1 with q1 q2 q3
    exact ⟨g, o, q1, by omega, (h4 k hk).1, (h4 k hk).2⟩
section
variable {P : Program} {ops : Array Oper} {Q : Exit → Act → World → Prop} {a : Act} {o : Oper} {rest : List Oper}
/-- One cell of a variable is written. -/
theorem list_set1 (w : World) (E : Nat) (T ty : TypeId) (zs : List Value) (j : Nat) (v : Value) (hh : w.heap[E]? = some (.cells zs.toArray T (0, 0))) (hj : j < zs.length) (h1 : v.oneCell' = true) (hv : v.cells = #[v]) (hi : (P.info? ty).map (·.size) = some 1)
    (hgd : o.guard = none) (x y : Operand) (ho : o.op = .store ty x y) (hx : a.eval x = .pointer (some ⟨E, j, none⟩)) (hy : a.eval y = v)
    (h : ∀ w', w'.heap[E]? = some (.cells (zs.set j v).toArray T (0, 0)) → Turn (fun q => q = E) w w' → wpList P ops Q rest (a.put o.dst undef) w') : wpList P ops Q (o :: rest) a w := by
  have ht := there_row hh
  have hst := run_storeCells_cells (P := P) E j [v] 0 w (fun i hi => by
    have hi0 : i = 0 := by simpa using hi
    subst hi0
    simpa using (ht j hj).1) (fun i hi => by
    have hi0 : i = 0 := by simpa using hi
    subst hi0
    simpa using (ht j hj).2) (fun u hu => by rw [List.mem_singleton.1 hu]; exact h1)
  have hsv : (storeVar ty ⟨E, j, none⟩ v).run P w = .ok () (w.setCells E j [v]) := by
    cases hq : P.info? ty with
    | none => simp [hq] at hi
    | some i =>
      have hs : i.size = 1 := by simpa [hq] using hi
      simp only [Nat.add_zero] at hst
      simp [storeVar, sizeOf, typeInfo, hq, hv, hs, hst]
  refine wpList_plain hgd fun _ hK => ?_
  unfold Oper.wp execOp
  simp only [ho, hx, hy, Instr.storeAt, Instr.sureAddr, Sem.run_bind, Sem.run_pure, Result.andThen_ok, hsv]
  refine hK _ _ (h _ ?_ (turn_setCells E [v] j w))
  rw [heap_setCells E T [v] j w zs hh (by simp; omega)]
  congr 3
  rw [List.set_eq_take_append_cons_drop, if_pos hj]
  simp
end
/-- Make's two variables: the act, and the element. -/
structure MkS (w W : World) (A E : Nat) (x : A4) (e : El) : Prop where
  ha : W.heap[A]? = some (.cells x.vals.toArray 57 (0, 0))
  he : W.heap[E]? = some (.cells e.vals.toArray 38 (0, 0))
  t : Turn (fun _ => False) w W
  ne : A ≠ E
  new : w.heap.size ≤ E
theorem MkS.turn {w W W' : World} {A E : Nat} {x : A4} {e : El} (h : MkS w W A E x e) (t : Turn (fun _ => False) W W') : MkS w W' A E x e :=
  ⟨(t.block A (Array.getElem?_eq_some_iff.1 h.ha).1 id).trans h.ha, (t.block E (Array.getElem?_eq_some_iff.1 h.he).1 id).trans h.he, h.t.trans t (fun _ _ => id), h.ne, h.new⟩
theorem MkS.set {w W W' : World} {A E : Nat} {x : A4} {e e' : El} {j : Nat} {v : Value} (h : MkS w W A E x e) (h2 : W'.heap[E]? = some (.cells (e.vals.set j v).toArray 38 (0, 0))) (t : Turn (fun q => q = E) W W') (he : e.vals.set j v = e'.vals) : MkS w W' A E x e' :=
  ⟨(t.block A (Array.getElem?_eq_some_iff.1 h.ha).1 h.ne).trans h.ha, by rw [h2, he], h.t.trans t (fun q hq e => by have := h.new; omega), h.ne, h.new⟩
theorem MkS.a {w W : World} {A E : Nat} {x : A4} {e : El} (h : MkS w W A E x e) (j : Nat) (v : Value) (hj : x.vals[j]? = some v) : W.cell? ⟨A, j, none⟩ = some v := by rw [cell_of_row W A j _ 57 (0, 0) h.ha]; simpa using hj
theorem MkS.e {w W : World} {A E : Nat} {x : A4} {e : El} (h : MkS w W A E x e) (j : Nat) (v : Value) (hj : e.vals[j]? = some v) : W.cell? ⟨E, j, none⟩ = some v := by rw [cell_of_row W E j _ 38 (0, 0) h.he]; simpa using hj
theorem a4_info : (Try.prog.info? 57).map (·.size) = some 4 := by kernel_rfl
theorem a4_zero (w : World) : (zeroValue 57).run Try.prog w = .ok (.agg a40.vals.toArray) w := by kernel_rfl
theorem exec_zero70 (ev : Operand → Value) (op : Oper) (ho : op.op = .alloc 57) (w : World) : (execOp ev op).run Try.prog w = .ok (.value (.pointer (some ⟨w.heap.size, 0, none⟩))) (w.alloc (.cells a40.vals.toArray 57)) := by
  unfold execOp
  simp only [ho, Sem.run_bind, a4_zero, Result.andThen_ok]
  rfl
def El.iko (i k o : Int) : El := ⟨i, k, 0, o, e0, 0, 0, e0, e0, e0⟩
theorem build_iko (i k o : Int) (w : World) : (Instr.build 38 #[(0, .int .i64 i), (1, .int .u8 k), (3, .int .i64 o)]).run Try.prog w = .ok (.agg (El.iko i k o).vals.toArray) w := by kernel_rfl
theorem exec_build_iko (ev : Operand → Value) (op : Oper) (x y z : Operand) (i k o : Int) (ho : op.op = .build 38 #[(0, x), (1, y), (3, z)]) (hx : ev x = .int .i64 i) (hy : ev y = .int .u8 k) (hz : ev z = .int .i64 o) (w : World) : (execOp ev op).run Try.prog w = .ok (.value (.agg (El.iko i k o).vals.toArray)) w := by
  unfold execOp
  simp only [ho, List.map_toArray, List.map_cons, List.map_nil, hx, hy, hz, Sem.run_bind, Sem.run_pure, build_iko, Result.andThen_ok]
/-- The element that an act tells. -/
def baseE (x : A4) : El := El.iko (1 + x.a % 30) (1 + x.k % 5) (x.c % 4)
def nameE (x : A4) : ByteArray := ({ data := #[110] } : ByteArray) ++ strOfNums [97 + x.c % 26]
def parE (x : A4) : Int := if x.b % 3 = 0 then 0 else x.b % 8
def actE (x : A4) : El := if 1 + x.k % 5 = 5 then ⟨1 + x.a % 30, 1 + x.k % 5, 0, x.c % 4, e0, 1 + x.b % 30, 1 + x.c % 30, textE x.b, textE x.c, textE x.k⟩ else ⟨1 + x.a % 30, 1 + x.k % 5, parE x, x.c % 4, if namedE (baseE x) = true then nameE x else e0, 0, 0, e0, e0, e0⟩
def mkStep (c : List El) (x : A4) : List El := if (atE c (actE x).id).isSome = true then c else if (checkE (putE c (actE x))).1 = 0 then putE c (actE x) else c
def mkE (l : List A4) : List El := l.foldl mkStep []
def makeE (l : List A4) : List El := mkE (l.take 24)
theorem mkE_snoc (l : List A4) (x : A4) : mkE (l ++ [x]) = mkStep (mkE l) x := by unfold mkE; rw [List.foldl_append]; rfl
/-- A chart that keeps the rules. -/
structure GoodE (c : List El) : Prop where
  ok : (checkE c).1 = 0
  kind : ∀ x ∈ c, 0 ≤ x.kind ∧ x.kind ≤ 255
theorem GoodE.right {c : List El} (h : GoodE c) : rightE c = true := by
  have := h.ok
  unfold checkE at this
  by_cases h2 : rightE c = true
  · exact h2
  · rw [if_neg h2] at this; cases this
theorem GoodE.rises {c : List El} (h : GoodE c) : Rises c := (right_iff.1 h.right).2.1
theorem GoodE.len {c : List El} (h : GoodE c) : c.length ≤ 40 := (right_iff.1 h.right).1
theorem good_nil : GoodE [] := ⟨by decide +kernel, fun x hx => by cases hx⟩
theorem actE_id (x : A4) : (actE x).id = 1 + x.a % 30 := by unfold actE; split <;> rfl
theorem actE_kind (x : A4) : (actE x).kind = 1 + x.k % 5 := by unfold actE; split <;> rfl
theorem good_step {c : List El} (h : GoodE c) (x : A4) : GoodE (mkStep c x) := by
  unfold mkStep
  split
  · exact h
  · split
    · rename_i h2
      refine ⟨h2, fun y hy => ?_⟩
      rcases mem_putE.1 hy with rfl | ⟨h3, _⟩
      · rw [actE_kind]; omega
      · exact h.kind y h3
    · exact h
theorem good_mkE (l : List A4) : GoodE (mkE l) := by
  suffices h : ∀ (l : List A4) (c : List El), GoodE c → GoodE (l.foldl mkStep c) from h l [] good_nil
  intro l
  induction l with
  | nil => intro c h; exact h
  | cons x l ih => intro c h; exact ih _ (good_step h x)
theorem good_makeE (l : List A4) : GoodE (makeE l) := good_mkE _
theorem takeA_snoc (l : List A4) (k : Nat) (h : k < l.length) : l.take (k + 1) = l.take k ++ [l.getD k a40] := by
  rw [List.take_add_one, List.getElem?_eq_getElem h]
  simp [List.getD, h]
end Go.Proofs.Ytkciaafkhpjnaaa
namespace Go.Proofs.Ytkciaafkhpjnaaa
set_option maxRecDepth 100000
open Go.RowKit
set_option linter.unusedVariables false
set_option linter.unusedSimpArgs false


theorem rput_good (w : World) (v : Value) (c : List El) (e : El) (hv : RowV w v c) (hg : GoodE c) : Calls Try.prog 15 #[v, .agg e.vals.toArray] w fun r w' => ∃ u, r = .returned u ∧ RowV w' u (putE c e) ∧ Turn (fun _ => False) w w' := by
  refine (rput_any w v c e hv hg.rises (by have := hg.len; omega)).mono ?_
  rintro r w' ⟨u, rfl, ho, t⟩
  exact ⟨u, rfl, own_rowV ho, t⟩
set_option maxHeartbeats 8000000 in
theorem make_any (w : World) (v : Value) (l : List A4) (hv : ActsV w v l) (hb : l.length ≤ 1000000000000) : Calls Try.prog 9 #[v] w fun r w' => ∃ u, r = .returned u ∧ RowV w' u (makeE l) ∧ Turn (fun _ => False) w w' := by
  obtain ⟨la, lc, rfl⟩ := hv.form
  obtain ⟨n, hn⟩ : ∃ n, l.length = n := ⟨_, rfl⟩
  rw [hn] at hv hb
  simp only [hn]
  have HV := Lib.hid hv
  have HN := Lib.hid hn
  clear hv hn
  go_enter Try.func9, Try.ntmps9
  go_wp2_with fail
  go_loopw [3, 4] (fun cv iv wr => ∃ k : Nat, k ≤ n ∧ k ≤ 24 ∧ iv = .int .i64 (k : Int) ∧ RowV wr cv (mkE (l.take k)) ∧ Turn (fun _ => False) w wr) (fun _ iv _ => n - (intOf iv).toNat)
  case atStart => exact ⟨0, Nat.zero_le _, Nat.zero_le _, rfl, .inl ⟨rfl, rfl⟩, Turn.refl _ _⟩
  case round =>
    obtain ⟨k, hk, hk24, rfl, hrow, htr⟩ := hrel
    obtain ⟨ca, cc, hform⟩ := hrow.form
    subst hform
    have HROW := Lib.hid hrow
    have HTR := Lib.hid htr
    obtain ⟨C, hC⟩ : ∃ C, mkE (l.take k) = C := ⟨_, rfl⟩
    have HG := Lib.hid (show GoodE C from hC ▸ good_mkE _)
    rw [hC] at HROW
    have HC := Lib.hid hC
    obtain ⟨M, hM⟩ : ∃ M, (mkE (l.take k)).length = M := ⟨_, rfl⟩
    rw [hM]
    rw [hC] at hM
    rw [hM] at HROW
    have HM := Lib.hid hM
    clear hrow htr hC hM
    by_cases hlt : k < n ∧ k < 24
    · obtain ⟨hlt, h24⟩ := hlt
      have dk : decide ((k : Int) < (n : Int)) = true := decide_eq_true (by omega)
      have dk2 : decide ((k : Int) < 24) = true := decide_eq_true (by omega)
      have gi : (0 : Int) ≤ (k : Int) ∧ (k : Int) < (n : Int) := by omega
      obtain ⟨g, o, rfl, hc, hs1, hok⟩ := (HV.out.turn HTR.out).one HN.out k hlt
      obtain ⟨x, hx⟩ : ∃ x, l.getD k a40 = x := ⟨_, rfl⟩
      rw [hx] at hs1 hok
      have HST := Lib.hid (show mkE (l.take (k + 1)) = mkStep C x from by rw [takeA_snoc l k (by rw [HN.out]; exact hlt), mkE_snoc, HC.out, hx])
      have HS1 := Lib.hid hs1
      have HOK := Lib.hid hok
      have r1 := hok.k
      have r2 := hok.a
      have r3 := hok.b
      have r4 := hok.c
      have ma : x.a.tmod 30 = x.a % 30 := Int.tmod_eq_emod_of_nonneg r2.1
      have mk : x.k.tmod 5 = x.k % 5 := Int.tmod_eq_emod_of_nonneg r1.1
      have mc : x.c.tmod 4 = x.c % 4 := Int.tmod_eq_emod_of_nonneg r4.1
      have mb30 : x.b.tmod 30 = x.b % 30 := Int.tmod_eq_emod_of_nonneg r3.1
      have mc30 : x.c.tmod 30 = x.c % 30 := Int.tmod_eq_emod_of_nonneg r4.1
      have mb8 : x.b.tmod 8 = x.b % 8 := Int.tmod_eq_emod_of_nonneg r3.1
      have mb3 : x.b.tmod 3 = x.b % 3 := Int.tmod_eq_emod_of_nonneg r3.1
      have mc26 : x.c.tmod 26 = x.c % 26 := Int.tmod_eq_emod_of_nonneg r4.1
      clear hx hs1 hok
      have hba := box_alloc wr 57 a40.vals
      obtain ⟨A, hA⟩ : ∃ A, wr.heap.size = A := ⟨_, rfl⟩
      obtain ⟨wy, hwy⟩ : ∃ wy, wr.alloc (.cells a40.vals.toArray 57) = wy := ⟨_, rfl⟩
      have hx0 : ∀ ev op, op.op = .alloc 57 → (execOp ev op).run Try.prog wr = .ok (.value (.pointer (some ⟨A, 0, none⟩))) wy := fun ev op ho => by rw [← hwy, ← hA]; exact exec_zero70 ev op ho _
      rw [hwy] at hba
      have hha := hba.heap
      rw [hA] at hha
      have hsa := hba.size
      rw [hA] at hsa
      have HX0 := Lib.hid hx0
      have HHA := Lib.hid hha
      have HTA := Lib.hid hba.turn
      have HSA := Lib.hid hsa
      have HA := Lib.hid hA
      clear hba hA hwy hx0 hha hsa
      go_wp2_with (with_reducible (show wpList _ _ _ (Oper.mk (some 23) (.load 57 (.tmp 22)) _ _ _ _ :: _) _ _); refine still ?_)
      refine wpList_load_mid rfl 57 (.tmp 22) rfl g (o + k * 4) rfl x.vals _ HS1.out Try.underlying57 rfl a4_info ?_
      go_wp2_with (with_reducible (show wpList _ _ _ (Oper.mk (some 5) (.alloc 57) _ _ _ _ :: _) _ _); refine still ?_)
      refine list_exec rfl _ _ (HX0.out _ _ rfl) ?_
      go_wp2_with (with_reducible (show wpList _ _ _ (Oper.mk none (.store 57 (.tmp 5) (.tmp 23)) _ _ _ _ :: _) _ _); refine still ?_)
      refine list_put wy A 57 a40.vals x.vals HHA.out rfl x.vals_one a4_info rfl (.tmp 5) (.tmp 23) rfl rfl rfl (fun wa h2 t2 => ?_)
      have HXA := Lib.hid h2
      have TA := Lib.hid (show Turn (fun _ => False) w wa from HTR.out.trans (HTA.out.trans t2 (fun q hq e => by have := HA.out; omega)) (fun _ _ => id))
      have TRA := Lib.hid (show Turn (fun _ => False) wr wa from HTA.out.trans t2 (fun q hq e => by have := HA.out; omega))
      have HLA := Lib.hid (show w.heap.size ≤ A ∧ A < wa.heap.size from by have := HA.out; have := HTR.out.size; have := t2.size; have := HSA.out; omega)
      clear h2 t2 HX0 HHA HTA
      have hbb := box_alloc wa 38 el0.vals
      obtain ⟨E, hE⟩ : ∃ E, wa.heap.size = E := ⟨_, rfl⟩
      obtain ⟨wz, hwz⟩ : ∃ wz, wa.alloc (.cells el0.vals.toArray 38) = wz := ⟨_, rfl⟩
      have hx0 : ∀ ev op, op.op = .alloc 38 → (execOp ev op).run Try.prog wa = .ok (.value (.pointer (some ⟨E, 0, none⟩))) wz := fun ev op ho => by rw [← hwz, ← hE]; exact exec_zero24 ev op ho _
      rw [hwz] at hbb
      have hhh := hbb.heap
      rw [hE] at hhh
      have hxz := (hbb.turn.block A HLA.out.2 id).trans HXA.out
      have HX0 := Lib.hid hx0
      have HTB := Lib.hid hbb.turn
      have HHB := Lib.hid hhh
      have HXZ := Lib.hid hxz
      have HE := Lib.hid hE
      have d0 : wa.cell? ⟨A, 0, none⟩ = some (.int .u8 x.k) := by rw [cell_of_row wa A 0 _ 57 (0, 0) HXA.out]; rfl
      have d1 : wa.cell? ⟨A, 1, none⟩ = some (.int .u8 x.a) := by rw [cell_of_row wa A 1 _ 57 (0, 0) HXA.out]; rfl
      have d3 : wa.cell? ⟨A, 3, none⟩ = some (.int .u8 x.c) := by rw [cell_of_row wa A 3 _ 57 (0, 0) HXA.out]; rfl
      clear hbb hE hwz hx0 hhh hxz
      go_wp2_with (with_reducible (show wpList _ _ _ (Oper.mk (some 37) _ _ _ _ _ :: _) _ _); refine still ?_)
      refine list_exec rfl _ _ (exec_build_iko _ _ (.tmp 28) (.tmp 32) (.tmp 36) (1 + x.a % 30) (1 + x.k % 5) (x.c % 4) rfl rfl rfl rfl _) ?_
      clear d0 d1 d3
      go_wp2_with (with_reducible (show wpList _ _ _ (Oper.mk (some 6) (.alloc 38) _ _ _ _ :: _) _ _); refine still ?_)
      refine list_exec rfl _ _ (HX0.out _ _ rfl) ?_
      go_wp2_with (with_reducible (show wpList _ _ _ (Oper.mk none (.store 38 (.tmp 6) (.tmp 37)) _ _ _ _ :: _) _ _); refine still ?_)
      refine list_put wz E 38 el0.vals (El.iko (1 + x.a % 30) (1 + x.k % 5) (x.c % 4)).vals HHB.out rfl (El.vals_one _) el_info rfl (.tmp 6) (.tmp 37) rfl rfl rfl (fun wb h2 t2 => ?_)
      have MS := Lib.hid (show MkS w wb A E x (baseE x) from ⟨(t2.block A (Array.getElem?_eq_some_iff.1 HXZ.out).1 (by have := HE.out; have := HLA.out; omega)).trans HXZ.out, h2, TA.out.trans (HTB.out.trans t2 (fun q hq e => by have := HE.out; omega)) (fun _ _ => id), by have := HE.out; have := HLA.out; omega, by have := HE.out; have := HLA.out; omega⟩)
      have TRB := Lib.hid (show Turn (fun _ => False) wr wb from TRA.out.trans (HTB.out.trans t2 (fun q hq e => by have := HE.out; omega)) (fun _ _ => id))
      clear h2 t2 HX0 HHB HTB HXZ
      have u0 := MS.out.e 0 (.int .i64 (1 + x.a % 30)) rfl
      go_wp2_with fail
      refine (rfind_any wb _ C (1 + x.a % 30) (HROW.out.turn TRB.out (fun _ _ => id)) (by have := HG.out.len; omega)).mono ?_
      rintro r w' ⟨⟨q, hq, hid, hne, rfl⟩ | ⟨hne, rfl⟩, rfl⟩
      · have HAT := Lib.hid (show mkStep C x = C from by unfold mkStep; rw [actE_id, atE_some hq hid hne]; rfl)
        have dq : decide ((0 : Int) ≤ (q : Int)) = true := decide_eq_true (by omega)
        clear hid hne
        go_wp2_with fail
        go_roundw
        case rel => exact ⟨k + 1, by omega, by omega, by go_num, by rw [HST.out, HAT.out]; exact HROW.out.turn TRB.out (fun _ _ => id), MS.out.t⟩
        case measure => simp [intOf]; omega
      have HAT := Lib.hid (atE_none hne)
      clear hne u0
      by_cases h5 : 1 + x.k % 5 = 5
      · have HK5 := Lib.hid h5
        have u1 := MS.out.e 1 (.int .u8 (1 + x.k % 5)) rfl
        have e5 : ((1 + x.k % 5) == 5) = true := by simpa using h5
        have k2 := MS.out.a 2 (.int .u8 x.b) rfl
        go_wp2_with (with_reducible (show wpList _ _ _ (Oper.mk none (.store 3 (.tmp 51) (.tmp 50)) _ _ _ _ :: _) _ _); refine still ?_)
        refine list_set1 wb E 38 3 _ 5 (.int .i64 (1 + x.b % 30)) MS.out.he (show 5 < 10 by decide) rfl rfl (by kernel_rfl) rfl (.tmp 51) (.tmp 50) rfl rfl rfl (fun wc h2 t2 => ?_)
        have TRC := Lib.hid (show Turn (fun _ => False) wr wc from TRB.out.trans t2 (fun q hq e => by have := HE.out; have := TRA.out.size; omega))
        have MS := Lib.hid (MS.out.set (e' := ⟨1 + x.a % 30, 1 + x.k % 5, 0, x.c % 4, e0, 1 + x.b % 30, 0, e0, e0, e0⟩) h2 t2 rfl)
        clear h2 t2
        clear k2 u1
        have k3 := MS.out.a 3 (.int .u8 x.c) rfl
        go_wp2_with (with_reducible (show wpList _ _ _ (Oper.mk none (.store 3 (.tmp 57) (.tmp 56)) _ _ _ _ :: _) _ _); refine still ?_)
        refine list_set1 wc E 38 3 _ 6 (.int .i64 (1 + x.c % 30)) MS.out.he (show 6 < 10 by decide) rfl rfl (by kernel_rfl) rfl (.tmp 57) (.tmp 56) rfl rfl rfl (fun wd h2 t2 => ?_)
        have TRD := Lib.hid (show Turn (fun _ => False) wr wd from TRC.out.trans t2 (fun q hq e => by have := HE.out; have := TRA.out.size; omega))
        have MS := Lib.hid (MS.out.set (e' := ⟨1 + x.a % 30, 1 + x.k % 5, 0, x.c % 4, e0, 1 + x.b % 30, 1 + x.c % 30, e0, e0, e0⟩) h2 t2 rfl)
        clear h2 t2
        clear k3
        have k2 := MS.out.a 2 (.int .u8 x.b) rfl
        go_wp2_with fail
        refine (rtext_any x.b (by omega) wd).mono ?_
        rintro r we ⟨rfl, t2⟩
        have TRE := Lib.hid (TRD.out.trans t2 (fun _ _ => id))
        have MS := Lib.hid (MS.out.turn t2)
        clear t2
        clear k2
        go_wp2_with (with_reducible (show wpList _ _ _ (Oper.mk none (.store 9 (.tmp 62) (.tmp 61)) _ _ _ _ :: _) _ _); refine still ?_)
        refine list_set1 we E 38 9 _ 7 (.string (textE x.b)) MS.out.he (show 7 < 10 by decide) rfl rfl (by kernel_rfl) rfl (.tmp 62) (.tmp 61) rfl rfl rfl (fun wf h2 t2 => ?_)
        have TRF := Lib.hid (show Turn (fun _ => False) wr wf from TRE.out.trans t2 (fun q hq e => by have := HE.out; have := TRA.out.size; omega))
        have MS := Lib.hid (MS.out.set (e' := ⟨1 + x.a % 30, 1 + x.k % 5, 0, x.c % 4, e0, 1 + x.b % 30, 1 + x.c % 30, textE x.b, e0, e0⟩) h2 t2 rfl)
        clear h2 t2
        have k3 := MS.out.a 3 (.int .u8 x.c) rfl
        go_wp2_with fail
        refine (rtext_any x.c (by omega) wf).mono ?_
        rintro r wg ⟨rfl, t2⟩
        have TRG := Lib.hid (TRF.out.trans t2 (fun _ _ => id))
        have MS := Lib.hid (MS.out.turn t2)
        clear t2
        clear k3
        go_wp2_with (with_reducible (show wpList _ _ _ (Oper.mk none (.store 9 (.tmp 67) (.tmp 66)) _ _ _ _ :: _) _ _); refine still ?_)
        refine list_set1 wg E 38 9 _ 8 (.string (textE x.c)) MS.out.he (show 8 < 10 by decide) rfl rfl (by kernel_rfl) rfl (.tmp 67) (.tmp 66) rfl rfl rfl (fun wh h2 t2 => ?_)
        have TRH := Lib.hid (show Turn (fun _ => False) wr wh from TRG.out.trans t2 (fun q hq e => by have := HE.out; have := TRA.out.size; omega))
        have MS := Lib.hid (MS.out.set (e' := ⟨1 + x.a % 30, 1 + x.k % 5, 0, x.c % 4, e0, 1 + x.b % 30, 1 + x.c % 30, textE x.b, textE x.c, e0⟩) h2 t2 rfl)
        clear h2 t2
        have k0 := MS.out.a 0 (.int .u8 x.k) rfl
        go_wp2_with fail
        refine (rtext_any x.k (by omega) wh).mono ?_
        rintro r wi ⟨rfl, t2⟩
        have TRI := Lib.hid (TRH.out.trans t2 (fun _ _ => id))
        have MS := Lib.hid (MS.out.turn t2)
        clear t2
        clear k0
        go_wp2_with (with_reducible (show wpList _ _ _ (Oper.mk none (.store 9 (.tmp 72) (.tmp 71)) _ _ _ _ :: _) _ _); refine still ?_)
        refine list_set1 wi E 38 9 _ 9 (.string (textE x.k)) MS.out.he (show 9 < 10 by decide) rfl rfl (by kernel_rfl) rfl (.tmp 72) (.tmp 71) rfl rfl rfl (fun wj h2 t2 => ?_)
        have TRJ := Lib.hid (show Turn (fun _ => False) wr wj from TRI.out.trans t2 (fun q hq e => by have := HE.out; have := TRA.out.size; omega))
        have MS := Lib.hid (MS.out.set (e' := ⟨1 + x.a % 30, 1 + x.k % 5, 0, x.c % 4, e0, 1 + x.b % 30, 1 + x.c % 30, textE x.b, textE x.c, textE x.k⟩) h2 t2 rfl)
        clear h2 t2
        obtain ⟨e9, he9⟩ : ∃ e9, actE x = e9 := ⟨_, rfl⟩
        have HEQ := Lib.hid he9
        have he8 : actE x = ⟨1 + x.a % 30, 1 + x.k % 5, 0, x.c % 4, e0, 1 + x.b % 30, 1 + x.c % 30, textE x.b, textE x.c, textE x.k⟩ := by unfold actE; rw [if_pos HK5.out]
        rw [← he8, he9] at MS
        have HNM := Lib.hid (show namedE e9 = false from by rw [← he9, namedE, actE_kind, HK5.out]; rfl)
        clear he8 he9 e5 h5
        go_wp2_with (with_reducible (show wpList _ _ _ (Oper.mk (some 83) (.load 38 (.tmp 6)) _ _ _ _ :: _) _ _); refine still ?_)
        refine wpList_load_mid rfl 38 (.tmp 6) rfl E 0 rfl e9.vals _ (range_of MS.out.he) Try.underlying38 rfl el_info ?_
        go_wp2_with fail
        refine (named_any e9 wj).mono ?_
        rintro r wn ⟨rfl, t2⟩
        rw [HNM.out]
        have TRN := Lib.hid (TRJ.out.trans t2 (fun _ _ => id))
        have MS := Lib.hid (MS.out.turn t2)
        clear t2
        have TRT := TRN
        obtain ⟨wt, hwt⟩ : ∃ wt, wt = wn := ⟨_, rfl⟩
        subst hwt
        have HT9 := Lib.hid (show Turn (fun _ => False) wr wt from TRT.out)
        go_wp2_with (with_reducible (show wpList _ _ _ (Oper.mk (some 94) (.load 38 (.tmp 6)) _ _ _ _ :: _) _ _); refine still ?_)
        refine wpList_load_mid rfl 38 (.tmp 6) rfl E 0 rfl e9.vals _ (range_of MS.out.he) Try.underlying38 rfl el_info ?_
        go_wp2_with fail
        refine (rput_good wt _ C e9 (HROW.out.turn HT9.out (fun _ _ => id)) HG.out).mono ?_
        rintro r w5 ⟨u, rfl, hrow5, t5⟩
        obtain ⟨ua, uc, hf5⟩ := hrow5.form
        subst hf5
        obtain ⟨D, hD⟩ : ∃ D, putE C e9 = D := ⟨_, rfl⟩
        rw [hD] at hrow5
        obtain ⟨DM, hDM⟩ : ∃ DM, D.length = DM := ⟨_, rfl⟩
        rw [hD, hDM]
        rw [hDM] at hrow5
        have HR5 := Lib.hid hrow5
        have HD := Lib.hid hD
        have HDM := Lib.hid hDM
        have T5 := Lib.hid (MS.out.t.trans t5 (fun _ _ => id))
        have HROW5 := Lib.hid (HROW.out.turn (HT9.out.trans t5 (fun _ _ => id)) (fun _ _ => id))
        have HDL := Lib.hid (show D.length ≤ 1000 from by have := putE_len C e9; rw [hD] at this; have := HG.out.len; omega)
        clear hrow5 hD hDM t5
        go_wp2_with fail
        refine (check_any w5 _ D HR5.out HDL.out).mono ?_
        rintro r w6 ⟨rfl, t6⟩
        have HR6 := Lib.hid (HR5.out.turn t6 (fun _ _ => id))
        have HROW6 := Lib.hid (HROW5.out.turn t6 (fun _ _ => id))
        have T6 := Lib.hid (T5.out.trans t6 (fun _ _ => id))
        obtain ⟨R1, hR1⟩ : ∃ R1, (checkE D).1 = R1 := ⟨_, rfl⟩
        obtain ⟨R2, hR2⟩ : ∃ R2, (checkE D).2 = R2 := ⟨_, rfl⟩
        rw [hR1, hR2]
        have HSTEP := Lib.hid (show mkStep C x = if R1 = 0 then D else C from by unfold mkStep; rw [actE_id, HAT.out, HEQ.out, HD.out, hR1]; rfl)
        clear t6 hR1 hR2
        by_cases h0 : R1 = 0
        · have d0 : (R1 == 0) = true := by simpa using h0
          have HF := Lib.hid (show mkStep C x = D from by rw [HSTEP.out, if_pos h0])
          clear h0
          go_wp2_with fail
          go_roundw
          case rel => exact ⟨k + 1, by omega, by omega, by go_num, by rw [HST.out, HF.out]; exact HR6.out, T6.out⟩
          case measure => simp [intOf]; omega
        · have d0 : (R1 == 0) = false := by simpa using h0
          have HF := Lib.hid (show mkStep C x = C from by rw [HSTEP.out, if_neg h0])
          clear h0
          go_wp2_with fail
          go_roundw
          case rel => exact ⟨k + 1, by omega, by omega, by go_num, by rw [HST.out, HF.out]; exact HROW6.out, T6.out⟩
          case measure => simp [intOf]; omega
      · have HK5 := Lib.hid h5
        have u1 := MS.out.e 1 (.int .u8 (1 + x.k % 5)) rfl
        have e5 : ((1 + x.k % 5) == 5) = false := by simpa using h5
        have k2 := MS.out.a 2 (.int .u8 x.b) rfl
        go_wp2_with (with_reducible (show wpList _ _ _ (Oper.mk none (.store 3 (.tmp 77) (.tmp 76)) _ _ _ _ :: _) _ _); refine still ?_)
        refine list_set1 wb E 38 3 _ 2 (.int .i64 (x.b % 8)) MS.out.he (show 2 < 10 by decide) rfl rfl (by kernel_rfl) rfl (.tmp 77) (.tmp 76) rfl rfl rfl (fun wc h2 t2 => ?_)
        have TRC := Lib.hid (show Turn (fun _ => False) wr wc from TRB.out.trans t2 (fun q hq e => by have := HE.out; have := TRA.out.size; omega))
        have MS := Lib.hid (MS.out.set (e' := ⟨1 + x.a % 30, 1 + x.k % 5, x.b % 8, x.c % 4, e0, 0, 0, e0, e0, e0⟩) h2 t2 rfl)
        clear h2 t2
        clear u1 k2
        have k2 := MS.out.a 2 (.int .u8 x.b) rfl
        by_cases h3 : x.b % 3 = 0
        · have e3 : (x.b % 3 == 0) = true := by simpa using h3
          have HPE := Lib.hid (show parE x = 0 from by unfold parE; rw [if_pos h3])
          go_wp2_with (with_reducible (show wpList _ _ _ (Oper.mk none (.store 3 (.tmp 82) _) _ _ _ _ :: _) _ _); refine still ?_)
          refine list_set1 wc E 38 3 _ 2 (.int .i64 0) MS.out.he (show 2 < 10 by decide) rfl rfl (by kernel_rfl) rfl (.tmp 82) (.const (.int .i64 0)) rfl rfl rfl (fun wd h2 t2 => ?_)
          have TRD := Lib.hid (show Turn (fun _ => False) wr wd from TRC.out.trans t2 (fun q hq e => by have := HE.out; have := TRA.out.size; omega))
          have MS := Lib.hid (MS.out.set (e' := ⟨1 + x.a % 30, 1 + x.k % 5, 0, x.c % 4, e0, 0, 0, e0, e0, e0⟩) h2 t2 rfl)
          clear h2 t2 k2 e3 h3
          cases hnb : namedE (baseE x)
          · have HNB := Lib.hid hnb
            obtain ⟨e9, he9⟩ : ∃ e9, actE x = e9 := ⟨_, rfl⟩
            have HEQ := Lib.hid he9
            have he8 : actE x = ⟨1 + x.a % 30, 1 + x.k % 5, parE x, x.c % 4, e0, 0, 0, e0, e0, e0⟩ := by unfold actE; rw [if_neg HK5.out, HNB.out]; rfl
            rw [HPE.out, he9] at he8
            rw [← he8] at MS
            have HNM := Lib.hid (show namedE e9 = false from by rw [he8]; exact HNB.out)
            clear he8 he9 e5 h5 hnb
            go_wp2_with (with_reducible (show wpList _ _ _ (Oper.mk (some 83) (.load 38 (.tmp 6)) _ _ _ _ :: _) _ _); refine still ?_)
            refine wpList_load_mid rfl 38 (.tmp 6) rfl E 0 rfl e9.vals _ (range_of MS.out.he) Try.underlying38 rfl el_info ?_
            go_wp2_with fail
            refine (named_any e9 wd).mono ?_
            rintro r wn ⟨rfl, t2⟩
            rw [HNM.out]
            have TRN := Lib.hid (TRD.out.trans t2 (fun _ _ => id))
            have MS := Lib.hid (MS.out.turn t2)
            clear t2
            have TRT := TRN
            obtain ⟨wt, hwt⟩ : ∃ wt, wt = wn := ⟨_, rfl⟩
            subst hwt
            have HT9 := Lib.hid (show Turn (fun _ => False) wr wt from TRT.out)
            go_wp2_with (with_reducible (show wpList _ _ _ (Oper.mk (some 94) (.load 38 (.tmp 6)) _ _ _ _ :: _) _ _); refine still ?_)
            refine wpList_load_mid rfl 38 (.tmp 6) rfl E 0 rfl e9.vals _ (range_of MS.out.he) Try.underlying38 rfl el_info ?_
            go_wp2_with fail
            refine (rput_good wt _ C e9 (HROW.out.turn HT9.out (fun _ _ => id)) HG.out).mono ?_
            rintro r w5 ⟨u, rfl, hrow5, t5⟩
            obtain ⟨ua, uc, hf5⟩ := hrow5.form
            subst hf5
            obtain ⟨D, hD⟩ : ∃ D, putE C e9 = D := ⟨_, rfl⟩
            rw [hD] at hrow5
            obtain ⟨DM, hDM⟩ : ∃ DM, D.length = DM := ⟨_, rfl⟩
            rw [hD, hDM]
            rw [hDM] at hrow5
            have HR5 := Lib.hid hrow5
            have HD := Lib.hid hD
            have HDM := Lib.hid hDM
            have T5 := Lib.hid (MS.out.t.trans t5 (fun _ _ => id))
            have HROW5 := Lib.hid (HROW.out.turn (HT9.out.trans t5 (fun _ _ => id)) (fun _ _ => id))
            have HDL := Lib.hid (show D.length ≤ 1000 from by have := putE_len C e9; rw [hD] at this; have := HG.out.len; omega)
            clear hrow5 hD hDM t5
            go_wp2_with fail
            refine (check_any w5 _ D HR5.out HDL.out).mono ?_
            rintro r w6 ⟨rfl, t6⟩
            have HR6 := Lib.hid (HR5.out.turn t6 (fun _ _ => id))
            have HROW6 := Lib.hid (HROW5.out.turn t6 (fun _ _ => id))
            have T6 := Lib.hid (T5.out.trans t6 (fun _ _ => id))
            obtain ⟨R1, hR1⟩ : ∃ R1, (checkE D).1 = R1 := ⟨_, rfl⟩
            obtain ⟨R2, hR2⟩ : ∃ R2, (checkE D).2 = R2 := ⟨_, rfl⟩
            rw [hR1, hR2]
            have HSTEP := Lib.hid (show mkStep C x = if R1 = 0 then D else C from by unfold mkStep; rw [actE_id, HAT.out, HEQ.out, HD.out, hR1]; rfl)
            clear t6 hR1 hR2
            by_cases h0 : R1 = 0
            · have d0 : (R1 == 0) = true := by simpa using h0
              have HF := Lib.hid (show mkStep C x = D from by rw [HSTEP.out, if_pos h0])
              clear h0
              go_wp2_with fail
              go_roundw
              case rel => exact ⟨k + 1, by omega, by omega, by go_num, by rw [HST.out, HF.out]; exact HR6.out, T6.out⟩
              case measure => simp [intOf]; omega
            · have d0 : (R1 == 0) = false := by simpa using h0
              have HF := Lib.hid (show mkStep C x = C from by rw [HSTEP.out, if_neg h0])
              clear h0
              go_wp2_with fail
              go_roundw
              case rel => exact ⟨k + 1, by omega, by omega, by go_num, by rw [HST.out, HF.out]; exact HROW6.out, T6.out⟩
              case measure => simp [intOf]; omega
          · have HNB := Lib.hid hnb
            obtain ⟨e8, he8⟩ : ∃ e8 : El, e8 = ⟨1 + x.a % 30, 1 + x.k % 5, parE x, x.c % 4, e0, 0, 0, e0, e0, e0⟩ := ⟨_, rfl⟩
            have HE8 := Lib.hid he8
            rw [HPE.out] at he8
            rw [← he8] at MS
            have HNM := Lib.hid (show namedE e8 = true from by rw [he8]; exact HNB.out)
            clear he8 e5 h5 hnb
            go_wp2_with (with_reducible (show wpList _ _ _ (Oper.mk (some 83) (.load 38 (.tmp 6)) _ _ _ _ :: _) _ _); refine still ?_)
            refine wpList_load_mid rfl 38 (.tmp 6) rfl E 0 rfl e8.vals _ (range_of MS.out.he) Try.underlying38 rfl el_info ?_
            go_wp2_with fail
            refine (named_any e8 wd).mono ?_
            rintro r wn ⟨rfl, t2⟩
            rw [HNM.out]
            have TRN := Lib.hid (TRD.out.trans t2 (fun _ _ => id))
            have MS := Lib.hid (MS.out.turn t2)
            clear t2
            have hb := box_alloc wn 5 [.int .u8 (97 + x.c % 26)]
            have hr : Reads (wn.alloc (.cells #[.int .u8 (97 + x.c % 26)] 5)) (.slice (some ⟨wn.heap.size, 0, none⟩) 1 1) [97 + x.c % 26] := by
              refine .inr ⟨wn.heap.size, 0, 1, rfl, Nat.le_refl _, fun i hi => ?_⟩
              rw [cell_of_row _ _ _ _ 5 (0, 0) (heap_alloc_new wn _)]
              have : i = 0 := by simp at hi; omega
              subst this; rfl
            have hcv := hr.conv
            have t1 : Turn (fun _ => False) wn (wn.alloc (.cells #[.int .u8 (97 + x.c % 26)] 5)) := hb.turn
            obtain ⟨wo, hwo⟩ : ∃ wo, wn.alloc (.cells #[.int .u8 (97 + x.c % 26)] 5) = wo := ⟨_, rfl⟩
            rw [hwo] at hcv t1
            obtain ⟨S, hS⟩ : ∃ S, strOfNums [97 + x.c % 26] = S := ⟨_, rfl⟩
            rw [hS] at hcv
            have hsz : S.size = 1 := by rw [← hS]; rfl
            have HSS := Lib.hid (show nameE x = ({ data := #[110] } : ByteArray) ++ S from by rw [nameE, hS])
            have TRO := Lib.hid (TRN.out.trans t1 (fun _ _ => id))
            have MSO := Lib.hid (MS.out.turn t1)
            have k3 := MS.out.a 3 (.int .u8 x.c) rfl
            clear hb hr t1 hS
            have MS := MSO
            go_wp2_with (with_reducible (show wpList _ _ _ (Oper.mk none (.store 9 (.tmp 92) (.tmp 91)) _ _ _ _ :: _) _ _); refine still ?_)
            refine list_set1 wo E 38 9 _ 4 (.string (({ data := #[110] } : ByteArray) ++ S)) MS.out.he (show 4 < 10 by decide) rfl rfl (by kernel_rfl) rfl (.tmp 92) (.tmp 91) rfl rfl rfl (fun wt h2 t2 => ?_)
            have TRT := Lib.hid (show Turn (fun _ => False) wr wt from TRO.out.trans t2 (fun q hq e => by have := HE.out; have := TRA.out.size; omega))
            have MS := Lib.hid (MS.out.set (e' := { e8 with name := ({ data := #[110] } : ByteArray) ++ S }) h2 t2 rfl)
            clear h2 t2
            clear hcv hwo k3 hsz
            obtain ⟨e9, he9⟩ : ∃ e9, actE x = e9 := ⟨_, rfl⟩
            have HEQ := Lib.hid he9
            have he7 : ({ e8 with name := ({ data := #[110] } : ByteArray) ++ S } : El) = e9 := by rw [← HSS.out, HE8.out, ← he9]; unfold actE; rw [if_neg HK5.out, if_pos HNB.out]
            rw [he7] at MS
            clear he7 he9
            have HT9 := Lib.hid (show Turn (fun _ => False) wr wt from TRT.out)
            go_wp2_with (with_reducible (show wpList _ _ _ (Oper.mk (some 94) (.load 38 (.tmp 6)) _ _ _ _ :: _) _ _); refine still ?_)
            refine wpList_load_mid rfl 38 (.tmp 6) rfl E 0 rfl e9.vals _ (range_of MS.out.he) Try.underlying38 rfl el_info ?_
            go_wp2_with fail
            refine (rput_good wt _ C e9 (HROW.out.turn HT9.out (fun _ _ => id)) HG.out).mono ?_
            rintro r w5 ⟨u, rfl, hrow5, t5⟩
            obtain ⟨ua, uc, hf5⟩ := hrow5.form
            subst hf5
            obtain ⟨D, hD⟩ : ∃ D, putE C e9 = D := ⟨_, rfl⟩
            rw [hD] at hrow5
            obtain ⟨DM, hDM⟩ : ∃ DM, D.length = DM := ⟨_, rfl⟩
            rw [hD, hDM]
            rw [hDM] at hrow5
            have HR5 := Lib.hid hrow5
            have HD := Lib.hid hD
            have HDM := Lib.hid hDM
            have T5 := Lib.hid (MS.out.t.trans t5 (fun _ _ => id))
            have HROW5 := Lib.hid (HROW.out.turn (HT9.out.trans t5 (fun _ _ => id)) (fun _ _ => id))
            have HDL := Lib.hid (show D.length ≤ 1000 from by have := putE_len C e9; rw [hD] at this; have := HG.out.len; omega)
            clear hrow5 hD hDM t5
            go_wp2_with fail
            refine (check_any w5 _ D HR5.out HDL.out).mono ?_
            rintro r w6 ⟨rfl, t6⟩
            have HR6 := Lib.hid (HR5.out.turn t6 (fun _ _ => id))
            have HROW6 := Lib.hid (HROW5.out.turn t6 (fun _ _ => id))
            have T6 := Lib.hid (T5.out.trans t6 (fun _ _ => id))
            obtain ⟨R1, hR1⟩ : ∃ R1, (checkE D).1 = R1 := ⟨_, rfl⟩
            obtain ⟨R2, hR2⟩ : ∃ R2, (checkE D).2 = R2 := ⟨_, rfl⟩
            rw [hR1, hR2]
            have HSTEP := Lib.hid (show mkStep C x = if R1 = 0 then D else C from by unfold mkStep; rw [actE_id, HAT.out, HEQ.out, HD.out, hR1]; rfl)
            clear t6 hR1 hR2
            by_cases h0 : R1 = 0
            · have d0 : (R1 == 0) = true := by simpa using h0
              have HF := Lib.hid (show mkStep C x = D from by rw [HSTEP.out, if_pos h0])
              clear h0
              go_wp2_with fail
              go_roundw
              case rel => exact ⟨k + 1, by omega, by omega, by go_num, by rw [HST.out, HF.out]; exact HR6.out, T6.out⟩
              case measure => simp [intOf]; omega
            · have d0 : (R1 == 0) = false := by simpa using h0
              have HF := Lib.hid (show mkStep C x = C from by rw [HSTEP.out, if_neg h0])
              clear h0
              go_wp2_with fail
              go_roundw
              case rel => exact ⟨k + 1, by omega, by omega, by go_num, by rw [HST.out, HF.out]; exact HROW6.out, T6.out⟩
              case measure => simp [intOf]; omega
        · have e3 : (x.b % 3 == 0) = false := by simpa using h3
          have HPE := Lib.hid (show parE x = x.b % 8 from by unfold parE; rw [if_neg h3])
          cases hnb : namedE (baseE x)
          · have HNB := Lib.hid hnb
            obtain ⟨e9, he9⟩ : ∃ e9, actE x = e9 := ⟨_, rfl⟩
            have HEQ := Lib.hid he9
            have he8 : actE x = ⟨1 + x.a % 30, 1 + x.k % 5, parE x, x.c % 4, e0, 0, 0, e0, e0, e0⟩ := by unfold actE; rw [if_neg HK5.out, HNB.out]; rfl
            rw [HPE.out, he9] at he8
            rw [← he8] at MS
            have HNM := Lib.hid (show namedE e9 = false from by rw [he8]; exact HNB.out)
            clear he8 he9 e5 h5 hnb
            go_wp2_with (with_reducible (show wpList _ _ _ (Oper.mk (some 83) (.load 38 (.tmp 6)) _ _ _ _ :: _) _ _); refine still ?_)
            refine wpList_load_mid rfl 38 (.tmp 6) rfl E 0 rfl e9.vals _ (range_of MS.out.he) Try.underlying38 rfl el_info ?_
            go_wp2_with fail
            refine (named_any e9 wc).mono ?_
            rintro r wn ⟨rfl, t2⟩
            rw [HNM.out]
            have TRN := Lib.hid (TRC.out.trans t2 (fun _ _ => id))
            have MS := Lib.hid (MS.out.turn t2)
            clear t2
            have TRT := TRN
            obtain ⟨wt, hwt⟩ : ∃ wt, wt = wn := ⟨_, rfl⟩
            subst hwt
            have HT9 := Lib.hid (show Turn (fun _ => False) wr wt from TRT.out)
            go_wp2_with (with_reducible (show wpList _ _ _ (Oper.mk (some 94) (.load 38 (.tmp 6)) _ _ _ _ :: _) _ _); refine still ?_)
            refine wpList_load_mid rfl 38 (.tmp 6) rfl E 0 rfl e9.vals _ (range_of MS.out.he) Try.underlying38 rfl el_info ?_
            go_wp2_with fail
            refine (rput_good wt _ C e9 (HROW.out.turn HT9.out (fun _ _ => id)) HG.out).mono ?_
            rintro r w5 ⟨u, rfl, hrow5, t5⟩
            obtain ⟨ua, uc, hf5⟩ := hrow5.form
            subst hf5
            obtain ⟨D, hD⟩ : ∃ D, putE C e9 = D := ⟨_, rfl⟩
            rw [hD] at hrow5
            obtain ⟨DM, hDM⟩ : ∃ DM, D.length = DM := ⟨_, rfl⟩
            rw [hD, hDM]
            rw [hDM] at hrow5
            have HR5 := Lib.hid hrow5
            have HD := Lib.hid hD
            have HDM := Lib.hid hDM
            have T5 := Lib.hid (MS.out.t.trans t5 (fun _ _ => id))
            have HROW5 := Lib.hid (HROW.out.turn (HT9.out.trans t5 (fun _ _ => id)) (fun _ _ => id))
            have HDL := Lib.hid (show D.length ≤ 1000 from by have := putE_len C e9; rw [hD] at this; have := HG.out.len; omega)
            clear hrow5 hD hDM t5
            go_wp2_with fail
            refine (check_any w5 _ D HR5.out HDL.out).mono ?_
            rintro r w6 ⟨rfl, t6⟩
            have HR6 := Lib.hid (HR5.out.turn t6 (fun _ _ => id))
            have HROW6 := Lib.hid (HROW5.out.turn t6 (fun _ _ => id))
            have T6 := Lib.hid (T5.out.trans t6 (fun _ _ => id))
            obtain ⟨R1, hR1⟩ : ∃ R1, (checkE D).1 = R1 := ⟨_, rfl⟩
            obtain ⟨R2, hR2⟩ : ∃ R2, (checkE D).2 = R2 := ⟨_, rfl⟩
            rw [hR1, hR2]
            have HSTEP := Lib.hid (show mkStep C x = if R1 = 0 then D else C from by unfold mkStep; rw [actE_id, HAT.out, HEQ.out, HD.out, hR1]; rfl)
            clear t6 hR1 hR2
            by_cases h0 : R1 = 0
            · have d0 : (R1 == 0) = true := by simpa using h0
              have HF := Lib.hid (show mkStep C x = D from by rw [HSTEP.out, if_pos h0])
              clear h0
              go_wp2_with fail
              go_roundw
              case rel => exact ⟨k + 1, by omega, by omega, by go_num, by rw [HST.out, HF.out]; exact HR6.out, T6.out⟩
              case measure => simp [intOf]; omega
            · have d0 : (R1 == 0) = false := by simpa using h0
              have HF := Lib.hid (show mkStep C x = C from by rw [HSTEP.out, if_neg h0])
              clear h0
              go_wp2_with fail
              go_roundw
              case rel => exact ⟨k + 1, by omega, by omega, by go_num, by rw [HST.out, HF.out]; exact HROW6.out, T6.out⟩
              case measure => simp [intOf]; omega
          · have HNB := Lib.hid hnb
            obtain ⟨e8, he8⟩ : ∃ e8 : El, e8 = ⟨1 + x.a % 30, 1 + x.k % 5, parE x, x.c % 4, e0, 0, 0, e0, e0, e0⟩ := ⟨_, rfl⟩
            have HE8 := Lib.hid he8
            rw [HPE.out] at he8
            rw [← he8] at MS
            have HNM := Lib.hid (show namedE e8 = true from by rw [he8]; exact HNB.out)
            clear he8 e5 h5 hnb
            go_wp2_with (with_reducible (show wpList _ _ _ (Oper.mk (some 83) (.load 38 (.tmp 6)) _ _ _ _ :: _) _ _); refine still ?_)
            refine wpList_load_mid rfl 38 (.tmp 6) rfl E 0 rfl e8.vals _ (range_of MS.out.he) Try.underlying38 rfl el_info ?_
            go_wp2_with fail
            refine (named_any e8 wc).mono ?_
            rintro r wn ⟨rfl, t2⟩
            rw [HNM.out]
            have TRN := Lib.hid (TRC.out.trans t2 (fun _ _ => id))
            have MS := Lib.hid (MS.out.turn t2)
            clear t2
            have hb := box_alloc wn 5 [.int .u8 (97 + x.c % 26)]
            have hr : Reads (wn.alloc (.cells #[.int .u8 (97 + x.c % 26)] 5)) (.slice (some ⟨wn.heap.size, 0, none⟩) 1 1) [97 + x.c % 26] := by
              refine .inr ⟨wn.heap.size, 0, 1, rfl, Nat.le_refl _, fun i hi => ?_⟩
              rw [cell_of_row _ _ _ _ 5 (0, 0) (heap_alloc_new wn _)]
              have : i = 0 := by simp at hi; omega
              subst this; rfl
            have hcv := hr.conv
            have t1 : Turn (fun _ => False) wn (wn.alloc (.cells #[.int .u8 (97 + x.c % 26)] 5)) := hb.turn
            obtain ⟨wo, hwo⟩ : ∃ wo, wn.alloc (.cells #[.int .u8 (97 + x.c % 26)] 5) = wo := ⟨_, rfl⟩
            rw [hwo] at hcv t1
            obtain ⟨S, hS⟩ : ∃ S, strOfNums [97 + x.c % 26] = S := ⟨_, rfl⟩
            rw [hS] at hcv
            have hsz : S.size = 1 := by rw [← hS]; rfl
            have HSS := Lib.hid (show nameE x = ({ data := #[110] } : ByteArray) ++ S from by rw [nameE, hS])
            have TRO := Lib.hid (TRN.out.trans t1 (fun _ _ => id))
            have MSO := Lib.hid (MS.out.turn t1)
            have k3 := MS.out.a 3 (.int .u8 x.c) rfl
            clear hb hr t1 hS
            have MS := MSO
            go_wp2_with (with_reducible (show wpList _ _ _ (Oper.mk none (.store 9 (.tmp 92) (.tmp 91)) _ _ _ _ :: _) _ _); refine still ?_)
            refine list_set1 wo E 38 9 _ 4 (.string (({ data := #[110] } : ByteArray) ++ S)) MS.out.he (show 4 < 10 by decide) rfl rfl (by kernel_rfl) rfl (.tmp 92) (.tmp 91) rfl rfl rfl (fun wt h2 t2 => ?_)
            have TRT := Lib.hid (show Turn (fun _ => False) wr wt from TRO.out.trans t2 (fun q hq e => by have := HE.out; have := TRA.out.size; omega))
            have MS := Lib.hid (MS.out.set (e' := { e8 with name := ({ data := #[110] } : ByteArray) ++ S }) h2 t2 rfl)
            clear h2 t2
            clear hcv hwo k3 hsz
            obtain ⟨e9, he9⟩ : ∃ e9, actE x = e9 := ⟨_, rfl⟩
            have HEQ := Lib.hid he9
            have he7 : ({ e8 with name := ({ data := #[110] } : ByteArray) ++ S } : El) = e9 := by rw [← HSS.out, HE8.out, ← he9]; unfold actE; rw [if_neg HK5.out, if_pos HNB.out]
            rw [he7] at MS
            clear he7 he9
            have HT9 := Lib.hid (show Turn (fun _ => False) wr wt from TRT.out)
            go_wp2_with (with_reducible (show wpList _ _ _ (Oper.mk (some 94) (.load 38 (.tmp 6)) _ _ _ _ :: _) _ _); refine still ?_)
            refine wpList_load_mid rfl 38 (.tmp 6) rfl E 0 rfl e9.vals _ (range_of MS.out.he) Try.underlying38 rfl el_info ?_
            go_wp2_with fail
            refine (rput_good wt _ C e9 (HROW.out.turn HT9.out (fun _ _ => id)) HG.out).mono ?_
            rintro r w5 ⟨u, rfl, hrow5, t5⟩
            obtain ⟨ua, uc, hf5⟩ := hrow5.form
            subst hf5
            obtain ⟨D, hD⟩ : ∃ D, putE C e9 = D := ⟨_, rfl⟩
            rw [hD] at hrow5
            obtain ⟨DM, hDM⟩ : ∃ DM, D.length = DM := ⟨_, rfl⟩
            rw [hD, hDM]
            rw [hDM] at hrow5
            have HR5 := Lib.hid hrow5
            have HD := Lib.hid hD
            have HDM := Lib.hid hDM
            have T5 := Lib.hid (MS.out.t.trans t5 (fun _ _ => id))
            have HROW5 := Lib.hid (HROW.out.turn (HT9.out.trans t5 (fun _ _ => id)) (fun _ _ => id))
            have HDL := Lib.hid (show D.length ≤ 1000 from by have := putE_len C e9; rw [hD] at this; have := HG.out.len; omega)
            clear hrow5 hD hDM t5
            go_wp2_with fail
            refine (check_any w5 _ D HR5.out HDL.out).mono ?_
            rintro r w6 ⟨rfl, t6⟩
            have HR6 := Lib.hid (HR5.out.turn t6 (fun _ _ => id))
            have HROW6 := Lib.hid (HROW5.out.turn t6 (fun _ _ => id))
            have T6 := Lib.hid (T5.out.trans t6 (fun _ _ => id))
            obtain ⟨R1, hR1⟩ : ∃ R1, (checkE D).1 = R1 := ⟨_, rfl⟩
            obtain ⟨R2, hR2⟩ : ∃ R2, (checkE D).2 = R2 := ⟨_, rfl⟩
            rw [hR1, hR2]
            have HSTEP := Lib.hid (show mkStep C x = if R1 = 0 then D else C from by unfold mkStep; rw [actE_id, HAT.out, HEQ.out, HD.out, hR1]; rfl)
            clear t6 hR1 hR2
            by_cases h0 : R1 = 0
            · have d0 : (R1 == 0) = true := by simpa using h0
              have HF := Lib.hid (show mkStep C x = D from by rw [HSTEP.out, if_pos h0])
              clear h0
              go_wp2_with fail
              go_roundw
              case rel => exact ⟨k + 1, by omega, by omega, by go_num, by rw [HST.out, HF.out]; exact HR6.out, T6.out⟩
              case measure => simp [intOf]; omega
            · have d0 : (R1 == 0) = false := by simpa using h0
              have HF := Lib.hid (show mkStep C x = C from by rw [HSTEP.out, if_neg h0])
              clear h0
              go_wp2_with fail
              go_roundw
              case rel => exact ⟨k + 1, by omega, by omega, by go_num, by rw [HST.out, HF.out]; exact HROW6.out, T6.out⟩
              case measure => simp [intOf]; omega
    · have HF := Lib.hid (show makeE l = C from by
        rw [← HC.out]; unfold makeE
        by_cases e : k = 24
        · rw [e]
        · rw [List.take_of_length_le (by rw [HN.out]; omega), List.take_of_length_le (by rw [HN.out]; omega)])
      by_cases hkn : k < n
      · have dk : decide ((k : Int) < (n : Int)) = true := decide_eq_true (by omega)
        have dk2 : decide ((k : Int) < 24) = false := decide_eq_false (by omega)
        go_wp2_with fail
        go_ret
        exact ⟨_, rfl, by rw [HF.out]; exact HROW.out, HTR.out⟩
      · have dk : decide ((k : Int) < (n : Int)) = false := decide_eq_false (by omega)
        go_wp2_with fail
        go_ret
        exact ⟨_, rfl, by rw [HF.out]; exact HROW.out, HTR.out⟩
end Go.Proofs.Ytkciaafkhpjnaaa
namespace Go.Proofs.Ytkciaafkhpjnaaa
set_option maxRecDepth 100000
open Go.RowKit
set_option linter.unusedVariables false
set_option linter.unusedSimpArgs false

theorem ring_eq (l : List El) (id : Int) : ∀ (m : Nat) (a : Int), ringB l id m a = ringG l id m a := by
  intro m
  induction m with
  | zero => intro a; rfl
  | succ m ih =>
    intro a
    rw [ringB, ringG]
    have e : atE l a = getE l a := rfl
    rw [e]
    split
    · rfl
    · split <;> simp_all
theorem checkN_no {l : List El} : ∀ {m : Nat}, m ≤ 7 → (checkN l m).1 = 0 → ∀ j, j < m → ∀ x ∈ l, breaksB l x (8 - (j : Int)) = false := by
  intro m
  induction m with
  | zero => intro _ _ j hj; omega
  | succ m ih =>
    intro hm h j hj x hx
    rw [checkN] at h
    cases hf : l.find? (fun x => breaksB l x (8 - (m : Int))) with
    | some y => rw [hf] at h; have h : (8 - (m : Int)) = 0 := h; omega
    | none =>
      rw [hf] at h
      by_cases e : j = m
      · subst e
        have := List.find?_eq_none.1 hf x hx
        simpa using this
      · exact ih (by omega) h j (by omega) x hx
theorem GoodE.no {c : List El} (h : GoodE c) (r : Nat) (hr : 2 ≤ r ∧ r ≤ 8) : ∀ x ∈ c, breaksB c x (r : Int) = false := by
  have hk := h.ok
  unfold checkE at hk
  rw [if_pos h.right] at hk
  intro x hx
  have := checkN_no (Nat.le_refl 7) hk (8 - r) (by omega) x hx
  rwa [show (8 : Int) - ((8 - r : Nat) : Int) = (r : Int) by omega] at this
theorem kindE_has {c : List El} {nr : Int} (h : kindE c nr ≠ 0) : hasB c nr = true := by
  unfold kindE at h
  unfold hasB
  have e : atE c nr = getE c nr := rfl
  rw [e] at h
  cases hg : getE c nr with
  | some x => rfl
  | none => rw [hg] at h; exact absurd rfl h
theorem GoodE.good {c : List El} (h : GoodE c) : GoodD c := by
  refine ⟨h.rises, fun e he => ?_, fun e he => ?_, fun e he => ?_, h.kind⟩
  · have := (right_iff.1 h.right).2.2 e he
    have := this.id
    omega
  · have h4 := h.no 4 (by omega) e he
    have h4 : b4 c e = false := h4
    unfold b4 at h4
    split at h4
    · rw [Bool.or_eq_false_iff] at h4
      refine .inr (kindE_has ?_)
      have := h4.2
      simp at this
      omega
    · by_cases h0 : e.par = 0
      · exact .inl h0
      · refine .inr (kindE_has fun hk => ?_)
        rw [hk] at h4
        simp [h0] at h4
  · rw [← ring_eq]
    exact h.no 5 (by omega) e he

end Go.Proofs.Ytkciaafkhpjnaaa
