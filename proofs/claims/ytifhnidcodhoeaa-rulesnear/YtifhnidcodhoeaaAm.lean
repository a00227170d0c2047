/- Own contracts: acts, and the charts that they make. No statement is proved here. -/
import Derived.Test.YtifhnidcodhoeaaChk
import Derived.Test.YtifhnidcodhoeaaRr
import Derived.Test.YtifhnidcodhoeaaEn
namespace Go.Proofs.Ytifhnidcodhoeaa
set_option maxRecDepth 100000
open Go.RowKit
set_option linter.unusedVariables false
set_option linter.unusedSimpArgs false


/-- An act of the document's charts: four numbers. -/
structure A4 where
  k : Int
  a : Int
  b : Int
  c : Int
def A4.vals (x : A4) : List Value := [.int .u8 x.k, .int .u8 x.a, .int .u8 x.b, .int .u8 x.c]
def a40 : A4 := ⟨0, 0, 0, 0⟩
structure A4.Ok (x : A4) : Prop where
  k : 0 ≤ x.k ∧ x.k < 256
  a : 0 ≤ x.a ∧ x.a < 256
  b : 0 ≤ x.b ∧ x.b < 256
  c : 0 ≤ x.c ∧ x.c < 256
theorem A4.vals_one (o : A4) : ∀ v ∈ o.vals, v.oneCell' = true := fun v hv => by
  simp only [A4.vals, List.mem_cons, List.not_mem_nil, or_false] at hv
  rcases hv with rfl | rfl | rfl | rfl <;> rfl
def ActsV (w : World) (v : Value) (l : List A4) : Prop :=
  (v = .slice none 0 0 ∧ l = []) ∨ ∃ g o c, v = .slice (some ⟨g, o, none⟩) l.length c ∧ l.length ≤ c ∧ (0 < l.length → g < w.heap.size) ∧ ∀ k, k < l.length → w.rangeAt g (o + k * 4) (l.getD k a40).vals ∧ (l.getD k a40).Ok
theorem ActsV.turn {w w' : World} {v : Value} {l : List A4} (h : ActsV w v l) (t : Turn (fun _ => False) w w') : ActsV w' v l := by
  rcases h with ⟨h1, h2⟩ | ⟨g, o, c, h1, h2, h3, h4⟩
  · exact .inl ⟨h1, h2⟩
  · exact .inr ⟨g, o, c, h1, h2, fun h0 => Nat.lt_of_lt_of_le (h3 h0) t.size, fun k hk => ⟨rangeAt_turn (h4 k hk).1 t id, (h4 k hk).2⟩⟩
theorem ActsV.form {w : World} {v : Value} {l : List A4} (h : ActsV w v l) : ∃ a c, v = .slice a l.length c := by
  rcases h with ⟨h1, rfl⟩ | ⟨g, o, c, h1, _⟩
  · exact ⟨_, _, h1⟩
  · exact ⟨_, _, h1⟩
theorem ActsV.one {w : World} {a : Option Addr} {n c : Nat} {l : List A4} (h : ActsV w (.slice a n c) l) (hn : l.length = n) (k : Nat) (hk : k < n) : ∃ g o, a = some ⟨g, o, none⟩ ∧ n ≤ c ∧ w.rangeAt g (o + k * 4) (l.getD k a40).vals ∧ (l.getD k a40).Ok := by
  subst hn
  rcases h with ⟨h1, rfl⟩ | ⟨g, o, c', h1, h2, h3, h4⟩
  · simp at hk
  · injection h1 with q1 q2 q3
    exact ⟨g, o, q1, by omega, (h4 k hk).1, (h4 k hk).2⟩
section
variable {P : Program} {ops : Array Oper} {Q : Exit → Act → World → Prop} {a : Act} {o : Oper} {rest : List Oper}
/-- One cell of a variable is written. -/
theorem list_set1 (w : World) (E : Nat) (T ty : TypeId) (zs : List Value) (j : Nat) (v : Value) (hh : w.heap[E]? = some (.cells zs.toArray T (0, 0))) (hj : j < zs.length) (h1 : v.oneCell' = true) (hv : v.cells = #[v]) (hi : (P.info? ty).map (·.size) = some 1)
    (hgd : o.guard = none) (x y : Operand) (ho : o.op = .store ty x y) (hx : a.eval x = .pointer (some ⟨E, j, none⟩)) (hy : a.eval y = v)
    (h : ∀ w', w'.heap[E]? = some (.cells (zs.set j v).toArray T (0, 0)) → Turn (fun q => q = E) w w' → wpList P ops Q rest (a.put o.dst undef) w') : wpList P ops Q (o :: rest) a w := by
  have ht := there_row hh
  have hst := run_storeCells_cells (P := P) E j [v] 0 w (fun i hi => by
    have hi0 : i = 0 := by simpa using hi
    subst hi0
    simpa using (ht j hj).1) (fun i hi => by
    have hi0 : i = 0 := by simpa using hi
    subst hi0
    simpa using (ht j hj).2) (fun u hu => by rw [List.mem_singleton.1 hu]; exact h1)
  have hsv : (storeVar ty ⟨E, j, none⟩ v).run P w = .ok () (w.setCells E j [v]) := by
    cases hq : P.info? ty with
    | none => simp [hq] at hi
    | some i =>
      have hs : i.size = 1 := by simpa [hq] using hi
      simp only [Nat.add_zero] at hst
      simp [storeVar, sizeOf, typeInfo, hq, hv, hs, hst]
  refine wpList_plain hgd fun _ hK => ?_
  unfold Oper.wp execOp
  simp only [ho, hx, hy, Instr.storeAt, Instr.sureAddr, Sem.run_bind, Sem.run_pure, Result.andThen_ok, hsv]
  refine hK _ _ (h _ ?_ (turn_setCells E [v] j w))
  rw [heap_setCells E T [v] j w zs hh (by simp; omega)]
  congr 3
  rw [List.set_eq_take_append_cons_drop, if_pos hj]
  simp
end
/-- Make's two variables: the act, and the element. -/
structure MkS (w W : World) (A E : Nat) (x : A4) (e : El) : Prop where
  ha : W.heap[A]? = some (.cells x.vals.toArray 47 (0, 0))
  he : W.heap[E]? = some (.cells e.vals.toArray 35 (0, 0))
  t : Turn (fun _ => False) w W
  ne : A ≠ E
  new : w.heap.size ≤ E
theorem MkS.turn {w W W' : World} {A E : Nat} {x : A4} {e : El} (h : MkS w W A E x e) (t : Turn (fun _ => False) W W') : MkS w W' A E x e :=
  ⟨(t.block A (Array.getElem?_eq_some_iff.1 h.ha).1 id).trans h.ha, (t.block E (Array.getElem?_eq_some_iff.1 h.he).1 id).trans h.he, h.t.trans t (fun _ _ => id), h.ne, h.new⟩
theorem MkS.set {w W W' : World} {A E : Nat} {x : A4} {e e' : El} {j : Nat} {v : Value} (h : MkS w W A E x e) (h2 : W'.heap[E]? = some (.cells (e.vals.set j v).toArray 35 (0, 0))) (t : Turn (fun q => q = E) W W') (he : e.vals.set j v = e'.vals) : MkS w W' A E x e' :=
  ⟨(t.block A (Array.getElem?_eq_some_iff.1 h.ha).1 h.ne).trans h.ha, by rw [h2, he], h.t.trans t (fun q hq e => by have := h.new; omega), h.ne, h.new⟩
theorem MkS.a {w W : World} {A E : Nat} {x : A4} {e : El} (h : MkS w W A E x e) (j : Nat) (v : Value) (hj : x.vals[j]? = some v) : W.cell? ⟨A, j, none⟩ = some v := by rw [cell_of_row W A j _ 47 (0, 0) h.ha]; simpa using hj
theorem MkS.e {w W : World} {A E : Nat} {x : A4} {e : El} (h : MkS w W A E x e) (j : Nat) (v : Value) (hj : e.vals[j]? = some v) : W.cell? ⟨E, j, none⟩ = some v := by rw [cell_of_row W E j _ 35 (0, 0) h.he]; simpa using hj
theorem a4_info : (Try.prog.info? 47).map (·.size) = some 4 := by kernel_rfl
theorem a4_zero (w : World) : (zeroValue 47).run Try.prog w = .ok (.agg a40.vals.toArray) w := by kernel_rfl
theorem exec_zero70 (ev : Operand → Value) (op : Oper) (ho : op.op = .alloc 47) (w : World) : (execOp ev op).run Try.prog w = .ok (.value (.pointer (some ⟨w.heap.size, 0, none⟩))) (w.alloc (.cells a40.vals.toArray 47)) := by
  unfold execOp
  simp only [ho, Sem.run_bind, a4_zero, Result.andThen_ok]
  rfl
def El.iko (i k o : Int) : El := ⟨i, k, 0, o, e0, 0, 0, e0, e0, e0⟩
theorem build_iko (i k o : Int) (w : World) : (Instr.build 35 #[(0, .int .i64 i), (1, .int .u8 k), (3, .int .i64 o)]).run Try.prog w = .ok (.agg (El.iko i k o).vals.toArray) w := by kernel_rfl
theorem exec_build_iko (ev : Operand → Value) (op : Oper) (x y z : Operand) (i k o : Int) (ho : op.op = .build 35 #[(0, x), (1, y), (3, z)]) (hx : ev x = .int .i64 i) (hy : ev y = .int .u8 k) (hz : ev z = .int .i64 o) (w : World) : (execOp ev op).run Try.prog w = .ok (.value (.agg (El.iko i k o).vals.toArray)) w := by
  unfold execOp
  simp only [ho, List.map_toArray, List.map_cons, List.map_nil, hx, hy, hz, Sem.run_bind, Sem.run_pure, build_iko, Result.andThen_ok]
/-- The element that an act tells. -/
def baseE (x : A4) : El := El.iko (1 + x.a % 30) (1 + x.k % 5) (x.c % 4)
def nameE (x : A4) : ByteArray := ({ data := #[110] } : ByteArray) ++ strOfNums [97 + x.c % 26]
def parE (x : A4) : Int := if x.b % 3 = 0 then 0 else x.b % 8
def actE (x : A4) : El := if 1 + x.k % 5 = 5 then ⟨1 + x.a % 30, 1 + x.k % 5, 0, x.c % 4, e0, 1 + x.b % 30, 1 + x.c % 30, textE x.b, textE x.c, textE x.k⟩ else ⟨1 + x.a % 30, 1 + x.k % 5, parE x, x.c % 4, if namedE (baseE x) = true then nameE x else e0, 0, 0, e0, e0, e0⟩
def mkStep (c : List El) (x : A4) : List El := if (atE c (actE x).id).isSome = true then c else if (checkE (putE c (actE x))).1 = 0 then putE c (actE x) else c
def mkE (l : List A4) : List El := l.foldl mkStep []
def makeE (l : List A4) : List El := mkE (l.take 24)
theorem mkE_snoc (l : List A4) (x : A4) : mkE (l ++ [x]) = mkStep (mkE l) x := by unfold mkE; rw [List.foldl_append]; rfl
/-- A chart that keeps the rules. -/
structure GoodE (c : List El) : Prop where
  ok : (checkE c).1 = 0
  kind : ∀ x ∈ c, 0 ≤ x.kind ∧ x.kind ≤ 255
theorem GoodE.right {c : List El} (h : GoodE c) : rightE c = true := by
  have := h.ok
  unfold checkE at this
  by_cases h2 : rightE c = true
  · exact h2
  · rw [if_neg h2] at this; cases this
theorem GoodE.rises {c : List El} (h : GoodE c) : Rises c := (right_iff.1 h.right).2.1
theorem GoodE.len {c : List El} (h : GoodE c) : c.length ≤ 40 := (right_iff.1 h.right).1
theorem good_nil : GoodE [] := ⟨by decide +kernel, fun x hx => by cases hx⟩
theorem actE_id (x : A4) : (actE x).id = 1 + x.a % 30 := by unfold actE; split <;> rfl
theorem actE_kind (x : A4) : (actE x).kind = 1 + x.k % 5 := by unfold actE; split <;> rfl
theorem good_step {c : List El} (h : GoodE c) (x : A4) : GoodE (mkStep c x) := by
  unfold mkStep
  split
  · exact h
  · split
    · rename_i h2
      refine ⟨h2, fun y hy => ?_⟩
      rcases mem_putE.1 hy with rfl | ⟨h3, _⟩
      · rw [actE_kind]; omega
      · exact h.kind y h3
    · exact h
theorem good_mkE (l : List A4) : GoodE (mkE l) := by
  suffices h : ∀ (l : List A4) (c : List El), GoodE c → GoodE (l.foldl mkStep c) from h l [] good_nil
  intro l
  induction l with
  | nil => intro c h; exact h
  | cons x l ih => intro c h; exact ih _ (good_step h x)
theorem good_makeE (l : List A4) : GoodE (makeE l) := good_mkE _
theorem takeA_snoc (l : List A4) (k : Nat) (h : k < l.length) : l.take (k + 1) = l.take k ++ [l.getD k a40] := by
  rw [List.take_add_one, List.getElem?_eq_getElem h]
  simp [List.getD, h]
end Go.Proofs.Ytifhnidcodhoeaa
