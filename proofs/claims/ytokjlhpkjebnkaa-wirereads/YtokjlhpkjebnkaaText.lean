/- Own contracts: texts and raw bytes of a Pen, the document's Text, an Eye's Text. No statement is proved here. -/
import Derived.Test.YtokjlhpkjebnkaaEyeNum
import Derived.Lib.AppendStr
import Derived.Laws.AppendOwnNone
namespace Go.Proofs.Ytokjlhpkjebnkaa
open Go.RowKit
set_option linter.unusedVariables false

/-- A string's bytes as numbers. -/
def sB (s : ByteArray) : List Int := s.data.toList.map fun b => (b.toNat : Int)
theorem sB_len (s : ByteArray) : (sB s).length = s.size := by simp [sB]
theorem strCells_sB (s : ByteArray) : Lib.strCells s = (sB s).map (Value.int .u8) := by simp [Lib.strCells, sB]
theorem strOf_sB (s : ByteArray) : strOfNums (sB s) = s := by
  unfold strOfNums sB
  have : (s.data.toList.map fun b => (b.toNat : Int)).map (fun n => UInt8.ofNat n.toNat) = s.data.toList := by
    rw [List.map_map]
    conv => rhs; rw [← List.map_id s.data.toList]
    apply List.map_congr_left
    intro b _
    simp
  rw [this]
def textB (s : ByteArray) : List Int := numB s.size ++ sB s
theorem textB_len (s : ByteArray) (h : s.size ≤ 200) : (textB s).length ≤ 209 := by
  have := numB_len 8 s.size (by omega)
  simp [textB, sB_len]; omega

section
variable {P : Program} (w : World)
theorem run_append_where_string (base : Nat) (t u ty e : TypeId) (i : TypeInfo) (ht : P.underlying t = some (.slice e)) (hu : P.underlying u = some .string) (hi : P.info? e = some i) (hz : i.zero = some (.int .u8 0))
    (hsize : i.size = 1) (hby : i.bytes = 1) (v : Value) (n : Nat) (xs : List Value) (hown : w.ownsRow base e 1 v n xs) (s : ByteArray)
    (h63 : n + s.size ≤ maxLen) (hbytes : n + s.size ≤ 140737488355328) (v' : Value) (w' : World)
    (hrun : (Builtin.append_ #[t, u] ty #[v, .string s]).run P w = .ok v' w') : Fresh w v v' := by
  have hsmall : n + s.size ≤ 9223372036854775807 := by simp only [maxLen] at h63; omega
  have hxl : xs.length = n := by simpa using hown.1
  rcases hown.2 with ⟨rfl, rfl⟩ | ⟨g, cap, cur, rfl, hbg, hg, hnc, hcm, hcs, htake⟩
  · obtain ⟨v1, w1, hr, ho, _, _⟩ := Lib.run_append_own_string (P := P) w w.heap.size t u ty e i ht hu hi hz hsize hby (.slice none 0 0) 0 [] (World.ownsRow_nil _ _ _ _) s h63 hbytes (Nat.le_refl _)
    rw [hr] at hrun
    cases hrun
    cases hv : v'.ownBlock with
    | none => exact .inl hv
    | some k => exact .inr ⟨k, hv, (ho.lt k hv).1⟩
  · by_cases hroom : n + s.size ≤ cap
    · have hcs' : cur.size = cap := by simpa using hcs
      have hr := Lib.run_append_room_string (P := P) w t u ty e i ht hu hi hsize g n cap cur hg s hroom (by omega)
      rw [hr] at hrun
      cases hrun
      exact .inl rfl
    · have hr := Lib.run_append_grow_string (P := P) w t u ty e i (.int .u8 0) ht hu hi hz ⟨g, 0, none⟩ n cap xs (by rw [hsize]; simpa using hxl) (hown.cells (g := g) rfl) s (by omega) (by omega) (by rw [hby]; exact growslice_fits (by omega) (by omega))
      rw [hr] at hrun
      cases hrun
      exact .inr ⟨_, rfl, Nat.le_refl _⟩

theorem wpList_append_where_string {ops : Array Oper} {rest : List Oper} {o : Oper} {a : Act} {Q : Exit → Act → World → Prop} (hgd : o.guard = none) (sl x : Operand) (t u : TypeId)
    (ho : o.op = .call { callee := .builtin .append, args := #[sl, x], argTypes := #[t, u] })
    (base : Nat) (e : TypeId) (i : TypeInfo) (ht : P.underlying t = some (.slice e)) (hu : P.underlying u = some .string) (hi : P.info? e = some i) (hz : i.zero = some (.int .u8 0))
    (hsize : i.size = 1) (hby : i.bytes = 1)
    (v : Value) (n : Nat) (xs : List Value) (hs : a.eval sl = v) (hown : w.ownsRow base e 1 v n xs) (s : ByteArray) (hx : a.eval x = .string s)
    (h63 : n + s.size ≤ maxLen) (hbytes : n + s.size ≤ 140737488355328) (hbase : base ≤ w.heap.size)
    (h : ∀ v' w', w'.ownsRow base e 1 v' (n + s.size) (xs ++ Lib.strCells s) → w.grownBy w' v.ownBlock → Fresh w v v' → (v' = .slice none 0 0 ↔ v = .slice none 0 0 ∧ s.size = 0) → wpList P ops Q rest (a.put o.dst v') w') : wpList P ops Q (o :: rest) a w := by
  refine wpList_plain hgd fun K hK => ?_
  obtain ⟨v', w', hr, h2, h3, h4⟩ := Lib.run_append_own_string (P := P) w base t u o.type e i ht hu hi hz hsize hby v n xs hown s h63 hbytes hbase
  have h5 := run_append_where_string (P := P) w base t u o.type e i ht hu hi hz hsize hby v n xs hown s h63 hbytes v' w' hr
  unfold Oper.wp execOp
  simp only [ho, resolve, invoke, builtin, Sem.run_bind, Sem.run_pure, Result.andThen_ok, List.map_toArray, List.map_cons, List.map_nil, hs, hx, hr]
  exact hK _ _ (h v' w' h2 h3 h5 h4)
end

/-- The pen's state behind 'w.P = append(w.P, ys...)'. -/
theorem pen_lay {w w1 : World} {base B : Nat} {v v' : Value} {xs ys : List Int} (hp : PenIs w base B v xs)
    (hown : w1.ownsRow base 5 1 v' (xs.length + ys.length) (xs.map (Value.int .u8) ++ ys.map (Value.int .u8))) (hg : w.grownBy w1 v.ownBlock) (hf : Fresh w v v') :
    PenIs (w1.setCell ⟨B, 0, none⟩ v') base B v' (xs ++ ys) ∧ Turn (fun k => k = B ∨ v.ownBlock = some k) w (w1.setCell ⟨B, 0, none⟩ v') ∧ w1.cell? ⟨B, 0, none⟩ = some v ∧ w1.frozen? ⟨B, 0, none⟩ = false := by
  have hlt := hp.lt
  have hb : w1.heap[B]? = w.heap[B]? := hg.block B hlt (fun e => hp.apart e.symm)
  have hc1 : w1.cell? ⟨B, 0, none⟩ = some v := (World.cell?_of_block (w := w) hb).trans hp.cell
  have hf1 : w1.frozen? ⟨B, 0, none⟩ = false := (World.frozen?_of_block (w := w) hb).trans hp.open_
  have hne : v'.ownBlock ≠ some B := by
    intro h
    rcases hf with h' | ⟨g, h', hge⟩
    · exact hp.apart (h'.symm.trans h)
    · rw [h'] at h; cases h; omega
  have ht : Turn (fun k => k = B ∨ v.ownBlock = some k) w w1 := (Turn.refl _ w).grown hg (fun k h _ => .inr h)
  refine ⟨⟨?_, ?_, ?_, hne, ?_⟩, ht.setCell (fun _ => .inl rfl) v', hc1, hf1⟩
  · rw [World.cell?_setCell_same _ _ _ hc1]
  · rw [World.frozen?_setCell]; exact hf1
  · have h2 : w1.ownsRow base 5 1 v' (xs ++ ys).length ((xs ++ ys).map (Value.int .u8)) := by simpa using hown
    have ht2 : Turn (fun k => k = B) w1 (w1.setCell ⟨B, 0, none⟩ v') := (Turn.refl (fun k => k = B) w1).setCell (p := ⟨B, 0, none⟩) (fun _ => rfl) v'
    exact ht2.owns h2 (fun k hk e => hne (by rw [hk, e]))
  · have := hg.size; simp [World.setCell]; omega

theorem src_cells0 {w : World} {x : Addr} {xs : List Int} {cap : Nat} (h : Src w (.slice (some x) xs.length cap) xs) :
    ∀ (j : Nat) u, (xs.map (Value.int .u8))[j]? = some u → w.cell? (x.add j) = some u := by
  intro j u hj
  have hjl : j < xs.length := by have := (List.getElem?_eq_some_iff.1 hj).1; simpa using this
  rcases h with (⟨h, _⟩ | ⟨g, o', cap', h, hc, hcell⟩) | ⟨_, _, _, rfl⟩
  · cases h
  · cases h
    have hadd : (⟨g, o', none⟩ : Addr).add j = ⟨g, o' + j, none⟩ := by unfold Addr.add; split <;> simp_all
    rw [hadd, hcell j hjl]
    simp [hjl] at hj; subst hj; simp [List.getD, hjl]
  · simp at hjl

theorem own_slice {w : World} {base : Nat} {v : Value} {n : Nat} {xs : List Value} (h : w.ownsRow base 5 1 v n xs) : ∃ a c, v = .slice a n c := by
  rcases h.2 with ⟨rfl, rfl⟩ | ⟨g, cap', _, rfl, _⟩
  · exact ⟨_, _, rfl⟩
  · exact ⟨_, _, rfl⟩

set_option maxHeartbeats 800000 in
set_option maxRecDepth 100000 in
theorem pen_text (base B : Nat) (s : ByteArray) (v : Value) (xs : List Int) (w : World) (hs : s.size ≤ 200) (hl : xs.length ≤ 100000) (hbase : base ≤ w.heap.size) (hp : PenIs w base B v xs) :
    Calls Try.prog 43 #[.pointer (some ⟨B, 0, none⟩), .string s] w (PenPost w base B v (xs ++ textB s)) := by
  obtain ⟨i0, hi, hz0, hz1, hz2⟩ := info_parts Try.info5
  have hn := numB_len 8 s.size (by omega)
  go_enter Try.func43, Try.ntmps43
  go_wp2_with fail
  refine (pen_num base B s.size v xs _ (by omega) (by omega) hbase hp).mono ?_
  rintro r w1 ⟨rfl, v1, hp1, hf1, ht1⟩
  have hcl := hp1.cell
  have hxl : (xs ++ numB s.size).length ≤ 100009 := by simp; omega
  have hb1 : base ≤ w1.heap.size := Nat.le_trans hbase ht1.size
  go_wp2_with (at_builtin; refine wpList_append_where_string _ rfl (.tmp 13) (.tmp 14) 49 9 rfl base 5 i0 Try.underlying49 Try.underlying9 hi hz0 hz1 hz2 v1 (xs ++ numB s.size).length ((xs ++ numB s.size).map (Value.int .u8)) rfl hp1.own s rfl ?c3 ?c4 ?c5 ?_)
  case c3 => unfold maxLen; omega
  case c4 => omega
  case c5 => omega
  intro v2 w2 hown hgrow hfresh _
  have hown2 : w2.ownsRow base 5 1 v2 ((xs ++ numB s.size).length + (sB s).length) ((xs ++ numB s.size).map (Value.int .u8) ++ (sB s).map (Value.int .u8)) := by
    rw [sB_len]; simpa [strCells_sB] using hown
  obtain ⟨hP, hT, hc2, hf2⟩ := pen_lay hp1 hown2 hgrow hfresh
  obtain ⟨a2, c2, rfl⟩ := own_slice hown
  clear hown hown2 hgrow hcl
  go_wp2
  go_ret
  refine ⟨rfl, _, ?_, hf1.trans ht1.size hfresh, ht1.trans hT ?_⟩
  · rw [textB, ← List.append_assoc]; exact hP
  · rintro k hk (h | h)
    · exact .inl h
    · exact .inr (hf1.old h hk)

set_option maxHeartbeats 800000 in
set_option maxRecDepth 100000 in
theorem ref_text (s : ByteArray) (w : World) (hs : s.size ≤ 200) : Calls Try.prog 53 #[.string s] w (NewBytes w (textB s)) := by
  obtain ⟨i0, hi, hz0, hz1, hz2⟩ := info_parts Try.info5
  have hn := numB_len 8 s.size (by omega)
  go_enter Try.func53, Try.ntmps53
  go_wp2_with fail
  refine (ref_num s.size _ (by omega)).mono ?_
  rintro r w1 ⟨v1, rfl, ho, ht⟩
  have hb1 := ht.size
  go_wp2_with (at_builtin; refine wpList_append_where_string _ rfl (.tmp 5) (.tmp 6) 49 9 rfl w.heap.size 5 i0 Try.underlying49 Try.underlying9 hi hz0 hz1 hz2 v1 (numB s.size).length ((numB s.size).map (Value.int .u8)) rfl ho s rfl ?c3 ?c4 ?c5 ?_)
  case c3 => unfold maxLen; omega
  case c4 => omega
  case c5 => omega
  intro v2 w2 hown hgrow hfresh _
  have hT := ht.grown hgrow (fun k h hk => by have := (ho.lt k h).1; omega)
  clear hgrow hfresh ho
  go_wp2
  go_ret
  refine ⟨_, rfl, ?_, hT⟩
  have e1 : (textB s).length = (numB s.size).length + s.size := by simp [textB, sB_len]
  rw [e1, textB]; simpa [strCells_sB] using hown

set_option maxHeartbeats 800000 in
set_option maxRecDepth 100000 in
/-- Raw: bytes that came in, nil or not. -/
theorem pen_raw (base B : Nat) (q v : Value) (xs ys : List Int) (w : World) (hl : xs.length + ys.length ≤ 100000) (hbase : base ≤ w.heap.size) (hp : PenIs w base B v xs) (hq : Src w q ys) :
    Calls Try.prog 41 #[.pointer (some ⟨B, 0, none⟩), q] w (PenPost w base B v (xs ++ ys)) := by
  obtain ⟨i0, hi, hz0, hz1, hz2⟩ := info_parts Try.info5
  have hcl := hp.cell
  have hfz := hp.open_
  rcases src_form hq with ⟨rfl, rfl⟩ | ⟨x, cap, rfl⟩
  · obtain ⟨a1, c1, hv⟩ := own_slice hp.own
    subst hv
    go_enter Try.func41, Try.ntmps41
    go_wp2_with (at_builtin; refine wpList_append_own_none rfl (.tmp 9) (.tmp 10) 49 rfl base 5 i0 1 Try.underlying49 hi _ xs.length (xs.map (Value.int .u8)) rfl hp.own rfl ?_)
    go_wp2
    go_ret
    have ht : Turn (fun k => k = B ∨ (Value.slice a1 xs.length c1).ownBlock = some k) w (w.setCell ⟨B, 0, none⟩ (.slice a1 xs.length c1)) := (Turn.refl _ w).setCell (p := ⟨B, 0, none⟩) (fun _ => .inl rfl) _
    refine ⟨rfl, _, ⟨?_, ?_, ?_, hp.apart, ?_⟩, Fresh.refl _ _, ht⟩
    · exact World.cell?_setCell_same _ _ _ hcl
    · rw [World.frozen?_setCell]; exact hfz
    · have ht2 : Turn (fun k => k = B) w (w.setCell ⟨B, 0, none⟩ (.slice a1 xs.length c1)) := (Turn.refl (fun k => k = B) w).setCell (p := ⟨B, 0, none⟩) (fun _ => rfl) _
      have := ht2.owns hp.own (fun k hk e => hp.apart (by rw [hk, e]))
      simpa using this
    · have := hp.lt; simp [World.setCell]; omega
  · have hn : ∀ (j : Nat) u, (ys.map (Value.int .u8))[j]? = some u → w.cell? (x.add j) = some u := src_cells0 hq
    have HN := Lib.hid hn
    clear hn hq
    go_enter Try.func41, Try.ntmps41
    go_wp2_with (at_builtin; refine wpList_append_where _ rfl (.tmp 9) (.tmp 10) 49 rfl base 5 i0 (.int .u8 0) 1 1 Try.underlying49 hi hz0 hz1 hz2 rfl (by decide) v xs.length (xs.map (Value.int .u8)) rfl hp.own x ys.length cap (ys.map (Value.int .u8)) rfl (by simp) HN.out (ints_oneCell _ _) ?c3 ?c4 ?c5 ?_)
    case c3 => unfold maxLen; omega
    case c4 => omega
    case c5 => omega
    intro v2 w2 hown hgrow hfresh _
    obtain ⟨hP, hT, hc2, hf2⟩ := pen_lay hp hown hgrow hfresh
    obtain ⟨a2, c2, rfl⟩ := own_slice hown
    clear hown hgrow hcl
    go_wp2
    go_ret
    exact ⟨rfl, _, hP, hfresh, hT⟩

def TextOk (w : World) (X : Nat) (v : Value) (s : ByteArray) (rest : List Int) (e : Ending) (w' : World) : Prop :=
  ∃ v', e = .returned (.string s) ∧ EyeIs w' X v' 0 ∧ Reads w' v' rest ∧ Turn (fun k => k = X) w w' ∧ v'.ownBlock = v.ownBlock

set_option maxHeartbeats 800000 in
set_option maxRecDepth 100000 in
theorem text_ok (X : Nat) (v : Value) (s : ByteArray) (rest : List Int) (most : Int) (w : World) (h : EyeIs w X v 0) (hr : Reads w v (textB s ++ rest)) (hs : s.size ≤ 200) (hl : rest.length ≤ 100000) (hm : (s.size : Int) ≤ most) :
    Calls Try.prog 64 #[.pointer (some ⟨X, 0, none⟩), .int .i64 most] w (TextOk w X v s rest) := by
  have hn := numB_len 8 s.size (by omega)
  have hsl := sB_len s
  rw [textB, List.append_assoc] at hr
  go_enter Try.func64, Try.ntmps64
  go_wp2_with fail
  refine (eye_ok X v s.size (sB s ++ rest) most _ h hr (by omega) (by simp only [List.length_append]; omega) (.inl hm)).mono ?_
  rintro r w1 ⟨v1, rfl, he1, hr1, t1, hv1⟩
  by_cases h0 : s.size = 0
  · have hs0 : sB s = [] := List.eq_nil_of_length_eq_zero (by omega)
    have hss : s = strOfNums [] := by rw [← hs0, strOf_sB]
    rw [hs0] at hr1
    have hcv : ∀ w, (convert 49 9 (.slice none 0 0)).run Try.prog w = .ok (.string (strOfNums [])) w := fun w => Reads.conv (.inl ⟨rfl, rfl⟩)
    have HSS := Lib.hid hss
    clear hss hs0
    go_wp2_with fail
    refine (take_none X _ _ (by omega)).mono ?_
    rintro r w' ⟨rfl, rfl⟩
    go_wp2_with fail
    go_ret
    refine ⟨v1, ?_, he1, hr1, t1, hv1⟩
    rw [HSS.out]; rfl
  · go_wp2_with fail
    refine (take_reads X v1 (sB s ++ rest) s.size _ he1 hr1 (by omega) (by simp; omega) (by simp only [List.length_append]; omega)).mono ?_
    rintro r w2 ⟨q, v2, rfl, hq, he2, hz, t2, hv2, _⟩
    have e1 : (sB s ++ rest).take s.size = sB s := by rw [← hsl]; exact List.take_left
    have e2 : (sB s ++ rest).drop s.size = rest := by rw [← hsl]; exact List.drop_left
    rw [e1] at hq
    rw [e2] at hz
    have hcv := hq.conv
    rw [strOf_sB] at hcv
    clear e1 e2
    go_wp2_with fail
    go_ret
    exact ⟨v2, rfl, he2, hz, t1.trans t2 (fun _ _ => id), hv2.trans hv1⟩

set_option maxHeartbeats 800000 in
set_option maxRecDepth 100000 in
theorem text_long (X : Nat) (v : Value) (s : ByteArray) (rest : List Int) (most : Int) (w : World) (h : EyeIs w X v 0) (hr : Reads w v (textB s ++ rest)) (hs : s.size ≤ 200) (hl : rest.length ≤ 100000) (hm : most < (s.size : Int)) (hm0 : 0 ≤ most) :
    Calls Try.prog 64 #[.pointer (some ⟨X, 0, none⟩), .int .i64 most] w fun e w' => e = .returned (.string (strOfNums [])) ∧ EyeIs w' X (.slice none 0 0) 5 ∧ Turn (fun k => k = X) w w' := by
  have hn := numB_len 8 s.size (by omega)
  have hsl := sB_len s
  rw [textB, List.append_assoc] at hr
  have hcv : ∀ w, (convert 49 9 (.slice none 0 0)).run Try.prog w = .ok (.string (strOfNums [])) w := fun w => Reads.conv (.inl ⟨rfl, rfl⟩)
  go_enter Try.func64, Try.ntmps64
  go_wp2_with fail
  refine (eye_long X v s.size (sB s ++ rest) most _ h hr (by omega) (by simp only [List.length_append]; omega) hm (by omega)).mono ?_
  rintro r w1 ⟨rfl, he1, t1⟩
  go_wp2_with fail
  refine (take_none X _ _ (by omega)).mono ?_
  rintro r w' ⟨rfl, rfl⟩
  go_wp2_with fail
  go_ret
  exact ⟨rfl, he1, t1⟩

end Go.Proofs.Ytokjlhpkjebnkaa
