/- Own texts, packed: Q34. -/
import Derived.Test.YtboofamenpcnhaaGreatDoorV02
import Derived.RangeFuncNested
import Derived.RangeFuncBound
import Derived.RangeFuncCalls
import Derived.RangeFuncLeaves
import Derived.RangeFuncBox
import Derived.Shelf.Abstract
import Derived.WalkKit
import Derived.OwnWalkIn
import Derived.TacticsInMore
import Derived.LoopNIn
import Derived.LoopIn
namespace Go.Proofs.YtboofamenpcnhaaGreatDoor
set_option maxRecDepth 100000
open Go.RowKit
set_option linter.unusedVariables false
set_option linter.unusedSimpArgs false
section
variable {P : Program} {n l : Nat} {ops : Array Oper} {Q : Exit → Act → World → Prop} {a : Act} {w : World} {o : Oper} {K K' : Act → World → Prop}
theorem rows_round {row : String} {args : Array Value} {R : Value → World → Prop} (h : Rows P row args w R) : RowsIn (Fence.wide.inRound l) n P row args w R := fun c cs _ => by
  obtain ⟨v, w', r, s⟩ := h c cs
  exact ⟨v, w', r, stepsIn_wide.2 s⟩
theorem upon_round (hk : ∀ a w, K a w → K' a w) : ∀ r, o.upon P a K Q r → o.uponIn (Fence.wide.inRound l) n P a K' Q r
  | .ok (.value v) w', h => hk _ _ h
  | .ok .skip w', h => hk _ _ h
  | .ok (.defer d) w', h => hk _ _ h
  | .ok (.enter f args) w', h => ⟨(by intro h; cases h), CallsIn.inRound l (callsIn_wide.2 (Calls.mono h (fun e w'' he => by
      cases e with
      | returned v => exact hk _ _ he
      | panicked c => exact he
      | outgrown => exact he)))⟩
  | .ok (.row row args) w', h => ⟨(by intro h; cases h), rows_round (Rows.mono h (fun v w'' he => hk _ _ he))⟩
  | .halt (.panic v) w', h => h
theorem oper_round (hd : ∀ c, o.op ≠ .defer c) (hk : ∀ a w, K a w → K' a w) (h : o.wp P a w K Q) : o.wpIn (Fence.wide.inRound l) n P a w K' Q := by
  refine ⟨fun f _ => trivial, ?_⟩
  rw [Oper.semAt_eq _ _ _ hd]
  exact upon_round hk _ h
def noDefer (o : Oper) : Bool := match o.op with
  | .defer _ => false
  | _ => true
theorem noDefer_spec (h : noDefer o = true) : ∀ c, o.op ≠ .defer c := fun c hc => by unfold noDefer at h; rw [hc] at h; cases h
theorem ops_round (hq : ∀ a w, ¬ Q .outgrown a w) (hd : ops.toList.all noDefer = true) : ∀ (L : List Nat) (a : Act) (w : World), wpOps P ops Q L a w → wpOpsIn (Fence.wide.inRound l) n P ops Q L a w
  | [], a, w, h => h
  | i :: rest, a, w, h => by
    unfold wpOps at h
    unfold wpOpsIn
    cases ho : ops[i]? with
    | none => rw [ho] at h; exact ops_round hq hd rest a w h
    | some o =>
      rw [ho] at h
      dsimp only at h ⊢
      have hnd : noDefer o = true := List.all_eq_true.1 hd o (by simpa using Array.mem_of_getElem? ho)
      split
      · rename_i hw
        rw [if_pos hw] at h
        rcases h with h | ⟨_, _, _, h⟩
        · exact oper_round (noDefer_spec hnd) (fun a w => ops_round hq hd rest a w) h
        · exact absurd h (hq _ _)
      · rename_i hw
        rw [if_neg hw] at h
        exact ⟨fun f _ => trivial, ops_round hq hd rest _ _ h⟩
/-- A region that draws its order, in a round. -/
theorem region_round_held {id : Nat} {S : World → Prop} (hm : P.follows .mixedOrders = true) (hd : ops.toList.all noDefer = true) (hq : ∀ a w, ¬ Q .outgrown a w) (hS : S w.drew)
    (h : S w.drew → wpAnyH P .any ops Q S ops.size (Array.replicate ops.size false) a w.drew) : (Code.region id ops true).wpIn (Fence.wide.inRound l) n P Q a w :=
  wpIn_region_draw fun t => ops_round hq hd _ _ _ (by
    simp only [Region.schedule, hm, Bool.true_or, if_true]
    exact wpAny_sound ops.size t _ a _ (wpAny_of_held _ _ _ _ (h hS)))
/-- The wide fence, in a round or in none. -/
abbrev FW (ro : Option Nat) : Fence := { Fence.wide with round := ro }
theorem calls_wide {ro : Option Nat} {f : FuncId} {args : Array Value} {R : Ending → World → Prop} (h : Calls P f args w R) : CallsIn (FW ro) n P f args w R := by
  cases ro with
  | none => exact callsIn_wide.2 h
  | some l => exact CallsIn.inRound l (callsIn_wide.2 h)
theorem upon_wide {ro : Option Nat} (hk : ∀ a w, K a w → K' a w) : ∀ r, o.upon P a K Q r → o.uponIn (FW ro) n P a K' Q r
  | .ok (.value v) w', h => hk _ _ h
  | .ok .skip w', h => hk _ _ h
  | .ok (.defer d) w', h => hk _ _ h
  | .ok (.enter f args) w', h => ⟨(by intro h; cases h), calls_wide (Calls.mono h (fun e w'' he => by
      cases e with
      | returned v => exact hk _ _ he
      | panicked c => exact he
      | outgrown => exact he))⟩
  | .ok (.row row args) w', h => ⟨(by intro h; cases h), fun c cs _ => by
      obtain ⟨v, w', r, s⟩ := h c cs
      exact ⟨v, w', hk _ _ r, stepsIn_wide.2 s⟩⟩
  | .halt (.panic v) w', h => h
theorem oper_wide {ro : Option Nat} (hd : ∀ c, o.op ≠ .defer c) (h : o.wp P a w K Q) : o.wpIn (FW ro) n P a w K Q := by
  refine ⟨fun f _ => trivial, ?_⟩
  rw [Oper.semAt_eq _ _ _ hd]
  exact upon_wide (fun _ _ h => h) _ h
variable {rest : List Oper}
theorem inL_load {ro : Option Nat} (hw : Region.wanted o (yielded ops a.tmps) = true) (ty : TypeId) (x : Operand) (ho : o.op = .load ty x)
    (b q : Nat) (hx : a.eval x = .pointer (some ⟨b, q, none⟩)) (cs : List Value) (d : TypeDesc) (hc : w.rangeAt b q cs) (hu : P.underlying ty = some d) (hd : d.isRow = true) (hi : (P.info? ty).map (·.size) = some cs.length)
    (h : wpListIn (FW ro) n P ops Q rest (a.put o.dst (.agg cs.toArray)) w) : wpListIn (FW ro) n P ops Q (o :: rest) a w :=
  BigFrame.wpListIn_want hw fun K hK => oper_wide (by rw [ho]; intro c hc; cases hc) (wp_load_mid ty x ho b q hx cs d hc hu hd hi (hK _ _ h))
theorem inL_store {ro : Option Nat} (hw : Region.wanted o (yielded ops a.tmps) = true) (ty : TypeId) (x y : Operand) (ho : o.op = .store ty x y)
    (b q : Nat) (cells : Array Value) (hx : a.eval x = .pointer (some ⟨b, q, none⟩)) (hy : a.eval y = .agg cells) (ht : w.there b q cells.size) (hi : (P.info? ty).map (·.size) = some cells.size) (h1 : cells.all (·.oneCell') = true)
    (h : wpListIn (FW ro) n P ops Q rest (a.put o.dst undef) (w.setCells b q cells.toList)) : wpListIn (FW ro) n P ops Q (o :: rest) a w :=
  BigFrame.wpListIn_want hw fun K hK => oper_wide (by rw [ho]; intro c hc; cases hc) (wp_store_mid ty x y ho b q cells hx hy ht hi h1 (hK _ _ h))
theorem inL_exec {ro : Option Nat} (hw : Region.wanted o (yielded ops a.tmps) = true) (hd : ∀ c, o.op ≠ .defer c) (v : Value) (w' : World) (he : (execOp a.eval o).run P w = .ok (.value v) w')
    (h : wpListIn (FW ro) n P ops Q rest (a.put o.dst v) w') : wpListIn (FW ro) n P ops Q (o :: rest) a w :=
  BigFrame.wpListIn_want hw fun K hK => oper_wide hd (by unfold Oper.wp; rw [he]; exact hK _ _ h)
end
end Go.Proofs.YtboofamenpcnhaaGreatDoor
