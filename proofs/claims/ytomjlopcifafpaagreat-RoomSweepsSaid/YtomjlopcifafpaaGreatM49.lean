/- Proved parts: Rgi. Conditions: each theorem's own. -/
import Derived.Test.YtomjlopcifafpaaGreatM12
import Derived.RangeFuncNested
import Derived.OwnWalkIn
import Derived.Test.YtomjlopcifafpaaGreatQ0
set_option maxRecDepth 100000
set_option maxHeartbeats 8000000
namespace Go.Proofs.YtomjlopcifafpaaGreat
open Go

section
variable {P:Program} {ops:Array Oper} {Q:Exit->Act->World->Prop} {md:Region.Mode} {S:World->Prop}
def noDefer (ops:Array Oper):Bool:=ops.toList.all fun o=>match o.op with | .defer _=>false | _=>true
theorem noDefer_at {o:Oper} {i:Nat} (h:noDefer ops=true) (hi:ops[i]?=some o):∀ c,o.op≠.defer c:=fun c e=>by
 have hm:o ∈ ops.toList:=by
  rw [<-Array.getElem?_toList] at hi
  exact List.mem_of_getElem? hi
 have:=List.all_eq_true.1 h o hm
 rw [e] at this
 cases this
theorem opIn_of_held {l n i:Nat} {K K':Act->World->Prop} {a:Act} {w:World} (hd:noDefer ops=true) (hQ:¬ LetsOut Q) (hK:∀ a w,K a w->K' a w) (h:wpOp P ops Q i K a w):wpOpIn (Fence.wide.inRound l) n P ops Q i K' a w:=by
 unfold wpOp at h
 unfold wpOpIn
 cases ho:ops[i]? with
 | none=>rw [ho] at h; exact hK _ _ h
 | some o =>
  rw [ho] at h
  simp only at h ⊢
  split
  ·rename_i hw
   rw [if_pos hw] at h
   rcases h with h | ⟨_,h⟩
   ·refine ⟨fun _ _=>trivial,?_⟩
    rw [Oper.semAt_plain _ _ _ (noDefer_at hd ho)]
    unfold Oper.wp at h
    generalize (execOp a.eval o).run P w=r at h ⊢
    cases r with
    | ok x w' =>
     cases x with
     | value v=>exact hK _ _ h
     | skip=>exact hK _ _ h
     | defer d=>exact hK _ _ h
     | enter f args =>
      refine ⟨(fun e=>by cases e),CallsIn.inRound l (callsIn_wide.2 (Calls.mono h ?_))⟩
      rintro e w'' he
      cases e with
      | returned v=>exact hK _ _ he
      | panicked c=>exact he
      | outgrown=>exact absurd he hQ
     | row row args =>
      refine ⟨(fun e=>by cases e),?_⟩
      intro c cs _
      obtain ⟨v,w',r,s⟩:=h c cs
      exact ⟨v,w',hK _ _ r,stepsIn_wide.2 s⟩
     | round l f tmps assign body=>exact h.elim
     | _=>exact h.elim
    | halt x w' =>
     cases x with
     | panic v=>exact h
     | _=>exact h.elim
   ·exact absurd h hQ
  ·rename_i hw
   rw [if_neg hw] at h
   exact ⟨fun _ _=>trivial,hK _ _ h⟩
theorem anyIn_of_held {l n:Nat} (hd:noDefer ops=true) (hQ:¬ LetsOut Q):∀ (fuel:Nat) (listed:Array Bool) (a:Act) (w:World),wpAnyH P md ops Q S fuel listed a w->wpAnyIn (Fence.wide.inRound l) n P md ops Q fuel listed a w
 | 0,_,_,_,h=>h
 | fuel+1,_,_,_,h=>⟨h.1,fun i hi=>opIn_of_held hd hQ (fun a' w' h'=>anyIn_of_held hd hQ fuel _ a' w' h'.2) (h.2 i hi)⟩
theorem rgnIn {id l n:Nat} {a:Act} {w:World} (hm:P.follows .mixedOrders=true) (hd:noDefer ops=true) (hQ:¬ LetsOut Q) (hS:S w.drew)
  (h:S w.drew->wpAnyH P .any ops Q S ops.size (Array.replicate ops.size false) a w.drew):(Code.region id ops true).wpIn (Fence.wide.inRound l) n P Q a w :=
 wpIn_region_any hm (anyIn_of_held hd hQ _ _ _ _ (h hS))
end

end Go.Proofs.YtomjlopcifafpaaGreat
