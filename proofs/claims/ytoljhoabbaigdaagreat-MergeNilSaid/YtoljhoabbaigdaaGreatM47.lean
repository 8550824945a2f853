/- Proved parts: Told Tolb. Conditions: each theorem's own. -/
import Derived.RangeFuncNested
import Derived.Test.YtoljhoabbaigdaaGreatQ0
set_option maxRecDepth 100000
set_option maxHeartbeats 8000000
namespace Go.Proofs.YtoljhoabbaigdaaGreat
open Go.RowKit

def Gives {α:Type} (F:Fence) (n:Nat) (P:Program) (g:Nat) (lb:Array Value) (encs:α->Array Value) (I:List α->World->Prop) (Ok:List α->α->World->Prop) (S:List α->Prop) (w0:World):Prop :=
 ∀ (l:Nat) (J Jx:List α->World->Prop) (W:World),Below w0.heap.size w0 W->AbidesFrom W.heap.size J->AbidesFrom W.heap.size Jx->(∀ pre V,J pre V->I pre V) →
  (∀ pre x V,J pre V->Ok pre x V->YieldAt F (n-1) P l (encs x) V fun e V'=>(e=.returned (.bool true)∧J (pre++[x]) V')∨(e=.returned (.bool false)∧Jx (pre++[x]) V')) →
  J [] W->CallsIn F n P g (#[.func (.yield l) #[] #[]]++lb) W fun e V'=>(∃ v,e=.returned v)∧((∃ xs,S xs∧J xs V')∨∃ pre,Jx pre V')
def toldPost {α:Type} (B:Nat) (I Ix:List α->World->Prop) (xs:List α) (W:World):Exit->Act->World->Prop
 | .normal,_,W'=>KeepsFrom B W W'∧I xs W'
 | .ret,_,W'=>KeepsFrom B W W'∧Ix xs W'
 | _,_,_=>False

theorem wpIn_rangeFunc_told {F:Fence} {P:Program} {n:Nat} {α:Type} {g:Operand} {ps:Array Tmp} {assign body:Code} {Q:Exit->Act->World->Prop} {a:Act} {w:World}
  (hro:F.round=none) (h1:1<=n) {gf:Nat} {lb:Array Value} (hg:a.eval g=.func (.func gf) #[] lb) (hF:F.fn gf) (eg:∀ args w,(callFunc gf args).run P w=.ok (.enter gf args) w)
  {encs:α->Array Value} {I Ix:List α->World->Prop} {Ok:List α->α->World->Prop} {S:List α->Prop} {w0:World} (hseq:Gives F (n-1) P gf lb encs I Ok S w0)
  (hb0:Below w0.heap.size w0 w) (hps:∀ x,(encs x).size=ps.size) (hI:OwnFrom w.heap.size I) (hIx:OwnFrom w.heap.size Ix) (h0:I [] w)
  (M:List α->α->Act->World->Prop) (hM:∀ pre x a',OwnFrom w.heap.size (fun (_:Unit) W=>M pre x a' W))
  (hassign:∀ (l:Nat) (pre:List α) (x:α) (W:World) (K:Act->World->Prop),I pre W->Ok pre x W->(∀ a' W',KeepsFrom w.heap.size W W'->M pre x a' W'->K a' W') →
   assign.wpIn (F.inRound l) (n-1-1) P (Exit.then K (fun _ _ _=>False)) { tmps:=(ps.zip (encs x)).foldl (fun t (p,v)=>t.setIfInBounds p v) a.tmps,defers:=[] } W)
  (hbody:∀ (l:Nat) (pre:List α) (x:α) (a':Act) (W:World),M pre x a' W->body.wpIn (F.inRound l) (n-1-1) P (toldPost w.heap.size I Ix (pre++[x]) W) a' W)
  (hdone:∀ (D:Nat) (xs:List α) (W:World),w.heap.size<=D->S xs->I xs W->W.heap[D]?=some (.deferred (some []))->Q .normal { a with defers:={ target:=.collected D,args:=#[] } :: a.defers } W)
  (hstop:∀ (D:Nat) (pre:List α) (W:World),w.heap.size<=D->Ix pre W->W.heap[D]?=some (.deferred (some []))->Code.ret.wpIn F n P Q { a with defers:={ target:=.collected D,args:=#[] } :: a.defers } W) :
  (Code.rangeFunc g ps assign body).wpIn F n P Q a w:=by
 refine wpIn_rangeFunc fun fn hfn=>?_
 obtain ⟨B,hB⟩:=nmq (w.heap.size)
 rw [<-hB] at hI hIx hM hassign hbody hdone hstop
 obtain ⟨R,hR⟩:∃ R:LoopState->Option Code->Loop,R=fun st pe=>{ state:=st,pending:=pe,fn:=fn,tmps:=a.tmps,params:=ps,assign:=assign,body:=body,defers:=B }:=⟨_,rfl⟩
 obtain ⟨V0,hV0⟩:=nmq ((w.alloc (.deferred (some []))).alloc (.loop (R .ready none)))
 have z0:V0.heap.size=B+2:=by rw [hV0,hB]; simp
 have r0:V0.heap[B+1]?=some (.loop (R .ready none)):=by
  have:=World.alloc_heap_new (w.alloc (.deferred (some []))) (.loop (R .ready none))
  rw [World.size_alloc,<-hB] at this
  rw [hV0]; exact this
 have d0:V0.heap[B]?=some (.deferred (some [])):=by
  rw [hV0,hB]
  exact (Below.heap_alloc _ _ _ (by simp)).trans (World.alloc_heap_new w _)
 have i0:I [] V0:=by rw [hV0]; exact hI.alloc _ (hI.alloc _ h0)
 have b0:Below w0.heap.size w0 V0:=by
  have q:=((Below.refl w.heap.size w).alloc (Nat.le_refl _) (.deferred (some []))).alloc (by simp) (.loop (R .ready none))
  rw [hV0]; exact hb0.trans (q.mono hb0.size)
 have stays:∀ {X Y:World} {row:Option Nat} {k:Nat} {o:Obj},X.heap[k]?=some o->o.isWalk=false->X.grownBy Y row->(∀ r,row=some r->V0.heap.size<=r∧∃ o:Obj,X.heap[r]?=some o∧o.isWalk=true)->Y.heap[k]?=some o :=
  fun h hw gr hr=>(grownBy_keeps gr (fun r e=>(hr r e).2) h hw).trans h
 have cells:∀ {X:World} {row:Option Nat},(∀ r,row=some r->V0.heap.size<=r∧∃ o:Obj,X.heap[r]?=some o∧o.isWalk=true)->∀ r,row=some r->B<=r∧∃ o:Obj,X.heap[r]?=some o∧o.isCells=false:=fun hr r e=>by
  obtain ⟨h,o,ho,hw⟩:=hr r e
  exact ⟨by omega,o,ho,Obj.not_cells_of_walk hw⟩
 have seq:=hseq (B+1) (fun pre V=>I pre V∧V.heap[B+1]?=some (.loop (R .ready none))∧V.heap[B]?=some (.deferred (some [])))
  (fun pre V=>Ix pre V∧V.heap[B+1]?=some (.loop (R .done (some .ret)))∧V.heap[B]?=some (.deferred (some []))) V0 b0
  (fun s X Y row ⟨j1,j2,j3⟩ gr hr=>⟨hI s X Y row j1 gr (cells hr),stays j2 rfl gr hr,stays j3 rfl gr hr⟩)
  (fun s X Y row ⟨j1,j2,j3⟩ gr hr=>⟨hIx s X Y row j1 gr (cells hr),stays j2 rfl gr hr,stays j3 rfl gr hr⟩)
  (fun pre V j=>j.1) ?round ⟨i0,r0,d0⟩
 case round =>
  rintro pre x V ⟨j1,j2,j3⟩ ok
  have y:=run_yield (P:=P) (args:=encs x) j2 (by rw [hR]; exact hps x)
  rw [hR] at y
  refine ⟨fn,_,assign,body,y,roundIn_of_wpIn hfn (hassign _ pre x V _ j1 ok fun a' V1 k1 m1=>?_)⟩
  have s2:=k1.same _ _ (Nat.le_succ B) j2 rfl
  have s3:=k1.same _ _ (Nat.le_refl B) j3 rfl
  have lt:=(Array.getElem?_eq_some_iff.1 s2).1
  refine ⟨_,run_beginRound s2 (by rw [hR]),?_⟩
  obtain ⟨V2,hV2⟩:=nmq (V1.putObj (B+1) (.loop { R .ready none with state:=.busy }))
  rw [<-hV2]
  have t2:V2.heap[B+1]?=some (.loop { R .ready none with state:=.busy }):=by rw [hV2]; exact World.putObj_heap_same lt
  have t3:V2.heap[B]?=some (.deferred (some [])):=by rw [hV2]; exact (World.putObj_heap_other (by omega)).trans s3
  have m2:M pre x a' V2:=by rw [hV2]; exact (hM pre x a').putObj (s:=()) _ m1 (Nat.le_succ B) s2 rfl
  refine wpIn_mono (hbody _ pre x a' V2 m2) ?_
  have last:∀ (jump:Option Code) (V3:World),KeepsFrom B V2 V3->∃ V4,(Instr.endRound (B+1) jump).run P V3=.ok (.bool jump.isNone) V4∧V4=V3.putObj (B+1) (.loop (R (if jump.isNone then .ready else .done) jump)) ∧
    V3.heap[B+1]?=some (.loop { R .ready none with state:=.busy })∧V4.heap[B+1]?=some (.loop (R (if jump.isNone then .ready else .done) jump))∧V4.heap[B]?=some (.deferred (some [])):=fun jump V3 k3=>by
   have u2:=k3.same _ _ (Nat.le_succ B) t2 rfl
   have u3:=k3.same _ _ (Nat.le_refl B) t3 rfl
   have e:=run_endRound (P:=P) jump u2
   refine ⟨V3.putObj (B+1) (.loop (R (if jump.isNone then .ready else .done) jump)),?_,rfl,u2,World.putObj_heap_same (Array.getElem?_eq_some_iff.1 u2).1,(World.putObj_heap_other (by omega)).trans u3⟩
   rw [hR] at e ⊢
   exact e
  rintro e a3 V3 hp
  cases e with
  | normal =>
   obtain ⟨k3,i3⟩:=hp
   obtain ⟨V4,e4,q4,u2,v2,v3⟩:=last none V3 k3
   exact ⟨_,_,e4,.inl ⟨rfl,by rw [q4]; exact hI.putObj _ i3 (Nat.le_succ B) u2 rfl,v2,v3⟩⟩
  | ret =>
   obtain ⟨k3,i3⟩:=hp
   obtain ⟨V4,e4,q4,u2,v2,v3⟩:=last (some .ret) V3 k3
   exact ⟨_,_,e4,.inr ⟨rfl,by rw [q4]; exact hIx.putObj _ i3 (Nat.le_succ B) u2 rfl,v2,v3⟩⟩
  | exit id=>exact hp.elim
  | goto t=>exact hp.elim
  | panic ch=>exact hp.elim
  | outgrown=>exact hp.elim
 refine ⟨B+1,[{ target:=.collected B,args:=#[] }],V0,{ target:=.fn (.func gf) lb,args:=#[.func (.yield (B+1)) #[] #[]] },V0,gf,#[.func (.yield (B+1)) #[] #[]]++lb,V0,?_,?_,?_,?_,fun _=>h1,?_⟩
 ·rw [hro,hV0,hR,hB]; exact run_enterLoop_outer _ _ _ _ _
 ·simp only [resolve,hg]
  simp [go_sem]
 ·intro f' hf'
  simp [Target.leads] at hf'
  subst hf'
  exact hF
 ·simp [invoke,go_sem,eg]
 ·refine seq.mono ?_
  rintro e V ⟨⟨v,rfl⟩,⟨xs,hs,j1,j2,j3⟩ | ⟨pre,j1,j2,j3⟩⟩
  ·have e:(Instr.endLoop (B+1)).run P V=.ok none (V.putObj (B+1) (.loop (R .exhausted none))):=by
    have e:=run_endLoop (P:=P) j2 (by rw [hR]; simp)
    rw [hR] at e ⊢
    exact e
   exact ⟨none,V.putObj (B+1) (.loop (R .exhausted none)),e,hdone B xs _ (Nat.le_refl _) hs (hI.putObj _ j1 (Nat.le_succ B) j2 rfl) ((World.putObj_heap_other (by omega)).trans j3)⟩
  ·have e:(Instr.endLoop (B+1)).run P V=.ok (some .ret) (V.putObj (B+1) (.loop (R .exhausted (some .ret)))):=by
    have e:=run_endLoop (P:=P) j2 (by rw [hR]; simp)
    rw [hR] at e ⊢
    exact e
   exact ⟨some .ret,V.putObj (B+1) (.loop (R .exhausted (some .ret))),e,hstop B pre _ (Nat.le_refl _) (hIx.putObj _ j1 (Nat.le_succ B) j2 rfl) ((World.putObj_heap_other (by omega)).trans j3)⟩

def GivesB {α:Type} (F:Fence) (n:Nat) (P:Program) (g:Nat) (lb:Array Value) (encs:α->Array Value) (I:List α->World->Prop) (Ok:List α->α->World->Prop) (S:List α->Prop) (w0:World):Prop :=
 ∀ (l:Nat) (J Jx:List α->World->Prop) (W:World),Below w0.heap.size w0 W->(∀ s X Y,J s X->Below X.heap.size X Y->J s Y)->(∀ s X Y,Jx s X->Below X.heap.size X Y->Jx s Y)->(∀ pre V,J pre V->I pre V) →
  (∀ pre x V,J pre V->Ok pre x V->YieldAt F (n-1) P l (encs x) V fun e V'=>(e=.returned (.bool true)∧J (pre++[x]) V')∨(e=.returned (.bool false)∧Jx (pre++[x]) V')) →
  J [] W->CallsIn F n P g (#[.func (.yield l) #[] #[]]++lb) W fun e V'=>(∃ v,e=.returned v)∧((∃ xs,S xs∧J xs V')∨∃ pre,Jx pre V')
theorem GivesB.gives {α:Type} {F:Fence} {n:Nat} {P:Program} {g:Nat} {lb:Array Value} {encs:α->Array Value} {I:List α->World->Prop} {Ok:List α->α->World->Prop} {S:List α->Prop} {w0:World} (h:GivesB F n P g lb encs I Ok S w0):Gives F n P g lb encs I Ok S w0 :=
 fun l J Jx W hb hJ hJx=>h l J Jx W hb
  (fun s X Y hs hb=>hJ s X Y none hs ⟨hb.os,hb.tape,hb.output,hb.size,fun k hk _=>hb.block k hk⟩ (fun r e=>by cases e))
  (fun s X Y hs hb=>hJx s X Y none hs ⟨hb.os,hb.tape,hb.output,hb.size,fun k hk _=>hb.block k hk⟩ (fun r e=>by cases e))
end Go.Proofs.YtoljhoabbaigdaaGreat
