/- Proved parts: B5th B5tl B5ti. Conditions: each theorem's own. -/
import Derived.Test.YtomjlopcifafpaaGreatM48
import Derived.Test.YtomjlopcifafpaaGreatM47
import Derived.Test.YtomjlopcifafpaaGreatM49
import Derived.Test.YtomjlopcifafpaaGreatQ1
import Derived.Test.YtomjlopcifafpaaGreatQ2
set_option maxRecDepth 100000
set_option maxHeartbeats 8000000
namespace Go.Proofs.YtomjlopcifafpaaGreat
open Go.RowKit Go.Shelf

def SwI (b D:Nat) (W0:World) (F0:Nat->Prop) (s0:Sh) (L:Ch) (f:Int) (P i:Nat) (V:World):Prop :=
 Chg F0 W0 V∧∃ s F,Allf V F (s.os b)∧(∀ k,F k->F0 k∨D+2<=k)∧Sh.Hd s0 s∧s.At (L.swp f i) P
section
variable {b D P i:Nat} {W0 V Y:World} {F0:Nat->Prop} {s0:Sh} {L:Ch} {f:Int}
theorem SwI.below (h:SwI b D W0 F0 s0 L f P i V) (hb:Below V.heap.size V Y):SwI b D W0 F0 s0 L f P i Y:=by
 obtain ⟨c,s,F,h1,h2,h3,h4⟩:=h
 exact ⟨c.trans (Chg.of_below (F:=fun _=>False) hb) (fun _ e=>e.elim),s,F,h1.keep (fun k e=>hb.block k (h1.lt e)) hb.size,h2,h3,h4⟩
theorem SwI.put (h:SwI b D W0 F0 s0 L f P i V) (hD:W0.heap.size=D) (h0:∀ k,F0 k->k<D) (o:Obj):SwI b D W0 F0 s0 L f P i (V.putObj (D+1) o):=by
 obtain ⟨c,s,F,h1,h2,h3,h4⟩:=h
 have e:∀ k,k≠D+1->(V.putObj (D+1) o).heap[k]?=V.heap[k]?:=fun k hk=>World.putObj_heap_other hk
 have z:(V.putObj (D+1) o).heap.size=V.heap.size:=by simp [World.putObj]
 refine ⟨⟨c.os,c.tape,c.output,by rw [z]; exact c.size,fun k hk hn=>(e k (by omega)).trans (c.block k hk hn)⟩,s,F,h1.keep (fun k q=>e k fun y=>?_) (by omega),h2,h3,h4⟩
 rcases h2 k q with r | r
 ·have:=h0 k r; omega
 ·omega
theorem SwI.view (h:SwI b D W0 F0 s0 L f P i V):View b L i V:=by
 obtain ⟨_,s,F,h1,_,_,h4⟩:=h
 refine ⟨V,_,s,_,P,[],Ch.swept (L.take i) f,by rw [List.append_nil]; exact h1.side,h4.f,rfl,fun x hx=>Ch.swept_keys hx⟩
theorem SwI.set {w1:World} {A':Option Addr} {c' n:Nat} (h:SwI b D W0 F0 s0 L f P i V) (hD:W0.heap.size=D) (h0:∀ k,F0 k->k<D) (hV:D+2<=V.heap.size) (hr:L.Rise) (hi:i<L.length) (hk:(L.key i).size<=1000)
  (hb:Below V.heap.size V w1) (hs:SlV w1 A' (sweepL (L.chn i) f)) (hn:n=(sweepL (L.chn i) f).length) (hc:n<=c') (hg:0<n->∃ g,A'=some ⟨g,0,none⟩∧V.heap.size<=g) (gl:GoodL (sweepL (L.chn i) f)) (rl:rightL (sweepL (L.chn i) f)=true) :
  Calls Tryz.prog 54 #[PtrS b,.string (L.key i),.slice A' n c'] w1 fun e w'=>e=.returned (.tuple #[])∧(w'.heap[D]?=V.heap[D]?∧w'.heap[D+1]?=V.heap[D+1]?)∧SwI b D W0 F0 s0 L f P (i+1) w':=by
 obtain ⟨c,s,F,h1,h2,h3,h4⟩:=h
 obtain ⟨hp,hh⟩:=Ch.swp_pos (f:=f) hr hi
 have sd:=h1.side.below hb
 have fin:∀ w' (s':Sh) (L':Ch),Side V (fun k=>k<V.heap.size∧¬ F k) w' (s'.os b)->Sh.Hd s s'->s'.At L' P->L'=L.swp f (i+1)->(w'.heap[D]?=V.heap[D]?∧w'.heap[D+1]?=V.heap[D+1]?)∧SwI b D W0 F0 s0 L f P (i+1) w':=fun w' s' L' q1 q2 q3 q4=>by
  obtain ⟨ch,F',a1,a2⟩:=q1.allf
  have nf:∀ k,D<=k->k<=D+1->¬ F k:=fun k u1 u2 e=>by
   rcases h2 k e with r | r
   ·have:=h0 k r; omega
   ·omega
  refine ⟨⟨ch.block _ (by omega) (nf D (by omega) (by omega)),ch.block _ (by omega) (nf _ (by omega) (by omega))⟩,c.trans ch (fun k e=>?_),s',F',a1,fun k e=>?_,h3.trans q2,q4 ▸ q3⟩
  ·rcases h2 k e with r | r
   ·exact .inl r
   ·exact .inr (by omega)
  ·rcases a2 k e with r | r
   ·exact h2 k r
   ·exact .inr (by omega)
 by_cases z:n=0
 ·subst z
  have ez:sweepL (L.chn i) f=[]:=List.length_eq_zero_iff.1 hn.symm
  have sm:Side V (fun k=>k<V.heap.size∧¬ F k) w1 (s.os b++[oCh A' (sweepL (L.chn i) f)]):=sd.more (Below.refl _ _) (o:=oCh A' (sweepL (L.chn i) f)) (F':=fun _=>False) ⟨⟨hs,fun hp=>by omega⟩,fun _ e=>e.elim⟩ (fun _ e=>e.elim)
  exact (xSetDelR sm h4 hn gl rl hk hh).mono fun e w' ⟨e1,s',q1,q2,q3⟩=>⟨e1,fin w' s' _ q1 q2 q3 (Ch.swp_cut hr hi ez)⟩
 ·obtain ⟨g,rfl,hg⟩:=hg (by omega)
  have ez:sweepL (L.chn i) f≠[]:=fun e=>by rw [e] at hn; exact z hn
  have gw:g<w1.heap.size:=by
   obtain ⟨b',o',e,hl,_⟩:=hs (by omega)
   injection e with e; injection e with e _ _; rw [e]; exact hl
  have sm:Side V (fun k=>k<V.heap.size∧¬ F k) w1 (s.os b++[oCh (some ⟨g,0,none⟩) (sweepL (L.chn i) f)]) :=
   h1.side.more hb (o:=oCh (some ⟨g,0,none⟩) (sweepL (L.chn i) f)) (F':=fun k=>k=g) ⟨⟨hs,fun _=>⟨g,0,rfl,rfl⟩⟩,fun k e=>by rw [e]; exact gw⟩ (fun k e=>by omega)
  exact (xSetOldR sm h4 hn hc (by omega) gl rl hk hh).mono fun e w' ⟨e1,s',q1,q2,q3⟩=>⟨e1,fin w' s' _ q1 q2 q3 (Ch.swp_give hr hi ez)⟩
end

attribute [local go_sem] Oper.semAt_some
theorem xSweepR {w:World} {F0:Nat->Prop} {b P:Nat} {s:Sh} {L:Ch} (h:Allf w F0 (s.os b)) (a:s.At L P) (hne:∀ x,x ∈ L->x.2≠[]) :
  Calls Tryz.prog 14 #[PtrM b] w fun e w'=>e=.returned (.int .i64 ((L.vers:Int)-((L.swept (s.r.floor:Nat)).vers:Int)))∧Chg F0 w w'∧∃ s' F',Allf w' F' (s'.os b)∧(∀ k,F' k->F0 k∨w.heap.size<=k)∧Sh.Hd s s'∧s'.At (L.swept (s.r.floor:Nat)) P:=by
 obtain ⟨f,hf⟩:∃ q:Int,q=((s.r.floor:Nat):Int):=⟨_,rfl⟩
 rw [<-hf]
 have sd:Side w (fun k=>k<w.heap.size∧¬ F0 k) w (s.os b++[]):=by rw [List.append_nil]; exact h.side
 have FQ:=qh (fun W (hb:Below w.heap.size w W)=>show Calls Tryz.prog 15 #[PtrM b] W fun e w'=>e=.returned (.int .i64 f)∧Below W.heap.size W w' from by rw [hf]; exact xFloorR (sd.below hb))
 have VQ:=qh (fun W (hb:Below w.heap.size w W)=>show Calls Tryz.prog 21 #[PtrM b] W fun e w'=>e=.returned (.int .i64 (L.vers:Nat))∧Below W.heap.size W w' from by rw [<-a.x3]; exact xVersionsR (sd.below hb))
 obtain ⟨lv,hlv⟩:=nmq (L.vers)
 simp only [<-hlv] at VQ ⊢
 have HF:=qh hf
 have HLV:=qh hlv
 have HS:=qh h
 have HA:=qh a
 have HNE:=qh hne
 clear hf hlv h a hne sd
 refine (callsIn_wide (n:=6)).1 ?_
 refine callsIn_of_wp_marks Tryz.func14 rfl trivial ?_ rfl
 simp only [Tryz.ntmps14,List.size_toArray,List.length_cons,List.length_nil,Nat.reduceAdd,Nat.reduceSub,Array.replicate_succ,Array.replicate_zero,List.push_toArray,List.append_toArray,List.nil_append,List.cons_append]
 refine wpIn_wide.2 ?_
 obtain ⟨B,hB⟩:=nmq (w.heap.size)
 have B0:=qh (show Boxed (w.alloc (.cells #[PtrM b] 28)) w.heap.size 28 (PtrM b) from Boxed.new w _ _)
 have LB0:=qh (show Below w.heap.size w (w.alloc (.cells #[PtrM b] 28)) from (Below.refl _ _).alloc (Nat.le_refl _) _)
 go_wp2_with fail
 rw [<-hB] at B0 ⊢
 obtain ⟨w1,hw1⟩:=nmq (w.alloc (.cells #[PtrM b] 28))
 rw [<-hw1] at B0 LB0 ⊢
 have HB:=qh hB
 clear hw1 hB
 have BX:=qh (fun W (hb:Below w1.heap.size w1 W)=>show W.cell? ⟨B,0,none⟩=some (PtrM b) from (boxed_below B0.out hb).cell)
 have SB:=(show Boxed w1 B _ _ from B0.out).lt
 rename_i Q1 K1 hK1
 have TAIL:∀ (g:Nat) (W:World),B<g->Boxed W g 3 (.int .i64 f)->Below w1.heap.size w1 W->K1 { tmps:=#[PtrM b,.pointer (some ⟨B,0,none⟩),.int .i64 0,.pointer (some ⟨g,0,none⟩),.int .i64 (lv:Nat),undef,undef,PtrM b,.bool false,PtrM b,.int .i64 f,PtrM b,.int .i64 (lv:Nat),undef,undef,undef,undef,undef,undef,undef,undef,undef,undef,undef,undef,undef,undef,undef,undef,undef,undef,undef,undef,undef,undef],defers:=[] } W:=by
  intro g W hgB hg hbW
  refine hK1 _ _ ?_
  clear hK1
  dsimp only
  have FR:=qh (fun W=>xFromR b ⟨#[]⟩ W)
  have c1:=BX.out _ hbW
  have HBW:=qh hbW
  have HG:=qh hg
  clear hbW hg FQ VQ
  go_wp2_with fail
  refine (FR.out _).mono ?_
  rintro e w' ⟨rfl,rfl⟩
  clear FR
  go_wp2_with fail
  rename_i K2 hK2
  refine (wpIn_wide (n:=6)).1 ?_
  have hF0:∀ k,F0 k->k<B:=fun k e=>by rw [HB.out]; exact HS.out.lt e
  have zW:=HBW.out.size
  have gW:=HG.out.lt
  have bt:Below W.heap.size W (((W.alloc (.cells #[PtrS b] 183)).alloc (.cells #[.func (.func 94) #[] #[]] 218)).alloc (.cells #[.string ⟨#[]⟩] 9)):=(((Below.refl _ W).alloc (Nat.le_refl _) _).alloc (by simp) _).alloc (by simp; omega) _
  have r0:=((RowAt.new W [PtrS b] 183).alloc (.cells #[.func (.func 94) #[] #[]] 218)).alloc (.cells #[.string ⟨#[]⟩] 9)
  have p0:0=L.pos ⟨#[]⟩:=by
   refine (Ch.pos_is (Nat.zero_le _) (fun j hj=>absurd hj (Nat.not_lt_zero j)) fun hm=>?_).symm
   have:∀ x:ByteArray,ltB x ⟨#[]⟩=false:=fun x=>by
    have e:(⟨#[]⟩:ByteArray).toList=[]:=by rw [Val.toL]
    unfold ltB
    rw [e]
    cases x.toList<;>rfl
   exact this _
  have hc:=fun I hI=>givesB_from (n:=6-1) (w:=W) (b:=b) (k:=⟨#[]⟩) (L0:=L) (j0:=0) I HA.out.f.fine.rise p0 hI
  obtain ⟨W0,hW0⟩:∃ W0,((W.alloc (.cells #[PtrS b] 183)).alloc (.cells #[.func (.func 94) #[] #[]] 218)).alloc (.cells #[.string ⟨#[]⟩] 9)=W0:=⟨_,rfl⟩
  rw [hW0] at bt r0 hc ⊢
  obtain ⟨E,hE⟩:=nmq (W.heap.size)
  rw [<-hE] at r0 hc ⊢
  obtain ⟨D,hD⟩:∃ D,W0.heap.size=D:=⟨_,rfl⟩
  have zD:E+3=D:=by rw [<-hD,<-hW0,hE]; simp
  have sB:B<E:=by rw [hE]; have:=SB; omega
  have gE:g<E:=by rw [hE]; exact gW
  have bt:Below w.heap.size w W0:=below_then (below_then LB0.out HBW.out) bt
  have x1:Boxed W0 B 28 (PtrM b):=by
   have:=boxed_below (boxed_below B0.out HBW.out) (show Below W.heap.size W W0 by rw [<-hW0]; exact (((Below.refl _ W).alloc (Nat.le_refl _) _).alloc (by simp) _).alloc (by simp; omega) _)
   exact this
  have x2:Boxed W0 g 3 (.int .i64 f):=boxed_below HG.out (show Below W.heap.size W W0 by rw [<-hW0]; exact (((Below.refl _ W).alloc (Nat.le_refl _) _).alloc (by simp) _).alloc (by simp; omega) _)
  have CE:∀ V,Chg F0 W0 V->V.cell? ⟨B,0,none⟩=some (PtrM b)∧V.cell? ⟨g,0,none⟩=some (.int .i64 f)∧V.cell? ⟨E,0,none⟩=some (PtrS b):=fun V c=>by
   have nf:∀ k,B<=k->¬ F0 k:=fun k h e=>by have:=hF0 k e; omega
   exact ⟨(World.cell?_of_block (c.block B x1.lt (nf _ (Nat.le_refl _)))).trans x1.cell,(World.cell?_of_block (c.block g x2.lt (nf _ (by omega)))).trans x2.cell,(World.cell?_of_block (c.block E r0.lt (nf _ (by omega)))).trans (r0.cell 0)⟩
  obtain ⟨I,eI⟩:∃ I:List WItm->World->Prop,I=fun pre V=>SwI b D W0 F0 s L f P pre.length V∧pre.length<=L.length:=⟨_,rfl⟩
  have hc:=hc I (fun pre V hI=>by
   rw [eI] at hI
   exact ⟨by rw [Nat.zero_add]; exact hI.1.view,(CE V hI.1.1).2.2⟩)
  have hI1:∀ s X Y,I s X->Below X.heap.size X Y->I s Y:=by
   rw [eI]
   rintro s X Y ⟨h1,h2⟩ hb
   exact ⟨h1.below hb,h2⟩
  have hI2:∀ s X o,I s X->(∃ o',X.heap[W0.heap.size+1]?=some o'∧o'.isCells=false)->I s (X.putObj (W0.heap.size+1) o):=by
   rw [eI,hD]
   rintro s X o ⟨h1,h2⟩ _
   exact ⟨h1.put hD (fun k e=>by have:=hF0 k e; omega) o,h2⟩
  have h00:I [] W0:=by
   rw [eI]
   exact ⟨⟨Chg.refl _ _,s,F0,HS.out.keep (fun k e=>bt.block k (HS.out.lt e)) bt.size,fun _ e=>.inl e,⟨rfl,rfl,rfl,rfl,rfl,rfl,rfl⟩,HA.out⟩,Nat.zero_le _⟩
  have CE:=qh CE
  have BT:=qh bt
  have hF0:=qh hF0
  clear p0 hW0 hE r0 x1 x2 c1 bt zW gW
  refine wpIn_rangeFunc_toldB rfl (by decide) (gf:=136) (lb:=#[.pointer (some ⟨E,0,none⟩),.pointer (some ⟨E+1,0,none⟩),.pointer (some ⟨E+2,0,none⟩)]) rfl trivial (enters_of Tryz.func136 (by kernel_rfl) rfl) hc (Below.refl _ _) (fun _=>rfl) (Ix:=fun _ _=>False) hI1 hI2 (fun _ _ _ h=>h.elim) (fun _ _ _ h=>h.elim)
   h00
   (fun pre x a' V=>(OkW L 0 pre x V∧a'={ tmps:=#[PtrM b,.pointer (some ⟨B,0,none⟩),.int .i64 0,.pointer (some ⟨g,0,none⟩),.int .i64 (lv:Nat),.string x.1,x.2,PtrM b,.bool false,PtrM b,.int .i64 f,PtrM b,.int .i64 (lv:Nat),PtrM b,.pointer (some ⟨b,0,none⟩),PtrS b,.func (.func 136) #[] #[.pointer (some ⟨E,0,none⟩),.pointer (some ⟨E+1,0,none⟩),.pointer (some ⟨E+2,0,none⟩)],.string x.1,x.2,undef,undef,undef,undef,undef,undef,undef,undef,undef,undef,undef,undef,undef,undef,undef,undef],defers:=[] })∧I pre V)
   (fun pre x a' X o hs hp=>⟨⟨hs.1.1.put hp o,hs.1.2⟩,hI2 _ _ _ hs.2 hp⟩)
   ?assign ?body ?done ?stop
  case assign =>
   rintro l pre x V K hV2 hi ok hK
   dsimp only [encW]
   clear hc
   gi_wp2
   exact hK _ _ ⟨rfl,rfl⟩ ⟨⟨ok,rfl⟩,hi⟩
  case body =>
   rintro l pre ⟨k,sl⟩ a' V hV2 ⟨⟨⟨hlt,e1,A,c,e2,hc',hs⟩,rfl⟩,hi⟩
   simp only [Nat.zero_add] at e1 e2 hlt hc' hs
   subst e1 e2
   rw [eI] at hi
   obtain ⟨hsw,hle⟩:=hi
   rw [hD] at hV2 ⊢
   obtain ⟨q0,q1,_⟩:=CE.out V hsw.1
   obtain ⟨gl,rl,ll⟩:=good_of HA.out.f.good HA.out.f.right (L.key pre.length)
   rw [Ch.of_at HA.out.f.fine.rise hlt] at gl rl ll
   have mem:=Ch.key_mem hlt
   have hk:=HA.out.f.fine.ksz _ mem
   have ne:=HNE.out _ mem
   have OT:=xOld9 (L.chn pre.length) A c f V hs gl
   rw [rl,if_pos rfl] at OT
   have ST:=fun W (hb:Below V.heap.size V W)=>xSweep9 (L.chn pre.length) A c f W hc' (hs.below hb) gl
   simp only [rl,if_true] at ST
   have RS:rightL (sweepL (L.chn pre.length) f)=true:=by unfold sweepL; exact right_drop rl _
   have SR:=qh (fun (w1:World) (A':Option Addr) (c' n:Nat) hb hs' hn hc2 hg=>SwI.set (w1:=w1) (A':=A') (c':=c') (n:=n) hsw hD (fun k e=>by have:=hF0.out k e; omega) hV2 HA.out.f.fine.rise hlt hk hb hs' hn hc2 hg (gl.sweep f) RS)
   have ES:=fun (h:oldL (L.chn pre.length) f=0)=>(Ch.swp_same (f:=f) hlt ne (by unfold sweepL; rw [h]; rfl))
   obtain ⟨ov,hov⟩:=nmq (oldL (L.chn pre.length) f)
   obtain ⟨nv,hnv⟩:=nmq ((sweepL (L.chn pre.length) f).length)
   obtain ⟨z,hz⟩:=nmq ((L.chn pre.length).length)
   obtain ⟨K,hK⟩:=nmq (L.key pre.length)
   rw [<-hov] at OT ES
   rw [<-hz] at OT
   simp only [<-hz,<-hnv] at ST
   simp only [<-hK,<-hnv] at SR
   rw [<-hK,<-hz]
   have OT:=qh OT
   have ST:=qh ST
   have ES:=qh ES
   have SW:=qh hsw
   have LT:=qh (show pre.length+1<=L.length from hlt)
   have h1':1<=6-1-1:=by decide
   have HNV:=qh hnv
   clear hc hov hnv hz hK hsw hlt mem hk ne gl rl ll RS hs hc' hle hI1 hI2 h00
   by_cases o0:0<ov
   ·have o0:(0:Int)<(ov:Int):=by omega
    gi_wp2_with (refine ⟨trivial,?_⟩; gi_at_call 53; refine (CallsIn.inRound l (callsIn_wide.2 OT.out)).mono ?_; rintro e w2 ⟨rfl,hb2⟩; have HB2:=qh hb2; clear hb2)
    have CS:=qh (fun W (hb:Below V.heap.size V W)=>show W.cell? ⟨B,0,none⟩=some (PtrM b)∧W.cell? ⟨g,0,none⟩=some (.int .i64 f) from ⟨(CE.out W (SW.out.below hb).1).1,(CE.out W (SW.out.below hb).1).2.1⟩)
    have HBd:=qh (show Below V.heap.size V w2.drew from HB2.out.drew)
    refine Go.wpIn_mono (Q:=Exit.then (fun _ W'=>(W'.heap[D]?=V.heap[D]?∧W'.heap[D+1]?=V.heap[D+1]?)∧SwI b D W0 F0 s L f P (pre.length+1) W') fun _ _ _=>False) ?_ (fun e a w h=>by
     cases e with
     | normal=>exact ⟨h.1,by
       rw [eI]
       show SwI b D W0 F0 s L f P (pre++[(K,Value.slice A z c)]).length w∧(pre++[(K,Value.slice A z c)]).length<=L.length
       rw [List.length_append,List.length_singleton]
       exact ⟨h.2,LT.out⟩⟩
     | _=>exact h.elim)
    refine rgnIn (S:=fun W:World=>W.cell? ⟨B,0,none⟩=some (PtrM b)∧W.cell? ⟨g,0,none⟩=some (.int .i64 f)) (by kernel_rfl) (by kernel_rfl) (by rintro ⟨_,_,h⟩; exact h) (CS.out _ HBd.out) (fun gH=>?_)
    refine rgT 0 (v:=?v1) ?y1 gH ?_
    case y1=>(intro v hSw; obtain ⟨c1,c2⟩:=(show v.cell? ⟨B,0,none⟩=some (PtrM b)∧v.cell? ⟨g,0,none⟩=some (.int .i64 f) from hSw);go_simp<;>rfl)
    refine rgT 1 (v:=?v2) ?y2 gH ?_
    case y2=>(intro v hSw; obtain ⟨c1,c2⟩:=(show v.cell? ⟨B,0,none⟩=some (PtrM b)∧v.cell? ⟨g,0,none⟩=some (.int .i64 f) from hSw);go_simp<;>rfl)
    refine rgT 2 (v:=?v3) ?y3 gH ?_
    case y3=>(intro v hSw; obtain ⟨c1,c2⟩:=(show v.cell? ⟨B,0,none⟩=some (PtrM b)∧v.cell? ⟨g,0,none⟩=some (.int .i64 f) from hSw);go_simp<;>rfl)
    try simp only [putS]
    refine rgT 3 (v:=?v4) ?y4 gH ?_
    case y4=>(intro v hSw; obtain ⟨c1,c2⟩:=(show v.cell? ⟨B,0,none⟩=some (PtrM b)∧v.cell? ⟨g,0,none⟩=some (.int .i64 f) from hSw);go_simp<;>rfl)
    refine rgT 4 (v:=?v5) ?y5 gH ?_
    case y5=>(intro v hSw; obtain ⟨c1,c2⟩:=(show v.cell? ⟨B,0,none⟩=some (PtrM b)∧v.cell? ⟨g,0,none⟩=some (.int .i64 f) from hSw);go_simp<;>rfl)
    refine rgT 5 (v:=?v6) ?y6 gH ?_
    case y6=>(intro v hSw; obtain ⟨c1,c2⟩:=(show v.cell? ⟨B,0,none⟩=some (PtrM b)∧v.cell? ⟨g,0,none⟩=some (.int .i64 f) from hSw);go_simp<;>rfl)
    try simp only [putS]
    refine rgO 6 fun K hK=>?_
    go_simp
    refine (ST.out _ HBd.out).mono ?_
    rintro e w3 ⟨A',c2,rfl,hc2,hs3,hb3,hg3⟩
    have HS3:=qh (And.intro hc2 (And.intro hs3 hg3))
    have HB3:=qh (below_then HBd.out hb3)
    clear hc2 hs3 hb3 hg3
    refine hK.out _ _ (CS.out _ HB3.out) (fun gH=>?_)
    clear hK K
    try simp only [putS]
    refine rgO 7 fun K hK=>?_
    go_simp
    refine (SR.out w3 A' c2 nv HB3.out HS3.out.2.1 rfl HS3.out.1 (fun hp=>by obtain ⟨g9,e9,h9⟩:=HS3.out.2.2 hp; exact ⟨g9,e9,Nat.le_trans HBd.out.size h9⟩)).mono ?_
    rintro e w4 ⟨rfl,h4,h5⟩
    have HS4:=qh (And.intro h4 h5)
    clear h4 h5
    refine hK.out _ _ (⟨(CE.out _ HS4.out.2.1).1,(CE.out _ HS4.out.2.1).2.1⟩) (fun gH=>?_)
    clear hK K
    try simp only [putS]
    refine rgD ?_
    exact HS4.out
   ·have o0:¬ (0:Int)<(ov:Int):=by omega
    gi_wp2_with (refine ⟨trivial,?_⟩; gi_at_call 53; refine (CallsIn.inRound l (callsIn_wide.2 OT.out)).mono ?_; rintro e w2 ⟨rfl,hb2⟩; have HB2:=qh hb2; clear hb2)
    refine ⟨⟨HB2.out.block _ (by omega),HB2.out.block _ (by omega)⟩,?_⟩
    rw [eI]
    show SwI b D W0 F0 s L f P (pre++[(K,Value.slice A z c)]).length w2∧(pre++[(K,Value.slice A z c)]).length<=L.length
    rw [List.length_append,List.length_singleton]
    obtain ⟨q1,q2,q3,q4,q5,q6,q7⟩:=SW.out.below HB2.out
    exact ⟨⟨q1,q2,q3,q4,q5,q6,by rw [<-ES.out (by omega)]; exact q7⟩,LT.out⟩
  case done =>
   rintro D2 xs V hD2 hs hi hK
   rw [eI] at hi
   obtain ⟨⟨ch,s',F',a1,a2,a3,a4⟩,hle⟩:=hi
   obtain ⟨q0,q1,q2⟩:=CE.out V ch
   clear q1 q2
   have xe:xs.length=L.length:=by unfold EndW at hs; omega
   rw [xe,show L.swp f L.length=L.swept f from Ch.swp_all L f] at a4
   have VQ:=xVersionsR (os2:=[]) (by rw [List.append_nil]; exact a1.side)
   obtain ⟨x3,e3⟩:=nmq ((L.swept f).vers)
   have e4:=a4.x3
   rw [<-e3] at e4
   rw [e4] at VQ
   have b1:=(sums_small a4.f.good a4.f.n5).2.2
   have b2:=(sums_small HA.out.f.good HA.out.f.n5).2.2
   rw [<-e3] at b1
   rw [<-HLV.out] at b2
   have HF0:=hF0.out
   have sz:=ch.size
   rw [hD] at hD2 sz
   have A1:=qh a1
   have A2:=qh a2
   have A3:=qh a3
   have A4:=qh a4
   have CH:=qh ch
   have E3:=qh e3
   have HK:=qh hK
   have QW:IntKind.i64.wrap ((lv:Int)-(x3:Int))=(lv:Int)-(x3:Int):=by rw [IntKind.wrap_i64]; omega
   clear hc a1 a2 a3 a4 ch e3 e4 hK xe hle hs hI1 hI2 h00
   show K2 _ V
   refine hK2 _ _ ?_
   clear hK2
   dsimp only
   go_wp2_with fail
   refine VQ.mono ?_
   rintro e w4 ⟨rfl,hb4⟩
   have HB4:=qh hb4
   clear hb4 VQ
   go_wp2_with fail
   have hK:=HK.out
   rw [hD2] at hK
   have hK':w4.heap[D]?=some (.deferred (some [])):=(HB4.out.block D (Array.getElem?_eq_some_iff.1 hK).1).trans hK
   have nD:¬ F' D:=fun e=>by
    rcases A2.out D e with r | r
    ·have:=HF0 D r; omega
    ·omega
   have zp:(w4.putObj D (.deferred none)).heap.size=w4.heap.size:=by simp [World.putObj]
   have ep:∀ k,k≠D->(w4.putObj D (.deferred none)).heap[k]?=w4.heap[k]?:=fun k hk=>World.putObj_heap_other hk
   have ka:∀ k,F' k->(w4.putObj D (.deferred none)).heap[k]?=V.heap[k]?:=fun k e=>(ep k (fun y=>nD (y ▸ e))).trans (HB4.out.block k (A1.out.lt e))
   have c1:=Chg.trans (Chg.of_below (F:=F0) BT.out) CH.out (fun k e=>.inl e)
   have s4:=HB4.out.size
   have bz:=BT.out.size
   refine ⟨by simp,.inl ⟨_,_,rfl,run_takeDeferred hK',?_⟩⟩
   refine ⟨.int .i64 ((lv:Int)-(x3:Int)),by simp [results,Tryz.f14,go_sem],by rw [E3.out],⟨HB4.out.os.trans c1.os,HB4.out.tape.trans c1.tape,HB4.out.output.trans c1.output,by have:=c1.size; omega,fun k hk hn=>?_⟩,s',F',A1.out.keep ka (by omega),fun k e=>?_,A3.out,A4.out⟩
   ·have:=HB.out
    exact (ep k (by omega)).trans ((HB4.out.block k (by have:=c1.size; omega)).trans (c1.block k hk hn))
   ·rcases A2.out k e with r | r
    ·exact .inl r
    ·exact .inr (by have:=HB.out; omega)
  case stop =>
   rintro _ _ _ _ hi
   exact hi.elim
 clear hK1
 have TAIL:=qh TAIL
 have D0:=qh (show Below w1.heap.size w1 w1.drew from (Below.refl _ w1).drew)
 refine wp_mono (Q:=Exit.then K1 fun _ _ _=>False) ?_ (fun e a w h=>by cases e<;>first | exact h | exact h.elim)
 refine wp_region_held_drew (S:=fun W:World=>W.cell? ⟨B,0,none⟩=some (PtrM b)) (by kernel_rfl) (BX.out _ D0.out) (fun gH=>?_)
 refine rgT 0 (v:=?v7) ?y7 gH ?_
 case y7=>(intro v hSw; have c1:=(show v.cell? ⟨B,0,none⟩=some (PtrM b) from hSw);go_simp<;>rfl)
 refine rgT 2 (v:=?v8) ?y8 gH ?_
 case y8=>(intro v hSw; have c1:=(show v.cell? ⟨B,0,none⟩=some (PtrM b) from hSw);go_simp<;>rfl)
 try simp only [putS]
 refine rgnTwo 1 4 rfl rfl (by kernel_rfl) (fun K hK=>?_) (fun K hK=>?_)
 ·go_simp
  refine (FQ.out _ (below_then LB0.out D0.out)).mono ?_
  rintro e w2 ⟨rfl,hb2⟩
  have HB2:=qh (below_then D0.out hb2)
  clear hb2
  refine hK.out _ _ (BX.out _ HB2.out) (fun gH=>?_)
  clear hK K
  try simp only [putS]
  refine rgnTwo 3 4 rfl rfl (by kernel_rfl) (fun K hK=>?_) (fun K hK=>?_)
  ·go_simp
   refine (VQ.out _ (below_then LB0.out HB2.out)).mono ?_
   rintro e w3 ⟨rfl,hb3⟩
   have HB3:=qh (below_then HB2.out hb3)
   clear hb3
   refine hK.out _ _ (BX.out _ HB3.out) (fun gH=>?_)
   clear hK K
   try simp only [putS]
   have bx:=Boxed.new w3 3 (.int .i64 0)
   have HB4:=qh (HB3.out.alloc HB3.out.size (.cells #[.int .i64 0] 3))
   refine rgO 4 fun K hK=>?_
   go_simp
   refine hK.out _ _ (BX.out _ HB4.out) (fun gH=>?_)
   clear hK K
   try simp only [putS]
   obtain ⟨g,hg⟩:=nmq (w3.heap.size)
   have hgB:B<g:=by have:=HB3.out.size; omega
   have hgW:w1.heap.size<=g:=by have:=HB3.out.size; omega
   rw [<-hg] at bx ⊢
   obtain ⟨w4,hw4⟩:=nmq (w3.alloc (.cells #[.int .i64 0] 3))
   rw [<-hw4] at bx HB4 ⊢
   clear hg hw4
   have bc:=bx.cell
   have bf:=bx.frozen
   have HB5:=qh (HB4.out.setCell (p:=⟨g,0,none⟩) hgW (.int .i64 f))
   have bx5:=bx.set (.int .i64 f)
   refine rgO 5 fun K hK=>?_
   go_simp
   refine hK.out _ _ (BX.out _ HB5.out) (fun gH=>?_)
   clear hK K
   try simp only [putS]
   refine rgO 6 fun K hK=>?_
   go_simp
   refine hK.out _ _ (BX.out _ HB5.out) (fun gH=>?_)
   clear hK K
   try simp only [putS]
   refine rgD ?_
   exact TAIL.out g _ hgB bx5 HB5.out
  ·go_simp
   refine hK.out _ _ (BX.out _ (HB2.out.alloc HB2.out.size _)) (fun gH=>?_)
   clear hK K
   try simp only [putS]
   have bx:=Boxed.new w2 3 (.int .i64 0)
   have HB3:=qh (HB2.out.alloc HB2.out.size (.cells #[.int .i64 0] 3))
   obtain ⟨g,hg⟩:=nmq (w2.heap.size)
   have hgB:B<g:=by have:=HB2.out.size; omega
   have hgW:w1.heap.size<=g:=by have:=HB2.out.size; omega
   rw [<-hg] at bx ⊢
   obtain ⟨w3,hw3⟩:=nmq (w2.alloc (.cells #[.int .i64 0] 3))
   rw [<-hw3] at bx HB3 ⊢
   clear hg hw3
   refine rgO 3 fun K hK=>?_
   go_simp
   refine (VQ.out _ (below_then LB0.out HB3.out)).mono ?_
   rintro e w4 ⟨rfl,hb4⟩
   have HB4:=qh (below_then HB3.out hb4)
   have bx:=boxed_below bx hb4
   clear hb4
   refine hK.out _ _ (BX.out _ HB4.out) (fun gH=>?_)
   clear hK K
   try simp only [putS]
   have bc:=bx.cell
   have bf:=bx.frozen
   have HB5:=qh (HB4.out.setCell (p:=⟨g,0,none⟩) hgW (.int .i64 f))
   have bx5:=bx.set (.int .i64 f)
   refine rgO 5 fun K hK=>?_
   go_simp
   refine hK.out _ _ (BX.out _ HB5.out) (fun gH=>?_)
   clear hK K
   try simp only [putS]
   refine rgO 6 fun K hK=>?_
   go_simp
   refine hK.out _ _ (BX.out _ HB5.out) (fun gH=>?_)
   clear hK K
   try simp only [putS]
   refine rgD ?_
   exact TAIL.out g _ hgB bx5 HB5.out
 ·go_simp
  refine hK.out _ _ (BX.out _ (D0.out.alloc D0.out.size _)) (fun gH=>?_)
  clear hK K
  try simp only [putS]
  have bx:=Boxed.new w1.drew 3 (.int .i64 0)
  have HB2:=qh (D0.out.alloc D0.out.size (.cells #[.int .i64 0] 3))
  obtain ⟨g,hg⟩:=nmq (w1.drew.heap.size)
  have hgB:B<g:=by have:=D0.out.size; omega
  have hgW:w1.heap.size<=g:=by have:=D0.out.size; omega
  rw [<-hg] at bx
  obtain ⟨w2,hw2⟩:=nmq (w1.drew.alloc (.cells #[.int .i64 0] 3))
  rw [<-hw2] at bx HB2
  rw [show w1.drew.alloc (.cells #[.int .i64 0] 3)=(w1.alloc (.cells #[.int .i64 0] 3)).drew from rfl] at hw2
  rw [show w1.drew.heap.size=w1.heap.size from rfl] at hg
  rw [<-hg,<-hw2]
  clear hg hw2
  refine rgO 1 fun K hK=>?_
  go_simp
  refine (FQ.out _ (below_then LB0.out HB2.out)).mono ?_
  rintro e w3 ⟨rfl,hb3⟩
  have HB3:=qh (below_then HB2.out hb3)
  have bx:=boxed_below bx hb3
  clear hb3
  refine hK.out _ _ (BX.out _ HB3.out) (fun gH=>?_)
  clear hK K
  try simp only [putS]
  refine rgO 3 fun K hK=>?_
  go_simp
  refine (VQ.out _ (below_then LB0.out HB3.out)).mono ?_
  rintro e w4 ⟨rfl,hb4⟩
  have HB4:=qh (below_then HB3.out hb4)
  have bx:=boxed_below bx hb4
  clear hb4
  refine hK.out _ _ (BX.out _ HB4.out) (fun gH=>?_)
  clear hK K
  try simp only [putS]
  have bc:=bx.cell
  have bf:=bx.frozen
  have HB5:=qh (HB4.out.setCell (p:=⟨g,0,none⟩) hgW (.int .i64 f))
  have bx5:=bx.set (.int .i64 f)
  refine rgO 5 fun K hK=>?_
  go_simp
  refine hK.out _ _ (BX.out _ HB5.out) (fun gH=>?_)
  clear hK K
  try simp only [putS]
  refine rgO 6 fun K hK=>?_
  go_simp
  refine hK.out _ _ (BX.out _ HB5.out) (fun gH=>?_)
  clear hK K
  try simp only [putS]
  refine rgD ?_
  exact TAIL.out g _ hgB bx5 HB5.out

theorem R11.sweep (b:Nat) (F:Nat->Prop) (m:Rm) (w:World) (h:theR11 w b F m) (hf:m.Few):Calls Tryz.prog 14 #[PtrM b] w fun e w'=>e=.returned (.int .i64 m.gone)∧LeftM theR11 b F w m.sw w':=by
 obtain ⟨s,P,h,i⟩:=h
 have c:=xSweepR h i.at_ i.ok.L.ne
 rw [i.r] at c
 refine c.mono fun e w' ⟨e1,e2,s',F',e3,e4,e5,e6⟩=>⟨e1,e2,F',⟨s',P,e3,e6,i.few,e5.2.2.2.2.2.2.trans i.zs,e5.2.1.trans i.g1,e5.2.2.1.trans i.g2,e5.2.2.2.1.trans i.g3,e5.2.2.2.2.2.1.trans i.r,(Rm.ok_sw i.ok hf.1).1⟩,e4⟩

end Go.Proofs.YtomjlopcifafpaaGreat

namespace Go.Proofs.YtomjlopcifafpaaGreat
theorem theL11:RoomLo theR11 where
 keep:=R11.keep
 lt:=fun h e=>R11.lt h e
 ok:=R11.ok
 new:=R11.new
 load:=R11.load
 seq:=R11.seq
 floor:=R11.floor
 get:=R11.get
 check:=R11.check
 commit:=R11.commit
 sweep:=R11.sweep
 live:=R11.live
 keys:=R11.keys
 vers:=R11.vers
 entries:=R11.entries

theorem theW11:RoomSw theR11 where
 toRoomLo:=theL11
 after:=R11.after
end Go.Proofs.YtomjlopcifafpaaGreat
