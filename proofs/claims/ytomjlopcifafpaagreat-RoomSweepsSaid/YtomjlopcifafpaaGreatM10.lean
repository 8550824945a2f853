/- Proved parts: C9u C9w C9x. Conditions: each theorem's own. -/
import Derived.Test.YtomjlopcifafpaaGreatM9
import Derived.Laws.Rows
import Derived.Test.YtomjlopcifafpaaGreatQ2
set_option maxRecDepth 100000
set_option maxHeartbeats 8000000
namespace Go.Proofs.YtomjlopcifafpaaGreat
open Go.RowKit

def setV (w:World) (g:Nat) (x:Ver):World:=((((w.setCell ⟨g,0,none⟩ (.int .i64 x.seq)).setCell ⟨g,1,none⟩ (.bool x.gone)).setCell ⟨g,2,none⟩ (.bool x.val.num)).setCell ⟨g,3,none⟩ (.string x.val.txt)).setCell ⟨g,4,none⟩ (.int .u64 (x.val.bits:Int))
theorem setV_row {w:World} {g:Nat} {x y:Ver} {t:TypeId} (h:RowAt w g y.cs t):RowAt (setV w g x) g x.cs t:=((((h.set 0 (.int .i64 x.seq)).set 1 (.bool x.gone)).set 2 (.bool x.val.num)).set 3 (.string x.val.txt)).set 4 (.int .u64 (x.val.bits:Int))
theorem setV_below {w0 w:World} {B g:Nat} {x:Ver} (h:Below B w0 w) (hg:B<=g):Below B w0 (setV w g x):=((((h.setCell hg _).setCell hg _).setCell hg _).setCell hg _).setCell hg _

theorem results_cell_tmp {P:Program} {fn:Func} {p q:Tmp} {ty:TypeId} (h:fn.results=#[.cell p ty,.tmp q]) (tmps:Array Value) (w:World) (g:Nat) (t:TypeId) (cs:List Value) (d:TypeDesc)
  (hp:tmps.getD p undef=.pointer (some ⟨g,0,none⟩)) (hg:RowAt w g cs t)
  (hu:P.underlying ty=some d) (hd:(match d with | .struct _ | .array _ _=>true | _=>false)=true) (hi:(P.info? ty).map (·.size)=some cs.toArray.size) :
  (results fn tmps).run P w=.ok (.tuple #[.agg cs.toArray,tmps.getD q undef]) w:=by
 have hp':tmps[p]?.getD undef=.pointer (some ⟨g,0,none⟩):=by simpa using hp
 simp [results,h,hp',asAddr,run_loadVar_row w g t ty cs.toArray _ d hg hu hd hi]

theorem OwnV.cap {w:World} {B n c:Nat} {A:Option Addr} {l:List Ver} (h:OwnV w B (.slice A n c) l):l.length=n∧n<=c:=by
 rcases h.2 with ⟨e,h0⟩ | ⟨g,cap,cur,e,_,_,hnc,_⟩
 ·injection e with _ e1 e2
  omega
 ·injection e with _ e1 e2
  omega
theorem kept_no {l:List Ver} {k i:Nat} (h:i+1<=k):(l.take (i+1)).drop k=(l.take i).drop k:=by
 rw [List.drop_of_length_le (by rw [List.length_take]; omega),List.drop_of_length_le (by rw [List.length_take]; omega)]
theorem kept_yes {l:List Ver} {k i:Nat} (h:k<=i) (hi:i<l.length):(l.take (i+1)).drop k=(l.take i).drop k++[l.getD i Ver.Z]:=by
 rw [show l.take (i+1)=l.take i++[l.getD i Ver.Z] by
  rw [List.getD_eq_getElem?_getD,List.getElem?_eq_getElem hi]
  exact (List.take_append_getElem hi).symm]
 rw [List.drop_append_of_le_length (by rw [List.length_take]; omega)]

theorem rSweep9G (l:List Ver) (A:Option Addr) (c:Nat) (f:Int) (w:World) (h:SlV w A l) (hr:RiseV l) (hl:l.length<=1000) :
  Calls Tryz.prog 84 #[.slice A l.length c,.int .i64 f] w fun e w'=>∃ A' c',e=.returned (.slice A' (sweepL l f).length c')∧SlV w' A' (sweepL l f)∧(0<(sweepL l f).length->∃ g o,A'=some ⟨g,o,none⟩∧w.heap.size<=g)∧Below w.heap.size w w':=by
 obtain ⟨n,hn⟩:=nmq (l.length)
 obtain ⟨B,hB⟩:=nmq (w.heap.size)
 obtain ⟨K,hK⟩:=nmq (cnt f l)
 have kn:K<=n:=by rw [hK,hn]; exact cnt_le f l
 rw [<-hn] at hl ⊢
 rw [<-hB]
 have HN:=qh hn
 have HB:=qh hB
 have HK:=qh hK
 have HS:=qh h
 have CI:=qh (fun i (hi:i<n)=>show i<K↔(l.getD i Ver.Z).seq<=f by rw [hK]; exact cnt_iff (f:=f) hr i (by omega))
 clear hn hB hK h hr
 go_enter Tryz.func84,Tryz.ntmps84
 go_wp2_with fail
 go_loopw [5,6] (fun vo vi wr=>∃ (i:Nat) (v:Value),v=vo∧vi=.int .i64 i∧i<=n∧Hid (OwnV wr B v ((l.take i).drop (K-1)))∧Hid (Below B w wr)) (fun _ vi _=>n-(intOf vi).toNat)
 case atStart=>exact ⟨0,_,rfl,rfl,Nat.zero_le _,qh (by rw [List.take_zero,List.drop_nil]; exact OwnV.made w (by rw [HB.out]; exact Nat.le_refl _)),qh (by rw [HB.out]; exact (Below.refl _ _).alloc (Nat.le_refl _) _)⟩
 case round =>
  obtain ⟨i,v,rfl,rfl,hi,HO,HW⟩:=hrel
  by_cases q:i<n
  ·have hw:Below w.heap.size w wr:=by rw [<-HB.out]; exact HW.out
   have i0:(0:Int)<=(i:Int):=by omega
   have i1:(i:Int)<(n:Int):=by omega
   by_cases p:i+1<K
   ·obtain ⟨b,o,rfl,_,cc,_⟩:=HS.out.at (j:=i+1) (by rw [<-HN.out]; omega)
    have cc:=(hw.cell (p:=⟨b,o+(i+1) * 5,none⟩) (block_lt_of_cell cc)).trans cc
    have le:=(CI.out (i+1) (by omega)).1 p
    obtain ⟨s,hs⟩:=nmq ((l.getD (i+1) Ver.Z).seq)
    rw [<-hs] at cc le
    have i2:(i:Int)+1<(n:Int):=by omega
    have i3:((i:Int)+1).toNat=i+1:=by omega
    have KE:=qh (kept_no (l:=l) (k:=K-1) (i:=i) (by omega))
    clear hs hw
    go_wp2_with fail
    go_roundw
    case rel=>exact ⟨i+1,v,rfl,by go_num,by omega,by rw [KE.out]; exact HO,HW⟩
    case measure=>simp [intOf]; omega
   ·obtain ⟨b,o,rfl,_,cc⟩:=HS.out.at (j:=i) (by rw [<-HN.out]; omega)
    obtain ⟨c0,c1,c2,c3,c4⟩:=cells_later hw cc
    have KE:=qh (kept_yes (l:=l) (k:=K-1) (i:=i) (by omega) (by rw [<-HN.out]; exact q))
    obtain ⟨x,hx⟩:=nmq (l.getD i Ver.Z)
    rw [<-hx] at c0 c1 c2 c3 c4 KE
    have LN:=qh (show ((l.take i).drop (K-1)).length<=1000000 by rw [List.length_drop,List.length_take]; omega)
    by_cases p2:i+1<n
    ·obtain ⟨b',o',e,_,dd,_⟩:=HS.out.at (j:=i+1) (by rw [<-HN.out]; omega)
     injection e with e
     injection e with e1 e2 _
     subst e1; subst e2
     have dd:=(hw.cell (p:=⟨b,o+(i+1) * 5,none⟩) (block_lt_of_cell dd)).trans dd
     have gt:¬ (l.getD (i+1) Ver.Z).seq<=f:=fun z=>p ((CI.out (i+1) p2).2 z)
     obtain ⟨s,hs⟩:=nmq ((l.getD (i+1) Ver.Z).seq)
     rw [<-hs] at dd gt
     have i2:(i:Int)+1<(n:Int):=by omega
     have i3:((i:Int)+1).toNat=i+1:=by omega
     clear hs hw hx cc
     go_wp2_with (at_builtin; refine wp_putV rfl (.tmp 29) (.tmp 34) rfl v _ rfl (HO.out.alloc _) (Nat.le_trans (by rw [HB.out]; exact HW.out.size) (by simp)) wr.heap.size x rfl (fun j _=>(RowAt.new wr x.cs _).cell j) LN.out ?_; intro v' w6 ho hg; have HP:=qh ho; have HG:=qh hg; clear ho hg)
     go_roundw
     case rel=>exact ⟨i+1,v',rfl,by go_num,by omega,by rw [KE.out]; exact HP,qh ((HW.out.alloc (by rw [HB.out]; exact HW.out.size) _).grown HG.out (Nat.le_trans (by rw [HB.out]; exact HW.out.size) (by simp)) (fun k hk=>(HO.out.lt k hk).1))⟩
     case measure=>simp [intOf]; omega
    ·clear hw hx cc
     go_wp2_with (at_builtin; refine wp_putV rfl (.tmp 29) (.tmp 34) rfl v _ rfl (HO.out.alloc _) (Nat.le_trans (by rw [HB.out]; exact HW.out.size) (by simp)) wr.heap.size x rfl (fun j _=>(RowAt.new wr x.cs _).cell j) LN.out ?_; intro v' w6 ho hg; have HP:=qh ho; have HG:=qh hg; clear ho hg)
     go_roundw
     case rel=>exact ⟨i+1,v',rfl,by go_num,by omega,by rw [KE.out]; exact HP,qh ((HW.out.alloc (by rw [HB.out]; exact HW.out.size) _).grown HG.out (Nat.le_trans (by rw [HB.out]; exact HW.out.size) (by simp)) (fun k hk=>(HO.out.lt k hk).1))⟩
     case measure=>simp [intOf]; omega
  ·obtain rfl:i=n:=by omega
   have ho:=HO.out
   rw [List.take_of_length_le (by rw [<-HN.out]; exact Nat.le_refl _)] at ho
   have hk:=HK.out
   have dl:(l.drop (K-1)).length=i-(K-1):=by rw [List.length_drop,<-HN.out]
   have hold:sweepL l f=l.drop (if K=0 then 0 else if (l.getD (K-1) Ver.Z).gone then K else K-1):=by rw [hk]; rfl
   have x0:(l.drop (K-1)).getD 0 Ver.Z=l.getD (K-1) Ver.Z:=by rw [getD_drop,Nat.add_zero]
   have ci:∀ (z:K-1<i),K-1<K↔(l.getD (K-1) Ver.Z).seq<=f:=fun z=>CI.out (K-1) z
   obtain ⟨D,hD⟩:=nmq (l.drop (K-1))
   rw [<-hD] at ho dl x0
   obtain ⟨A',c',rfl,sl,hg⟩:=ho.sl
   obtain ⟨_,cap⟩:=ho.cap
   obtain ⟨d,hd⟩:=nmq (D.length)
   rw [<-hd] at dl hg cap ⊢
   have hs:Below B w wr:=HW.out
   have SL:=qh sl
   have FW:=qh hs
   by_cases d0:d=0
   ·have e0:sweepL l f=D:=by
     have:l=[]:=List.length_eq_zero_iff.1 (by rw [<-HN.out]; omega)
     rw [hold,hD,this,List.drop_nil,List.drop_nil]
    have EE:=qh e0
    have ED:=qh hd
    clear hg hold x0 ci ho sl hs hk dl hD hd e0
    subst d0
    go_wp2_with fail
    go_ret
    refine ⟨A',⟨c',?_⟩,by rw [EE.out]; exact SL.out,fun hp=>absurd hp (by first | (rw [EE.out,<-ED.out]; decide) | (rw [EE.out]; have:=ED.out; omega)),FW.out⟩
    rw [EE.out,<-ED.out]; rfl
   ·obtain ⟨g,rfl⟩:=hg (by omega)
    have LB:=qh (ho.lt g rfl).1
    obtain ⟨g',o',e,_,cc0,cc1,_⟩:=SL.out.at (j:=0) (by rw [<-hd]; omega)
    injection e with e
    injection e with e1 e2 _
    subst e1; subst e2
    simp only [Nat.zero_mul,Nat.add_zero,Nat.zero_add] at cc0 cc1
    rw [x0] at cc0 cc1
    obtain ⟨s,es⟩:=nmq ((l.getD (K-1) Ver.Z).seq)
    obtain ⟨b,eb⟩:=nmq ((l.getD (K-1) Ver.Z).gone)
    rw [<-es] at cc0 ci
    rw [<-eb] at cc1 hold
    have ED:=qh hd
    have e1:(b=true∧s<=f->sweepL l f=D.drop 1)∧(¬ (b=true∧s<=f)->sweepL l f=D):=by
     have:=ci (by omega)
     refine ⟨fun z=>?_,fun z=>?_⟩
     ·rw [hold,if_neg (by omega),if_pos z.1,hD,List.drop_drop,show K-1+1=K by omega]
     ·rw [hold,hD]
      by_cases k0:K=0
      ·rw [if_pos k0,k0]
      ·rw [if_neg k0,if_neg (fun y=>z ⟨y,by omega⟩)]
    have EE:=qh e1
    have l0:(0:Int)<(d:Int):=by omega
    clear hg hold x0 ci ho sl hs hk dl hD hd e1 es eb
    cases b with
    | false =>
     go_wp2_with fail
     go_ret
     refine ⟨_,⟨c',?_⟩,by rw [EE.out.2 (fun y=>by cases y.1)]; exact SL.out,fun _=>by exact ⟨g,⟨_,rfl⟩,LB.out⟩,FW.out⟩
     rw [EE.out.2 (fun y=>by cases y.1),<-ED.out]; rfl
    | true =>
     by_cases le:s<=f
     ·have E2:=qh (EE.out.1 ⟨rfl,le⟩)
      have d1:1<=d:=by omega
      have d2:1<=c':=by omega
      go_wp2_with fail
      ·go_ret
       have dz:D.drop 1=[]:=List.drop_of_length_le (by rw [<-ED.out]; omega)
       refine ⟨_,⟨0,?_⟩,by rw [E2.out,dz]; exact SlV.nil _ (some ⟨g,0,none⟩),fun _=>by exact ⟨g,⟨_,rfl⟩,LB.out⟩,FW.out⟩
       rw [E2.out,List.length_drop,<-ED.out]; rfl
      ·go_ret
       refine ⟨_,⟨c' - 1,?_⟩,by rw [E2.out]; exact SL.out.drop 1,fun _=>by exact ⟨g,⟨_,rfl⟩,LB.out⟩,FW.out⟩
       rw [E2.out,List.length_drop,<-ED.out]; rfl
     ·have E2:=qh (EE.out.2 (fun y=>le y.2))
      go_wp2_with fail
      go_ret
      refine ⟨_,⟨c',?_⟩,by rw [E2.out]; exact SL.out,fun _=>by exact ⟨g,⟨_,rfl⟩,LB.out⟩,FW.out⟩
      rw [E2.out,<-ED.out]; rfl
structure GoodL (l:List Ver):Prop where
 fits:FitsL l
 texts:∀ x,x ∈ l->x.val.txt.size<=1000
 len:l.length<=1000
theorem GoodL.drop {l:List Ver} (h:GoodL l) (k:Nat):GoodL (l.drop k) :=
 ⟨fun x hx=>h.fits x (List.mem_of_mem_drop hx),fun x hx=>h.texts x (List.mem_of_mem_drop hx),by rw [List.length_drop]; have:=h.len; omega⟩
theorem GoodL.sweep {l:List Ver} (h:GoodL l) (f:Int):GoodL (sweepL l f):=h.drop _
theorem GoodL.nil:GoodL []:=⟨fun x hx=>(by cases hx),fun x hx=>(by cases hx),by decide⟩
def vn (s:Int):Ver:=⟨s,false,Val.V0⟩
end Go.Proofs.YtomjlopcifafpaaGreat
