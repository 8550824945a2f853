/- Proved parts: B1a B1g B1h B1k B2m B2n B2s B2f B3o B3p B3t B3d B3f B3a B3q B3w. Conditions: each theorem's own. -/
import Derived.Test.YtomjlopcifafpaaGreatM18
import Derived.Test.YtomjlopcifafpaaGreatM19
import Derived.Deep.RegionHeldLaw
import Derived.Test.YtomjlopcifafpaaGreatM2
import Derived.Test.YtomjlopcifafpaaGreatM8
import Derived.Test.YtomjlopcifafpaaGreatQ1
import Derived.Test.YtomjlopcifafpaaGreatQ2
set_option maxRecDepth 100000
set_option maxHeartbeats 8000000
namespace Go.Proofs.YtomjlopcifafpaaGreat
open Go.RowKit

def stOk (zs:List Int) (g1 g2 g3:Int):Bool:=La.right zs && (decide (1<=g1) && (decide (g1<=16) && (decide (0<=g2) && (decide (g2<=1048576) && (decide (1<=g3) && decide (g3<=1073741824))))))

end Go.Proofs.YtomjlopcifafpaaGreat

namespace Go.Proofs.YtomjlopcifafpaaGreat
open Go.RowKit

theorem swept_succ (L:Ch) (f:Int) {i:Nat} (hi:i<L.length):Ch.swept (L.take (i+1)) f=if (sweepL (L.chn i) f).length=0 then Ch.swept (L.take i) f else Ch.swept (L.take i) f++[(L.key i,sweepL (L.chn i) f)]:=by
 unfold Ch.swept
 rw [List.take_succ_eq_append_getElem hi,List.map_append,List.filter_append,Ch.getE L hi]
 by_cases z:(sweepL (L.chn i) f).length=0
 ·rw [if_pos z]
  have e:sweepL (L.chn i) f=[]:=List.eq_nil_of_length_eq_zero z
  simp [e]
 ·rw [if_neg z]
  have e:(sweepL (L.chn i) f).isEmpty=false:=by
   cases q:sweepL (L.chn i) f with
   | nil=>rw [q] at z; exact absurd rfl z
   | cons _ _=>rfl
  simp [e]
theorem RiseV.drop {l:List Ver} (h:RiseV l) (k:Nat):RiseV (l.drop k):=fun i j hij hj=>by
 rw [List.length_drop] at hj
 rw [getD_drop,getD_drop]
 exact h _ _ (by omega) (by omega)
theorem mem_swept {L:Ch} {f:Int} {x:ByteArray × List Ver} (h:x ∈ L.swept f):∃ y,(x.1,y) ∈ L∧x.2=sweepL y f:=by
 unfold Ch.swept at h
 obtain ⟨h1,_⟩:=List.mem_filter.1 h
 obtain ⟨y,hy,rfl⟩:=List.mem_map.1 h1
 exact ⟨y.2,hy,rfl⟩
theorem swept_len (L:Ch) (f:Int):(L.swept f).length<=L.length:=by
 unfold Ch.swept
 refine Nat.le_trans (List.length_filter_le _ _) ?_
 rw [List.length_map]; exact Nat.le_refl _
theorem GoodC.swept {L:Ch} (h:GoodC L) (f:Int):GoodC (L.swept f):=by
 refine ⟨Nat.le_trans (swept_len L f) h.len,fun x hx=>?_,fun x hx=>?_,fun x hx=>?_,fun x hx=>?_,?_,fun x hx=>?_⟩
 ·obtain ⟨y,hy,e⟩:=mem_swept hx
  rw [e]; exact fun z hz=>h.fits _ hy z (List.mem_of_mem_drop hz)
 ·obtain ⟨y,hy,e⟩:=mem_swept hx
  rw [e]; exact fun z hz=>h.texts _ hy z (List.mem_of_mem_drop hz)
 ·obtain ⟨y,hy,e⟩:=mem_swept hx
  rw [e]; unfold sweepL; rw [List.length_drop]; have:y.length<=1000:=h.lens _ hy; omega
 ·obtain ⟨y,hy,e⟩:=mem_swept hx
  exact h.keys (x.1,y) hy
 ·unfold Ch.Rise Ch.swept
  refine List.Pairwise.filter _ ?_
  rw [List.pairwise_map]
  exact h.rise
 ·obtain ⟨y,hy,e⟩:=mem_swept hx
  rw [e]; exact (h.rises _ hy).drop _
section
variable {w w' w2 w3 w4:World} {p q:Nat} {v lb:Value} {g2 g3:Int} {r r':Rg} {G:Nat->Prop} {A A':Option Addr} {c c':Nat} {L M:Ch}
theorem LeftR1.fresh (h:RoomG w p q v lb g2 g3 r G A c L) (s:SepR p q v G) (hb:Below w.heap.size w w4) (hs:SlO w4 (fun y=>w.heap.size<=y) A' M) :
  LeftR1 w p q v lb g2 g3 G r M (w4.setCell ⟨p,5,none⟩ (.slice A' M.length c')):=by
 have pl:=h.row.lt
 have h4:=h.below hb
 have sb:=hs.bound
 have bk:∀ k,k≠p->(w4.setCell ⟨p,5,none⟩ (.slice A' M.length c')).heap[k]?=w4.heap[k]?:=fun k e=>Below.heap_setCell _ _ _ _ e
 have sz:(w4.setCell ⟨p,5,none⟩ (.slice A' M.length c')).heap.size=w4.heap.size:=by simp
 refine ⟨(Chg.of_below hb).setCell (.inl (.inl rfl)) _,v,fun y=>w.heap.size<=y∧y<w4.heap.size,A',c',⟨?_,?_,?_,?_⟩,⟨s.1,?_⟩,fun _ e=>.inl e,fun _ e=>.inr e.1⟩
 ·exact h4.row.set 5 _
 ·exact h4.ring.keep fun k e=>bk k fun ek=>s.1 (ek ▸ e)
 ·exact sb.keep (fun k e=>bk k (by omega)) (Nat.le_of_eq sz.symm)
 ·intro y e; rw [sz]; exact e.2
 ·intro y e
  refine ⟨fun f=>?_,by omega⟩
  have:=h.ring.lt y f; omega
end

theorem rSweep1 (p q:Nat) (v lb:Value) (g2 g3:Int) (r:Rg) (G:Nat->Prop) (A:Option Addr) (c:Nat) (L:Ch) (w:World) (h:RoomG w p q v lb g2 g3 r G A c L) (hs:SepR p q v G) (ok:r.Ok) (hL:GoodC L) (hv:L.vers<=1000000) (hn:L.length<=10000) :
  Calls Tryz.prog 45 #[.pointer (some ⟨p,0,none⟩)] w fun e w'=>e=.returned (.int .i64 ((L.vers:Int)-((L.swept (r.floor:Int)).vers:Int)))∧LeftR1 w p q v lb g2 g3 G r (L.swept (r.floor:Int)) w':=by
 have V1:=qh (rVers1 p G A c L w h.c5 h.sl hL)
 have FL:=qh (fun W (b:Below w.heap.size w W)=>rFloor1 p q v lb _ g2 g3 r W (h.below b).row (h.below b).ring ok)
 obtain ⟨f,hf⟩:=nmq ((r.floor:Int))
 rw [<-hf]
 simp only [<-hf] at FL
 have SW:=qh (fun i (hi:i<L.length)=>by
  obtain ⟨bb,o,A',c',e,hb,hg,k0,k1,sv⟩:=h.sl.at hi
  obtain ⟨g1,g2,g3,g4,g5⟩:=hL.get hi
  exact (show ∃ bb o A' c',A=some ⟨bb,o,none⟩∧bb<w.heap.size∧w.cell? ⟨bb,o+i * 2,none⟩=some (.string (L.key i))∧w.cell? ⟨bb,o+i * 2+1,none⟩=some (.slice A' (L.chn i).length c') ∧
   ∀ W,Below w.heap.size w W->Calls Tryz.prog 84 #[.slice A' (L.chn i).length c',.int .i64 f] W fun e w'=>∃ A2 c2,e=.returned (.slice A2 (sweepL (L.chn i) f).length c2)∧SlV w' A2 (sweepL (L.chn i) f)∧(0<(sweepL (L.chn i) f).length->∃ g o,A2=some ⟨g,o,none⟩∧W.heap.size<=g)∧Below W.heap.size W w' from
   ⟨bb,o,A',c',e,hb,k0,k1,fun W b=>rSweep9G (L.chn i) A' c' f W (sv.1.below b) g5 g3⟩))
 have FI:=qh (fun W4 A' c' (hb:Below w.heap.size w W4) (hsl:SlO W4 (fun y=>w.heap.size<=y) A' (L.swept f))=>LeftR1.fresh (c':=c') h hs hb hsl)
 have F5:=qh (fun W (b:Below w.heap.size w W)=>show W.frozen? ⟨p,5,none⟩=false∧W.cell? ⟨p,5,none⟩=some (.slice A L.length c) from ⟨(h.below b).row.frozen 5,(h.below b).c5⟩)
 have GS:=qh (hL.swept f)
 have ST:=qh (fun i (hi:i<L.length)=>swept_succ L f hi)
 have SL:=qh (fun i=>Nat.le_trans (swept_len (L.take i) f) (by rw [List.length_take]; exact Nat.min_le_right _ _))
 have vs:(L.swept f).vers<=L.vers:=by
  unfold Ch.vers Ch.swept
  clear h hs hL V1 FL SW FI F5 GS ST SL hv hn
  induction L with
  | nil=>exact Nat.le_refl _
  | cons x L ih =>
   rw [List.map_cons,List.filter_cons]
   have e1:(sweepL x.2 f).length<=x.2.length:=by unfold sweepL; rw [List.length_drop]; omega
   split
   ·rw [List.map_cons,List.sum_cons,List.map_cons,List.sum_cons]; exact Nat.add_le_add e1 ih
   ·rw [List.map_cons,List.sum_cons]; exact Nat.le_trans ih (Nat.le_add_left _ _)
 obtain ⟨V,hV⟩:=nmq (L.vers)
 obtain ⟨U,hU⟩:=nmq ((L.swept f).vers)
 rw [<-hV] at V1 vs hv ⊢
 rw [<-hU] at vs ⊢
 have HU:=qh hU
 obtain ⟨n,hn2⟩:=nmq (L.length)
 simp only [<-hn2] at SW F5 ST SL
 rw [<-hn2] at hn
 have HN:=qh hn2
 obtain ⟨B,hB⟩:=nmq (w.heap.size)
 have HB:=qh hB
 have c5:=(F5.out w (Below.refl _ _)).2
 obtain ⟨T,hT⟩:=nmq (V-U)
 have iT:(V:Int)-(U:Int)=(T:Int):=by omega
 have tb:T<=1000000:=by omega
 rw [iT]
 clear h hs ok hL hf hV hU hn2 hB vs hv hT
 go_enter Tryz.func45,Tryz.ntmps45
 go_wp2_with fail
 refine V1.out.mono ?_
 rintro e w1 ⟨rfl,rfl⟩
 go_wp2_with fail
 have O0:=qh (OwnZ.made w1 (Nat.le_refl _))
 have B0:=qh ((Below.refl w1.heap.size w1).alloc (Nat.le_refl _) (.cells #[] 176))
 go_loopw [4,5] (fun vo vi wr=>∃ (i:Nat) (v:Value) (zs:Zs),v=vo∧vi=.int .i64 i∧i<=n∧Hid (OwnZ wr w1.heap.size v zs)∧Hid (ZL wr (Gn (fun _=>False) w1.heap.size v) zs (Ch.swept (L.take i) f))∧Hid (Below w1.heap.size w1 wr)) (fun _ vi _=>n-(intOf vi).toNat)
 case atStart=>exact ⟨0,_,[],rfl,rfl,Nat.zero_le _,O0,qh (by rw [List.take_zero]; exact ZL.nil _ _),B0⟩
 case round =>
  obtain ⟨i,v,zs,rfl,rfl,hi,HO,HZ,HW⟩:=hrel
  by_cases z:i<n
  ·have h5:=(F5.out _ HW.out).2
   obtain ⟨b,o,A',c',rfl,hb,k0,k1,CS⟩:=SW.out i z
   have K0:=qh k0
   have K1:=qh k1
   have CS:=qh CS
   have ET:=qh (ST.out i z)
   have LN:=qh (show zs.length<=1000000 by rw [HZ.out.1]; have:=SL.out i; omega)
   obtain ⟨m,hm⟩:=nmq ((L.chn i).length)
   rw [<-hm] at K1 CS k1
   obtain ⟨D,hD⟩:=nmq (sweepL (L.chn i) f)
   simp only [<-hD] at CS ET
   obtain ⟨d,hd⟩:=nmq (D.length)
   simp only [<-hd] at CS ET
   obtain ⟨x,hx⟩:=nmq (L.key i)
   rw [<-hx] at K0 k0 ET
   have HD:=qh hd
   have i0:(0:Int)<=(i:Int):=by omega
   have i1:(i:Int)<(n:Int):=by omega
   clear hm hD hd hx k0 k1
   go_wp2_with fail
   have W0:=qh (below_drew HW.out)
   refine wp_region_held_drew (S:=(Below w1.heap.size w1)) (by kernel_rfl) (W0.out) (fun gH=>?_)
   refine rgT 0 (v:=?v1) ?y1 gH ?_
   case y1=>(intro v hSw; have y0:=(F5.out _ hSw).2; have y1:=(hSw.cell (p:=⟨b,o+i * 2+1,none⟩) (block_lt_of_cell K1.out)).trans K1.out; go_simp<;>rfl)
   refine rgT 1 (v:=?v2) ?y2 gH ?_
   case y2=>(intro v hSw; have y0:=(F5.out _ hSw).2; have y1:=(hSw.cell (p:=⟨b,o+i * 2+1,none⟩) (block_lt_of_cell K1.out)).trans K1.out; go_simp<;>rfl)
   refine rgT 2 (v:=?v3) ?y3 gH ?_
   case y3=>(intro v hSw; have y0:=(F5.out _ hSw).2; have y1:=(hSw.cell (p:=⟨b,o+i * 2+1,none⟩) (block_lt_of_cell K1.out)).trans K1.out; go_simp<;>rfl)
   try simp only [putS]
   refine rgT 3 (v:=?v4) ?y4 gH ?_
   case y4=>(intro v hSw; have y0:=(F5.out _ hSw).2; have y1:=(hSw.cell (p:=⟨b,o+i * 2+1,none⟩) (block_lt_of_cell K1.out)).trans K1.out; go_simp<;>rfl)
   refine rgT 4 (v:=?v5) ?y5 gH ?_
   case y5=>(intro v hSw; have y0:=(F5.out _ hSw).2; have y1:=(hSw.cell (p:=⟨b,o+i * 2+1,none⟩) (block_lt_of_cell K1.out)).trans K1.out; go_simp<;>rfl)
   refine rgT 5 (v:=?v6) ?y6 gH ?_
   case y6=>(intro v hSw; have y0:=(F5.out _ hSw).2; have y1:=(hSw.cell (p:=⟨b,o+i * 2+1,none⟩) (block_lt_of_cell K1.out)).trans K1.out; go_simp<;>rfl)
   try simp only [putS]
   refine rgT 6 (v:=?v7) ?y7 gH ?_
   case y7=>(intro v hSw; have y0:=(F5.out _ hSw).2; have y1:=(hSw.cell (p:=⟨b,o+i * 2+1,none⟩) (block_lt_of_cell K1.out)).trans K1.out; go_simp<;>rfl)
   refine rgT 7 (v:=?v8) ?y8 gH ?_
   case y8=>(intro v hSw; have y0:=(F5.out _ hSw).2; have y1:=(hSw.cell (p:=⟨b,o+i * 2+1,none⟩) (block_lt_of_cell K1.out)).trans K1.out; go_simp<;>rfl)
   refine rgT 8 (v:=?v9) ?y9 gH ?_
   case y9=>(intro v hSw; have y0:=(F5.out _ hSw).2; have y1:=(hSw.cell (p:=⟨b,o+i * 2+1,none⟩) (block_lt_of_cell K1.out)).trans K1.out; go_simp<;>rfl)
   try simp only [putS]
   refine rgO 9 fun K hK=>?_
   go_simp
   refine (FL.out _ W0.out).mono ?_
   rintro e w2 ⟨rfl,k2,hk⟩
   have W2:=qh (show Below w1.heap.size w1 w2 by rw [hk]; exact below_drewN W0.out k2)
   have R2:=qh (show Below wr.heap.size wr w2 by rw [hk]; exact below_drewN (below_drew (Below.refl _ _)) k2)
   clear hk
   refine hK.out _ _ (W2.out) (fun gH=>?_)
   clear hK K
   try simp only [putS]
   refine rgO 10 fun K hK=>?_
   go_simp
   refine (CS.out _ W2.out).mono ?_
   rintro e w3 ⟨A2,c2,rfl,sv,loc,hb3⟩
   have hb3':=W2.out.trans (hb3.mono W2.out.size)
   have W3:=qh hb3'
   have R3:=qh (R2.out.trans (hb3.mono R2.out.size))
   have SV:=qh sv
   have LOC:=qh loc
   clear sv loc hb3
   refine hK.out _ _ (hb3') (fun gH=>?_)
   clear hK K
   refine rgT 11 (v:=?v10) ?y10 gH ?_
   case y10=>(intro v hSw; have y0:=(F5.out _ hSw).2; have y1:=(hSw.cell (p:=⟨b,o+i * 2+1,none⟩) (block_lt_of_cell K1.out)).trans K1.out; go_simp<;>rfl)
   try simp only [putS]
   refine rgD ?_
   clear h5 W0 W2 hb3' CS
   by_cases dz:d=0
   ·subst dz
    have e:=ET.out
    rw [if_pos rfl] at e
    have ET:=qh e
    have O3:=qh (HO.out.below R3.out)
    have Z3:=qh (HZ.out.below R3.out)
    clear e
    go_wp2_with fail
    go_roundw
    case rel=>exact ⟨i+1,v,zs,rfl,by go_num,by omega,O3,by rw [ET.out]; exact Z3,W3⟩
    case measure=>simp [intOf]; omega
   ·have e:=ET.out
    rw [if_neg dz] at e
    have ET:=qh e
    have dp:0<d:=Nat.pos_of_ne_zero dz
    have O4:=qh ((HO.out.below R3.out).alloc (.cells #[.string x,.slice A2 d c2] 176))
    have ra:Below w3.heap.size w3 (w3.alloc (.cells #[.string x,.slice A2 d c2] 176)):=(Below.refl _ _).alloc (Nat.le_refl _) _
    have s4:SlVG (w3.alloc (.cells #[.string x,.slice A2 d c2] 176)) (Gn (fun _=>False) w1.heap.size v) A2 D:=⟨SV.out.below ra,fun hp=>by
     obtain ⟨g,o,e,hg⟩:=LOC.out (by rw [HD.out]; exact hp)
     have h2:=R2.out.size
     have h1:=HW.out.size
     refine ⟨g,o,e,.inr ⟨by omega,fun e2=>?_⟩⟩
     have:=(HO.out.lt g e2).2
     omega⟩
    have z4:=((HZ.out.below R3.out).below ra).snoc (k:=x) (c:=c2) s4
    rw [<-HD.out] at z4
    have Z4:=qh z4
    have W4:=qh (W3.out.alloc W3.out.size (.cells #[.string x,.slice A2 d c2] 176))
    have HV:=qh (fun k (hk:v.ownBlock=some k)=>(HO.out.lt k hk).1)
    have k0:=(W3.out.cell (p:=⟨b,o+i * 2,none⟩) (block_lt_of_cell K0.out)).trans K0.out
    have h5:=(F5.out _ W3.out).2
    clear e ra s4 z4
    go_wp2_with (at_builtin; refine wp_putZ rfl (.tmp 33) (.tmp 44) rfl v zs rfl O4.out W4.out.size w3.heap.size (x,.slice A2 d c2) rfl rfl (fun j _=>(RowAt.new w3 [.string x,.slice A2 d c2] _).cell j) LN.out ?_; intro v' w6 ho hg h4; have O6:=qh ho; have Z6:=qh (Z4.out.grown hg h4 (fun _ f=>f.elim) HV.out); have W6:=qh (W4.out.grown hg W4.out.size HV.out); clear ho hg h4)
    go_roundw
    case rel=>exact ⟨i+1,v',zs++[(x,.slice A2 d c2)],rfl,by go_num,by omega,O6,by rw [ET.out]; exact Z6,W6⟩
    case measure=>simp [intOf]; omega
  ·obtain rfl:i=n:=by omega
   have hz:=HZ.out
   rw [HN.out,List.take_length] at hz
   have h5:=F5.out _ HW.out
   obtain ⟨A',c',hv',sl'⟩:=HO.out.sl (hz.mono (G':=fun y=>w1.heap.size<=y) (fun k e=>by rcases e with e | e; exact e.elim; exact e.1)) (fun k e=>e)
   obtain ⟨d,hd⟩:=nmq ((L.swept f).length)
   have FW:=FI.out wr A' c' HW.out sl'
   rw [<-hd] at hv' FW
   subst hv'
   have f5:=h5.1
   have h5:=h5.2
   obtain ⟨w5,hw5⟩:=nmq (wr.setCell ⟨p,5,none⟩ (.slice A' d c'))
   rw [<-hw5] at FW
   obtain ⟨_,v5,G5,A5,c5',hr5,_⟩:=id FW
   have V2:=qh (rVers1 p G5 A5 c5' (L.swept f) w5 hr5.c5 hr5.sl GS.out)
   rw [<-HU.out] at V2
   have FW:=qh FW
   have H5:=qh hw5
   clear hz sl' hd hr5 hw5
   go_wp2_with fail
   rw [<-H5.out]
   refine V2.out.mono ?_
   rintro e w6 ⟨rfl,rfl⟩
   go_wp2_with fail
   go_ret
   exact ⟨rfl,FW.out⟩

end Go.Proofs.YtomjlopcifafpaaGreat

namespace Go.Proofs.YtomjlopcifafpaaGreat
open Go.RowKit

theorem infoEn:(Tryz.prog.info? 134).map (fun i=>(i.zero,i.size,i.bytes))=some (some En.Z.v,5,56):=by kernel_rfl
def ecs (l:List En):List Value:=l.flatMap En.cs
def OwnEn (w:World) (B:Nat) (v:Value) (l:List En):Prop:=w.ownsRow B 134 5 v l.length (ecs l)
section
variable {w w':World} {B:Nat} {v:Value} {l:List En}
theorem OwnEn.sl (h:OwnEn w B v l):∃ A c,v=.slice A l.length c∧SlEn w A l:=by
 have h1:=h
 unfold OwnEn at h1
 rcases h.2 with ⟨rfl,h0⟩ | ⟨g,cap,cur,rfl,hB,hg,_⟩
 ·exact ⟨none,0,by rw [h0],fun hp=>by omega⟩
 ·refine ⟨_,cap,rfl,fun hp=>⟨g,0,rfl,(Array.getElem?_eq_some_iff.1 hg).1,fun j hj=>?_⟩⟩
  have at_:∀ i,i<5->w.cell? ⟨g,j * 5+i,none⟩=(l.getD j En.Z).cs[i]?:=fun i hi=>by
   rw [h1.cellAt (j * 5+i) (by omega),List.getD_eq_getElem?_getD,List.getElem?_eq_getElem hj]
   exact flat_at (f:=En.cs) (n:=5) (fun _=>rfl) l j i hj hi
  rw [Nat.zero_add]
  exact ⟨at_ 0 (by decide),at_ 1 (by decide),at_ 2 (by decide),at_ 3 (by decide),at_ 4 (by decide)⟩
theorem OwnEn.below (h:OwnEn w B v l) (hb:Below w.heap.size w w'):OwnEn w' B v l:=by
 rcases h with ⟨h1,h2⟩
 refine ⟨h1,?_⟩
 rcases h2 with ⟨rfl,h0⟩ | ⟨g,cap,cur,rfl,hB,hg,r⟩
 ·exact .inl ⟨rfl,h0⟩
 ·refine .inr ⟨g,cap,cur,rfl,hB,?_,r⟩
  have hl:g<w.heap.size:=(Array.getElem?_eq_some_iff.1 hg).1
  rw [hb.block g hl]; exact hg
theorem OwnEn.alloc (h:OwnEn w B v l) (o:Obj):OwnEn (w.alloc o) B v l:=World.ownsRow.alloc h o
theorem OwnEn.lt (h:OwnEn w B v l):∀ k,v.ownBlock=some k->B<=k∧k<w.heap.size:=World.ownsRow.lt h
theorem OwnEn.made (w:World) (hB:B<=w.heap.size):OwnEn (w.alloc (.cells #[] 134)) B (.slice (some ⟨w.heap.size,0,none⟩) 0 0) [] :=
 World.ownsRow_made w #[] 0 hB (Nat.zero_le _) (by simp)
end
theorem ents_succ (L:Ch) (s:Int) {i:Nat} (hi:i<L.length):Ch.ents (L.take (i+1)) s=if atOk (L.chn i) s=true then Ch.ents (L.take i) s++[⟨L.key i,(atL (L.chn i) s).seq,(atL (L.chn i) s).val⟩] else Ch.ents (L.take i) s:=by
 unfold Ch.ents
 rw [List.take_succ_eq_append_getElem hi,List.filterMap_append,Ch.getE L hi]
 cases z:atOk (L.chn i) s with
 | true=>rw [if_pos rfl]; simp [z]
 | false=>rw [if_neg (by simp)]; simp [z]
theorem ents_len (L:Ch) (s:Int):(L.ents s).length<=L.length:=by unfold Ch.ents; exact List.length_filterMap_le _ _
end Go.Proofs.YtomjlopcifafpaaGreat

namespace Go.Proofs.YtomjlopcifafpaaGreat
open Go.RowKit

def enOk (p:Option ByteArray) (sq:Int) (x:En):Bool:=keyOk x.key && (x.val.ok && (decide (1<=x.seq) && (decide (x.seq<=sq) && (match p with | none=>true | some k=>ltB k x.key))))
def prevE (l:List En) (i:Nat):Option ByteArray:=if i=0 then none else some (l.getD (i-1) En.Z).key
def mayE (l:List En) (sq:Int):Bool:=(List.range l.length).all fun i=>enOk (prevE l i) sq (l.getD i En.Z)
theorem mayE_no {l:List En} {sq:Int} {i:Nat} (hi:i<l.length) (h:enOk (prevE l i) sq (l.getD i En.Z)=false):mayE l sq=false:=by
 cases q:mayE l sq with
 | false=>rfl
 | true =>
  unfold mayE at q
  simp only [List.all_eq_true,List.mem_range] at q
  have:=q i hi
  rw [h] at this; cases this
theorem mayE_yes {l:List En} {sq:Int} (h:∀ j,j<l.length->enOk (prevE l j) sq (l.getD j En.Z)=true):mayE l sq=true:=by
 unfold mayE
 simp only [List.all_eq_true,List.mem_range]
 exact h
theorem prevE_succ (l:List En) (i:Nat):prevE l (i+1)=some (l.getD i En.Z).key:=by
 unfold prevE
 rw [if_neg (by omega),Nat.add_sub_cancel]
def En.ver (x:En):Ver:=⟨x.seq,false,x.val⟩
def loadL (l:List En):Ch:=l.map fun x=>(x.key,[x.ver])
theorem loadL_succ (l:List En) {i:Nat} (hi:i<l.length):loadL (l.take (i+1))=loadL (l.take i)++[((l.getD i En.Z).key,[(l.getD i En.Z).ver])]:=by
 unfold loadL
 rw [List.take_succ_eq_append_getElem hi,List.map_append,List.getD_eq_getElem?_getD,List.getElem?_eq_getElem hi]
 rfl
theorem loadL_len (l:List En):(loadL l).length=l.length:=by unfold loadL; rw [List.length_map]
def ldE (zs:List Int) (g1 g2 g3 sq:Int) (l:List En):Int :=
 if (stOk zs g1 g2 g3 && (decide (0<=sq) && decide (sq<=g3)))=false then 1 else if mayE l sq=false then 1 else if g2<((loadL l).live:Int) then 15 else 0
def FitsE (l:List En):Prop:=∀ x,x ∈ l->x.val.Fits∧x.key.size<=1000∧x.val.txt.size<=1000
theorem FitsE.get {l:List En} (h:FitsE l) {i:Nat} (hi:i<l.length):(l.getD i En.Z).val.Fits∧(l.getD i En.Z).key.size<=1000∧(l.getD i En.Z).val.txt.size<=1000:=by
 rw [List.getD_eq_getElem?_getD,List.getElem?_eq_getElem hi]
 exact h _ (List.getElem_mem hi)
theorem loadL_key (l:List En) {i:Nat} (hi:i<l.length):(loadL l).key i=(l.getD i En.Z).key:=by
 unfold Ch.key loadL
 rw [List.getD_eq_getElem?_getD,List.getD_eq_getElem?_getD,List.getElem?_map,List.getElem?_eq_getElem hi]; rfl
theorem loadL_rise {l:List En} {sq:Int} (h:mayE l sq=true):(loadL l).Rise:=by
 unfold mayE at h
 simp only [List.all_eq_true,List.mem_range] at h
 have step:∀ j,j+1<l.length->ltB (l.getD j En.Z).key (l.getD (j+1) En.Z).key=true:=fun j hj=>by
  have:=h (j+1) hj
  rw [prevE_succ] at this
  unfold enOk at this
  simp only [Bool.and_eq_true] at this
  exact this.2.2.2.2
 have all:∀ d i,i+d+1<l.length->ltB (l.getD i En.Z).key (l.getD (i+d+1) En.Z).key=true:=fun d=>by
  induction d with
  | zero=>exact fun i hi=>step i hi
  | succ d ih=>exact fun i hi=>ltB_trans (ih i (by omega)) (step (i+d+1) (by omega))
 refine List.pairwise_iff_getElem.2 fun i j hi hj hij=>?_
 rw [Ch.getE _ hi,Ch.getE _ hj]
 rw [loadL_len] at hi hj
 show ltB ((loadL l).key i) ((loadL l).key j)=true
 rw [loadL_key l hi,loadL_key l hj]
 have:=all (j-i-1) i (by omega)
 rwa [show i+(j-i-1)+1=j by omega] at this
theorem loadL_good {l:List En} {sq:Int} (h:mayE l sq=true) (hf:FitsE l) (hl:l.length<=10000):GoodC (loadL l):=by
 have mem:∀ x,x ∈ loadL l->∃ y,y ∈ l∧x=(y.key,[y.ver]):=fun x hx=>by
  obtain ⟨y,hy,rfl⟩:=List.mem_map.1 hx
  exact ⟨y,hy,rfl⟩
 refine ⟨by rw [loadL_len]; omega,fun x hx=>?_,fun x hx y hy=>?_,fun x hx=>?_,fun x hx=>?_,loadL_rise h,fun x hx=>?_⟩
 ·obtain ⟨y,hy,rfl⟩:=mem x hx
  intro z hz
  simp at hz
  subst hz
  exact (hf y hy).1
 ·obtain ⟨z,hz,rfl⟩:=mem x hx
  simp at hy
  subst hy
  exact (hf z hz).2.2
 ·obtain ⟨y,hy,rfl⟩:=mem x hx
  exact Nat.le_trans (Nat.le_refl 1) (by decide)
 ·obtain ⟨y,hy,rfl⟩:=mem x hx
  exact (hf y hy).2.1
 ·obtain ⟨y,hy,rfl⟩:=mem x hx
  intro i j hij hj
  simp at hj
  omega
section
variable {w w1 w7:World} {x q B N1 b0:Nat} {g2 g3:Int} {lb v v':Value} {rg:Rg} {cs:List Value} {t0:TypeId} {zs:Zs} {L:Ch} {k:ByteArray} {y:Ver}
end


end Go.Proofs.YtomjlopcifafpaaGreat

namespace Go.Proofs.YtomjlopcifafpaaGreat
open Go.RowKit

namespace Ch
variable {L:Ch} {k k':ByteArray} {v:Ver} {l:List Ver} {i:Nat}
theorem pos_of (h:L.Rise) (hi:i<L.length):L.pos (L.key i)=i:=by
 rcases Nat.lt_trichotomy (L.pos (L.key i)) i with q | q | q
 ·have:=stop (L:=L) (k:=L.key i) (by omega)
  rw [rise_at h q hi] at this; cases this
 ·exact q
 ·have:=below (L:=L) (k:=L.key i) q
  rw [ltB_irr] at this; cases this
theorem has_at (h:L.Rise) (hi:i<L.length):L.has (L.key i)=true:=(has_iff L _).2 ⟨by rw [pos_of h hi]; exact hi,by rw [pos_of h hi]⟩
theorem of_at (h:L.Rise) (hi:i<L.length):L.of (L.key i)=L.chn i:=by
 unfold of
 rw [has_at h hi,if_pos rfl,pos_of h hi]
theorem mem_at:(k,l) ∈ L↔∃ i,i<L.length∧L.key i=k∧L.chn i=l:=by
 constructor
 ·intro h
  obtain ⟨i,hi,e⟩:=List.mem_iff_getElem.1 h
  rw [getE L hi] at e
  injection e with e1 e2
  exact ⟨i,hi,e1,e2⟩
 ·rintro ⟨i,hi,e1,e2⟩
  refine List.mem_iff_getElem.2 ⟨i,hi,?_⟩
  rw [getE L hi,e1,e2]
theorem of_mem (h:L.Rise) (hm:(k,l) ∈ L):L.of k=l:=by
 obtain ⟨i,hi,rfl,rfl⟩:=mem_at.1 hm
 exact of_at h hi
theorem has_mem (hm:(k,l) ∈ L) (h:L.Rise):L.has k=true:=by
 obtain ⟨i,hi,rfl,rfl⟩:=mem_at.1 hm
 exact has_at h hi
theorem mem_has (h:L.has k=true):(k,L.of k) ∈ L:=by
 obtain ⟨p,e⟩:=(has_iff L k).1 h
 refine mem_at.2 ⟨L.pos k,p,e,?_⟩
 unfold of
 rw [if_pos h]
theorem of_no (h:L.has k=false):L.of k=[]:=by unfold of; rw [h]; rfl
theorem mem_put (h:L.Rise) {y:ByteArray × List Ver}:y ∈ L.put k v↔y=(k,L.of k++[v])∨(y ∈ L∧y.1≠k):=by
 obtain ⟨a,b⟩:=y
 cases q:L.has k with
 | true =>
  obtain ⟨p,e⟩:=(has_iff L k).1 q
  have eo:L.of k=L.chn (L.pos k):=by unfold of; rw [if_pos q]
  have el:(L.put k v).length=L.length:=by unfold put; rw [if_pos q,List.length_set]
  rw [eo]
  constructor
  ·intro hm
   obtain ⟨i,hi,hy⟩:=List.mem_iff_getElem.1 hm
   rw [el] at hi
   have:=put_old (v:=v) q hi
   rw [List.getElem?_eq_getElem (by rw [el]; exact hi),hy] at this
   injection this with this
   by_cases z:i=L.pos k
   ·rw [if_pos z] at this; exact .inl this
   ·rw [if_neg z] at this
    injection this with e1 e2
    refine .inr ⟨mem_at.2 ⟨i,hi,e1.symm,e2.symm⟩,?_⟩
    show a≠k
    rw [e1]
    rcases Nat.lt_or_ge i (L.pos k) with w | w
    ·exact ne_below w
    ·exact ne_above h (by omega) hi
  ·rintro (hy | ⟨hm,hn⟩)
   ·rw [hy]
    refine List.mem_iff_getElem.2 ⟨L.pos k,by rw [el]; exact p,?_⟩
    have:=put_old (v:=v) q p
    rw [List.getElem?_eq_getElem (by rw [el]; exact p),if_pos rfl] at this
    injection this
   ·obtain ⟨i,hi,e1,e2⟩:=mem_at.1 hm
    have z:i≠L.pos k:=fun z=>hn (by show a=k; rw [<-e1,z,e])
    refine List.mem_iff_getElem.2 ⟨i,by rw [el]; exact hi,?_⟩
    have:=put_old (v:=v) q hi
    rw [List.getElem?_eq_getElem (by rw [el]; exact hi),if_neg z] at this
    injection this with this
    rw [this,e1,e2]
 | false =>
  have ep:L.put k v=L.take (L.pos k)++(k,[v]) :: L.drop (L.pos k):=by unfold put; rw [q]; rfl
  rw [ep,of_no q,List.nil_append,List.mem_append,List.mem_cons]
  have hl:∀ y:ByteArray × List Ver,y ∈ L↔y ∈ L.take (L.pos k)∨y ∈ L.drop (L.pos k):=fun y=>by rw [<-List.mem_append,List.take_append_drop]
  constructor
  ·rintro (hm | hm | hm)
   ·have hm':=(hl (a,b)).2 (.inl hm)
    exact .inr ⟨hm',fun e=>by have:=has_mem hm' h; rw [show (a,b).1=a from rfl] at e; rw [e,q] at this; cases this⟩
   ·exact .inl hm
   ·have hm':=(hl (a,b)).2 (.inr hm)
    exact .inr ⟨hm',fun e=>by have:=has_mem hm' h; rw [show (a,b).1=a from rfl] at e; rw [e,q] at this; cases this⟩
  ·rintro (hm | ⟨hm,_⟩)
   ·exact .inr (.inl hm)
   ·rcases (hl (a,b)).1 hm with w | w
    ·exact .inl w
    ·exact .inr (.inr w)
theorem rise_put (h:L.Rise):(L.put k v).Rise:=by
 cases q:L.has k with
 | true =>
  obtain ⟨p,e⟩:=(has_iff L k).1 q
  have el:(L.put k v).length=L.length:=by unfold put; rw [if_pos q,List.length_set]
  have at_:∀ i (hi:i<(L.put k v).length),((L.put k v)[i]).1=L.key i:=fun i hi=>by
   have:=put_old (v:=v) q (i:=i) (by omega)
   rw [List.getElem?_eq_getElem hi] at this
   injection this with this
   rw [this]
   by_cases z:i=L.pos k
   ·rw [if_pos z,z]; exact e.symm
   ·rw [if_neg z]
  refine List.pairwise_iff_getElem.2 fun i j hi hj hij=>?_
  rw [at_ i hi,at_ j hj]
  exact rise_at h hij (by omega)
 | false =>
  have ep:L.put k v=L.take (L.pos k)++(k,[v]) :: L.drop (L.pos k):=by unfold put; rw [q]; rfl
  rw [ep]
  have ht:∀ y,y ∈ L.take (L.pos k)->ltB y.1 k=true:=fun y hy=>by
   obtain ⟨i,hi,rfl⟩:=List.mem_iff_getElem.1 hy
   rw [List.length_take] at hi
   rw [List.getElem_take,getE L (by omega)]
   exact below (by omega)
  have hd:∀ y,y ∈ L.drop (L.pos k)->ltB k y.1=true:=fun y hy=>by
   obtain ⟨i,hi,rfl⟩:=List.mem_iff_getElem.1 hy
   rw [List.length_drop] at hi
   rw [List.getElem_drop,getE L (by omega)]
   by_cases z:i=0
   ·subst z; exact not_has q (by omega)
   ·exact above h (by omega) (by omega)
  refine List.pairwise_append.2 ⟨h.sublist (List.take_sublist _ _),List.pairwise_cons.2 ⟨fun y hy=>hd y hy,h.sublist (List.drop_sublist _ _)⟩,fun y hy z hz=>?_⟩
  rcases List.mem_cons.1 hz with e | hz
  ·rw [e]; exact ht y hy
  ·exact ltB_trans (ht y hy) (hd z hz)
theorem of_put (h:L.Rise):(L.put k v).of k'=if k'=k then L.of k++[v] else L.of k':=by
 by_cases z:k'=k
 ·rw [if_pos z,z]
  exact of_mem (rise_put h) ((mem_put h).2 (.inl rfl))
 ·rw [if_neg z]
  cases q:L.has k' with
  | true=>exact of_mem (rise_put h) ((mem_put h).2 (.inr ⟨mem_has q,z⟩))
  | false =>
   rw [of_no q]
   cases p:(L.put k v).has k' with
   | false=>exact of_no p
   | true =>
    rcases (mem_put h).1 (mem_has p) with e | ⟨e,_⟩
    ·injection e with e1 _; exact absurd e1 z
    ·have:=has_mem e h; rw [q] at this; cases this
theorem put_len_le:(L.put k v).length<=L.length+1:=by
 rw [put_len]
 split<;>omega
theorem of_swept (h:L.Rise) (f:Int):(L.swept f).of k=sweepL (L.of k) f:=by
 have hr:(L.swept f).Rise:=by
  unfold Rise swept
  refine List.Pairwise.filter _ ?_
  rw [List.pairwise_map]
  exact h
 by_cases z:sweepL (L.of k) f=[]
 ·rw [z]
  cases p:(L.swept f).has k with
  | false=>exact of_no p
  | true =>
   have hm:=mem_has p
   obtain ⟨y,hy,e⟩:=mem_swept hm
   have e1:=of_mem h hy
   have e:(L.swept f).of k=sweepL y f:=e
   rw [e,<-e1,z]
 ·have hk:L.has k=true:=by
   cases p:L.has k with
   | true=>rfl
   | false=>rw [of_no p] at z; exact absurd (by unfold sweepL; rw [List.drop_nil]) z
  refine of_mem hr ?_
  unfold swept
  refine List.mem_filter.2 ⟨List.mem_map.2 ⟨(k,L.of k),mem_has hk,rfl⟩,?_⟩
  cases e:sweepL (L.of k) f with
  | nil=>exact absurd e z
  | cons _ _=>rfl
end Ch

theorem snoc_get {l:List Ver} {v:Ver} {i:Nat} (h:i<l.length):(l++[v]).getD i Ver.Z=l.getD i Ver.Z:=by
 rw [List.getD_eq_getElem?_getD,List.getD_eq_getElem?_getD,List.getElem?_append_left h]
theorem snoc_last (l:List Ver) (v:Ver):(l++[v]).getD l.length Ver.Z=v:=by
 rw [List.getD_eq_getElem?_getD,List.getElem?_append_right (Nat.le_refl _)]; simp
def lastS (l:List Ver):Int:=if l.length=0 then 0 else (lastL l).seq
theorem rightL_snoc {l:List Ver} {v:Ver} (h:rightL l=true) (hv:mayV (lastS l) v=true):rightL (l++[v])=true:=by
 rw [rightL_iff] at h ⊢
 intro i hi
 rw [List.length_append] at hi
 by_cases z:i<l.length
 ·rw [snoc_get z]
  have:=h i z
  unfold prevS at this ⊢
  by_cases e:i=0
  ·rw [if_pos e] at this ⊢; exact this
  ·rw [if_neg e] at this ⊢; rw [snoc_get (by omega)]; exact this
 ·have e:i=l.length:=by simp at hi; omega
  rw [e,snoc_last]
  unfold prevS
  unfold lastS at hv
  by_cases e0:l.length=0
  ·rw [if_pos e0] at hv ⊢; exact hv
  ·rw [if_neg e0] at hv ⊢; rw [snoc_get (by omega)]; exact hv
theorem lastS_le {l:List Ver} {q:Int} (h:∀ y,y ∈ l->y.seq<=q) (hq:0<=q):lastS l<=q:=by
 unfold lastS
 by_cases e:l.length=0
 ·rw [if_pos e]; exact hq
 ·rw [if_neg e]
  refine h _ ?_
  unfold lastL
  rw [List.getD_eq_getElem?_getD,List.getElem?_eq_getElem (by omega)]
  exact List.getElem_mem _
structure OkL (L:Ch) (q:Int):Prop where
 rise:L.Rise
 ne:∀ x,x ∈ L->x.2≠[]
 right:∀ x,x ∈ L->rightL x.2=true
 le:∀ x,x ∈ L->∀ y,y ∈ x.2->y.seq<=q
 key:∀ x,x ∈ L->keyOk x.1=true
 fits:∀ x,x ∈ L->FitsL x.2
namespace OkL
variable {L:Ch} {q q':Int} {k:ByteArray} {v:Ver}
theorem nil (q:Int):OkL [] q:=⟨List.Pairwise.nil,fun _ h=>(by cases h),fun _ h=>(by cases h),fun _ h=>(by cases h),fun _ h=>(by cases h),fun _ h=>(by cases h)⟩
theorem of_right (h:OkL L q) (k:ByteArray):rightL (L.of k)=true:=by
 cases p:L.has k with
 | true=>exact h.right _ (Ch.mem_has p)
 | false=>rw [Ch.of_no p]; rfl
theorem of_le (h:OkL L q) (k:ByteArray):∀ y,y ∈ L.of k->y.seq<=q:=by
 cases p:L.has k with
 | true=>exact h.le _ (Ch.mem_has p)
 | false=>rw [Ch.of_no p]; exact fun _ h=>by cases h
theorem of_fits (h:OkL L q) (k:ByteArray):FitsL (L.of k):=by
 cases p:L.has k with
 | true=>exact h.fits _ (Ch.mem_has p)
 | false=>rw [Ch.of_no p]; exact fun _ h=>by cases h
theorem put (h:OkL L q) (hk:keyOk k=true) (hv:mayV (lastS (L.of k)) v=true) (hs:v.seq<=q') (hq:q<=q') (hf:v.val.Fits):OkL (L.put k v) q':=by
 refine ⟨Ch.rise_put h.rise,fun x hx=>?_,fun x hx=>?_,fun x hx=>?_,fun x hx=>?_,fun x hx=>?_⟩
 all_goals rcases (Ch.mem_put h.rise).1 hx with rfl | ⟨hm,_⟩
 ·simp
 ·exact h.ne x hm
 ·exact rightL_snoc (h.of_right k) hv
 ·exact h.right x hm
 ·intro y hy
  rcases List.mem_append.1 hy with e | e
  ·have:=h.of_le k y e; omega
  ·simp at e; rw [e]; exact hs
 ·exact fun y hy=>by have:=h.le x hm y hy; omega
 ·exact hk
 ·exact h.key x hm
 ·intro y hy
  rcases List.mem_append.1 hy with e | e
  ·exact h.of_fits k y e
  ·simp at e; rw [e]; exact hf
 ·exact h.fits x hm
theorem swept (h:OkL L q) (f:Int):OkL (L.swept f) q:=by
 refine ⟨?_,fun x hx=>?_,fun x hx=>?_,fun x hx=>?_,fun x hx=>?_,fun x hx=>?_⟩
 ·unfold Ch.Rise Ch.swept
  refine List.Pairwise.filter _ ?_
  rw [List.pairwise_map]
  exact h.rise
 ·unfold Ch.swept at hx
  have:=(List.mem_filter.1 hx).2
  intro e
  rw [e] at this; cases this
 ·obtain ⟨y,hy,e⟩:=mem_swept hx
  rw [e]; exact right_drop (h.right _ hy) _
 ·obtain ⟨y,hy,e⟩:=mem_swept hx
  rw [e]; exact fun z hz=>h.le _ hy z (List.mem_of_mem_drop hz)
 ·obtain ⟨y,hy,e⟩:=mem_swept hx
  exact h.key (x.1,y) hy
 ·obtain ⟨y,hy,e⟩:=mem_swept hx
  rw [e]; exact fun z hz=>h.fits _ hy z (List.mem_of_mem_drop hz)
end OkL

end Go.Proofs.YtomjlopcifafpaaGreat

namespace Go.Proofs.YtomjlopcifafpaaGreat
open Go.RowKit

theorem Val.ok_txt {x:Val} (h:x.ok=true):x.txt.size<=64:=by
 unfold Val.ok at h
 split at h
 ·simp only [Bool.and_eq_true,decide_eq_true_eq] at h; omega
 ·simp only [Bool.and_eq_true,decide_eq_true_eq] at h; exact h.2
theorem right_ok {l:List Ver} (h:rightL l=true) {y:Ver} (hy:y ∈ l):y.val.ok=true:=by
 obtain ⟨i,hi,rfl⟩:=List.mem_iff_getElem.1 hy
 have:=(rightL_iff l).1 h i hi
 unfold mayV at this
 simp only [Bool.and_eq_true] at this
 have h2:=this.2.2.1
 rwa [List.getD_eq_getElem?_getD,List.getElem?_eq_getElem hi] at h2
def Bnd (L:Ch) (K N:Nat):Prop:=L.length<=K∧∀ k,(L.of k).length<=N
theorem Bnd.mem {L:Ch} {K N:Nat} (h:Bnd L K N) (hr:L.Rise):∀ x,x ∈ L->x.2.length<=N:=fun x hx=>by
 obtain ⟨a,b⟩:=x
 rw [<-Ch.of_mem hr hx]
 exact h.2 a
theorem Bnd.mono {L:Ch} {K N K' N':Nat} (h:Bnd L K N) (hK:K<=K') (hN:N<=N'):Bnd L K' N':=⟨Nat.le_trans h.1 hK,fun k=>Nat.le_trans (h.2 k) hN⟩
theorem Bnd.swept {L:Ch} {K N:Nat} (h:Bnd L K N) (hr:L.Rise) (f:Int):Bnd (L.swept f) K N :=
 ⟨Nat.le_trans (swept_len L f) h.1,fun k=>by rw [Ch.of_swept hr]; unfold sweepL; rw [List.length_drop]; have:=h.2 k; omega⟩
theorem OkL.good {L:Ch} {q:Int} {K N:Nat} (h:OkL L q) (hb:Bnd L K N) (hK:K<=100000) (hN:N<=1000):GoodC L:=by
 refine ⟨Nat.le_trans hb.1 hK,h.fits,fun x hx y hy=>?_,fun x hx=>Nat.le_trans (hb.mem h.rise x hx) hN,fun x hx=>?_,h.rise,fun x hx=>rise_of_right (h.right x hx)⟩
 ·have:=Val.ok_txt (right_ok (h.right x hx) hy); omega
 ·have:=h.key x hx
  unfold keyOk at this
  simp only [Bool.and_eq_true,decide_eq_true_eq] at this
  omega
theorem mayW_at {l:List Wr} (h:mayW l=true) {i:Nat} (hi:i<l.length):wrOk (prevW l i) (l.getD i Wr.Z)=true:=by
 unfold mayW at h
 simp only [Bool.and_eq_true,List.all_eq_true,List.mem_range] at h
 exact h.2.2 i hi
theorem mayW_rise {l:List Wr} (h:mayW l=true) {i j:Nat} (hij:i<j) (hj:j<l.length):ltB (l.getD i Wr.Z).key (l.getD j Wr.Z).key=true:=by
 have step:∀ j,j+1<l.length->ltB (l.getD j Wr.Z).key (l.getD (j+1) Wr.Z).key=true:=fun j hj=>by
  have:=mayW_at h hj
  rw [prevW_succ] at this
  unfold wrOk at this
  simp only [Bool.and_eq_true] at this
  exact this.2.2.2
 obtain ⟨d,rfl⟩:∃ d,j=i+1+d:=⟨j-i-1,by omega⟩
 clear hij
 induction d with
 | zero=>exact step i hj
 | succ d ih=>exact ltB_trans (ih (by omega)) (step (i+1+d) (by omega))
theorem mayW_size {l:List Wr} (h:mayW l=true):l.length<=16:=by
 unfold mayW at h
 simp only [Bool.and_eq_true,decide_eq_true_eq] at h
 exact h.2.1
theorem withW_keeps {L:Ch} {q:Int} {ws:List Wr} {K N:Nat} (h:OkL L q) (hb:Bnd L K N) (hq0:0<=q) (hq:q+1<=1073741824) (hm:mayW ws=true) (hf:FitsW ws):∀ i,i<=ws.length →
  OkL (L.withW (ws.take i) (q+1)) (q+1)∧(∀ k,(∀ j,j<i->(ws.getD j Wr.Z).key≠k)->(L.withW (ws.take i) (q+1)).of k=L.of k)∧Bnd (L.withW (ws.take i) (q+1)) (K+i) (N+1)
 | 0,_=>by
  rw [List.take_zero]
  exact ⟨⟨h.rise,h.ne,h.right,fun x hx y hy=>by have:=h.le x hx y hy; omega,h.key,h.fits⟩,fun _ _=>rfl,hb.mono (Nat.le_refl _) (by omega)⟩
 | i+1,hi=>by
  obtain ⟨o,e,b⟩:=withW_keeps h hb hq0 hq hm hf i (by omega)
  rw [withW_succ L ws (q+1) (by omega)]
  have ne:∀ j,j<i->(ws.getD j Wr.Z).key≠(ws.getD i Wr.Z).key:=fun j hj e=>by
   have:=mayW_rise hm hj (by omega)
   rw [e,ltB_irr] at this; cases this
  have eo:=e _ ne
  have hw:=mayW_at hm (i:=i) (by omega)
  unfold wrOk at hw
  simp only [Bool.and_eq_true] at hw
  have hl:=lastS_le (h.of_le (ws.getD i Wr.Z).key) hq0
  have gz:(!(ws.getD i Wr.Z).gone || (ws.getD i Wr.Z).val.isZ)=true:=hw.2.2.1
  refine ⟨o.put hw.1 ?_ (Int.le_refl _) (Int.le_refl _) (hf.get (by omega)).1,fun k hk=>?_,?_,fun k=>?_⟩
  ·rw [eo]
   unfold mayV Wr.ver
   simp only [Bool.and_eq_true,decide_eq_true_eq]
   exact ⟨by omega,hq,hw.2.1,gz⟩
  ·rw [Ch.of_put o.rise,if_neg (fun z=>hk i (by omega) z.symm)]
   exact e k fun j hj=>hk j (by omega)
  ·have:=Ch.put_len_le (L:=L.withW (ws.take i) (q+1)) (k:=(ws.getD i Wr.Z).key) (v:=(ws.getD i Wr.Z).ver (q+1))
   have:=b.1
   omega
  ·rw [Ch.of_put o.rise]
   by_cases z:k=(ws.getD i Wr.Z).key
   ·rw [if_pos z,eo,List.length_append]
    have:=hb.2 (ws.getD i Wr.Z).key
    rw [List.length_singleton]; omega
   ·rw [if_neg z]; exact b.2 k
theorem OkL.with {L:Ch} {q:Int} {ws:List Wr} {K N:Nat} (h:OkL L q) (hb:Bnd L K N) (hq0:0<=q) (hq:q+1<=1073741824) (hm:mayW ws=true) (hf:FitsW ws):OkL (L.withW ws (q+1)) (q+1)∧Bnd (L.withW ws (q+1)) (K+16) (N+1):=by
 obtain ⟨a,_,c⟩:=withW_keeps h hb hq0 hq hm hf ws.length (Nat.le_refl _)
 rw [List.take_length] at a c
 exact ⟨a,c.mono (by have:=mayW_size hm; omega) (Nat.le_refl _)⟩
theorem OkL.goods {L:Ch} {q:Int} {ws:List Wr} {K N:Nat} (h:OkL L q) (hb:Bnd L K N) (hq0:0<=q) (hq:q+1<=1073741824) (hm:mayW ws=true) (hf:FitsW ws) (hK:K<=9000) (hN:N<=900) :
  ∀ i,i<=ws.length->GoodC (L.withW (ws.take i) (q+1))∧(L.withW (ws.take i) (q+1)).length<=10000:=fun i hi=>by
 obtain ⟨a,_,c⟩:=withW_keeps h hb hq0 hq hm hf i hi
 have:=mayW_size hm
 exact ⟨a.good c (by omega) (by omega),by have:=c.1; omega⟩
theorem OkL.load {l:List En} {sq:Int} (h:mayE l sq=true) (hf:FitsE l) (hs:sq<=1073741824):OkL (loadL l) sq∧Bnd (loadL l) l.length 1:=by
 have mem:∀ x,x ∈ loadL l->∃ i,i<l.length∧x=((l.getD i En.Z).key,[(l.getD i En.Z).ver]):=fun x hx=>by
  obtain ⟨y,hy,rfl⟩:=List.mem_map.1 hx
  obtain ⟨i,hi,rfl⟩:=List.mem_iff_getElem.1 hy
  exact ⟨i,hi,by rw [List.getD_eq_getElem?_getD,List.getElem?_eq_getElem hi]; rfl⟩
 have ok:∀ i,i<l.length->enOk (prevE l i) sq (l.getD i En.Z)=true:=fun i hi=>by
  unfold mayE at h
  simp only [List.all_eq_true,List.mem_range] at h
  exact h i hi
 have ri:=loadL_rise h
 refine ⟨⟨ri,fun x hx=>?_,fun x hx=>?_,fun x hx y hy=>?_,fun x hx=>?_,fun x hx=>?_⟩,by rw [loadL_len]; exact Nat.le_refl _,fun k=>?_⟩
 ·obtain ⟨i,hi,rfl⟩:=mem x hx; simp
 ·obtain ⟨i,hi,rfl⟩:=mem x hx
  have:=ok i hi
  unfold enOk at this
  simp only [Bool.and_eq_true,decide_eq_true_eq] at this
  refine rightL_snoc (l:=[]) rfl ?_
  unfold mayV En.ver lastS
  simp only [Bool.and_eq_true,decide_eq_true_eq]
  exact ⟨by show (0:Int)<_; have:=this.2.2.1; omega,by have:=this.2.2.2.1; omega,this.2.1,rfl⟩
 ·obtain ⟨i,hi,rfl⟩:=mem x hx
  have:=ok i hi
  unfold enOk at this
  simp only [Bool.and_eq_true,decide_eq_true_eq] at this
  simp at hy
  rw [hy]
  exact this.2.2.2.1
 ·obtain ⟨i,hi,rfl⟩:=mem x hx
  have:=ok i hi
  unfold enOk at this
  simp only [Bool.and_eq_true] at this
  exact this.1
 ·obtain ⟨i,hi,rfl⟩:=mem x hx
  intro z hz
  simp at hz
  rw [hz]
  exact (hf.get hi).1
 ·cases p:(loadL l).has k with
  | false=>rw [Ch.of_no p]; simp
  | true =>
   obtain ⟨i,hi,e⟩:=mem _ (Ch.mem_has p)
   injection e with _ e
   rw [e]; exact Nat.le_refl 1

theorem ents_mem {L:Ch} (h:L.Rise) (s:Int) {e:En}:e ∈ L.ents s↔atOk (L.of e.key) s=true∧e.seq=(atL (L.of e.key) s).seq∧e.val=(atL (L.of e.key) s).val:=by
 unfold Ch.ents
 rw [List.mem_filterMap]
 constructor
 ·rintro ⟨⟨k,l⟩,hm,he⟩
  have eo:=Ch.of_mem h hm
  cases z:atOk l s with
  | false=>simp [z] at he
  | true =>
   simp only [z,if_pos] at he
   injection he with he
   subst he
   rw [eo]
   exact ⟨z,rfl,rfl⟩
 ·rintro ⟨z,e1,e2⟩
  have hk:L.has e.key=true:=by
   cases p:L.has e.key with
   | true=>rfl
   | false=>rw [Ch.of_no p] at z; cases z
  refine ⟨(e.key,L.of e.key),Ch.mem_has hk,?_⟩
  simp only [z,if_pos]
  rw [<-e1,<-e2]
theorem ents_rise {L:Ch} (h:L.Rise) (s:Int):(L.ents s).Pairwise fun x y=>ltB x.key y.key=true:=by
 unfold Ch.ents
 rw [List.pairwise_filterMap]
 refine h.imp fun {x y} hxy a ha b hb=>?_
 split at ha
 ·injection ha with ha
  split at hb
  ·injection hb with hb
   rw [<-ha,<-hb]; exact hxy
  ·cases hb
 ·cases ha
theorem eq_of_mem:∀ {a b:List En},(a.Pairwise fun x y=>ltB x.key y.key=true)->(b.Pairwise fun x y=>ltB x.key y.key=true)->(∀ e,e ∈ a↔e ∈ b)->a=b
 | [],[],_,_,_=>rfl
 | [],y :: b,_,_,h=>by have:=(h y).2 (by simp); cases this
 | x :: a,[],_,_,h=>by have:=(h x).1 (by simp); cases this
 | x :: a,y :: b,ha,hb,h=>by
  obtain ⟨hx,pa⟩:=List.pairwise_cons.1 ha
  obtain ⟨hy,pb⟩:=List.pairwise_cons.1 hb
  have exy:x=y:=by
   rcases List.mem_cons.1 ((h x).1 (by simp)) with e | e
   ·exact e
   ·rcases List.mem_cons.1 ((h y).2 (by simp)) with e2 | e2
    ·exact e2.symm
    ·have h1:=hy x e
     have h2:=hx y e2
     rw [ltB_asym h1] at h2; cases h2
  subst exy
  refine congrArg (List.cons x) (eq_of_mem pa pb fun e=>?_)
  constructor
  ·intro he
   rcases List.mem_cons.1 ((h e).1 (List.mem_cons_of_mem _ he)) with z | z
   ·have:=hx e he
    rw [z,ltB_irr] at this; cases this
   ·exact z
  ·intro he
   rcases List.mem_cons.1 ((h e).2 (List.mem_cons_of_mem _ he)) with z | z
   ·have:=hy e he
    rw [z,ltB_irr] at this; cases this
   ·exact z
theorem ents_eq {La Lb:Ch} (ha:La.Rise) (hb:Lb.Rise) (s:Int) (h:∀ k,atOk (La.of k) s=atOk (Lb.of k) s∧atL (La.of k) s=atL (Lb.of k) s):La.ents s=Lb.ents s :=
 eq_of_mem (ents_rise ha s) (ents_rise hb s) fun e=>by
  rw [ents_mem ha,ents_mem hb,(h e.key).1,(h e.key).2]
theorem cnt_all {q:Int}:∀ {l:List Ver},(∀ y,y ∈ l->y.seq<=q)->cnt q l=l.length
 | [],_=>rfl
 | x :: l,h=>by
  unfold cnt
  rw [if_pos (h x (by simp)),cnt_all fun y hy=>h y (List.mem_cons_of_mem _ hy),List.length_cons]
def En.w (e:En):Nat:=if e.val.pack.size=0 then 0 else e.val.pack.size+e.key.size
theorem wgt_at {x:ByteArray × List Ver} {q:Int} (h:∀ y,y ∈ x.2->y.seq<=q):Ch.wgt x=if atOk x.2 q=true then En.w ⟨x.1,(atL x.2 q).seq,(atL x.2 q).val⟩ else 0:=by
 have c:=cnt_all h
 have eo:atOk x.2 q=(decide (0<x.2.length) && !(lastL x.2).gone):=by unfold atOk lastL; rw [c]
 cases z:atOk x.2 q with
 | false =>
  rw [if_neg (by simp)]
  rw [z] at eo
  unfold Ch.wgt
  rw [if_pos]
  unfold weightL
  rw [if_pos]
  by_cases e:x.2.length=0
  ·exact .inl e
  ·rw [decide_eq_true (by omega),Bool.true_and] at eo
   exact .inr (by simpa using eo.symm)
 | true =>
  rw [if_pos rfl]
  have el:atL x.2 q=lastL x.2:=by unfold atL; rw [z,if_pos rfl,c]; rfl
  rw [el]
  rw [z] at eo
  have eo:=eo.symm
  simp only [Bool.and_eq_true,decide_eq_true_eq] at eo
  have wl:weightL x.2=(lastL x.2).val.pack.size:=by
   unfold weightL
   rw [if_neg]
   rintro (e | e)
   ·omega
   ·rw [e] at eo; simp at eo
  unfold Ch.wgt En.w
  rw [wl]
theorem live_ents {q:Int}:∀ {L:Ch},(∀ x,x ∈ L->∀ y,y ∈ x.2->y.seq<=q)->L.live=((L.ents q).map En.w).sum
 | [],_=>rfl
 | x :: L,h=>by
  have ih:=live_ents (L:=L) fun y hy=>h y (List.mem_cons_of_mem _ hy)
  have e:=wgt_at (q:=q) (h x (by simp))
  unfold Ch.live at ih ⊢
  unfold Ch.ents at ih ⊢
  rw [List.map_cons,List.sum_cons,ih,e,List.filterMap_cons]
  cases z:atOk x.2 q with
  | false=>simp
  | true=>simp

end Go.Proofs.YtomjlopcifafpaaGreat

namespace Go.Proofs.YtomjlopcifafpaaGreat
open Go.RowKit

theorem cnt_snoc {f:Int} {v:Ver} (h:f<v.seq):∀ l:List Ver,cnt f (l++[v])=cnt f l
 | []=>by show (if v.seq<=f then _ else _)=_; rw [if_neg (by omega)]; rfl
 | x :: l=>by
  show (if x.seq<=f then cnt f (l++[v])+1 else 0)=(if x.seq<=f then cnt f l+1 else 0)
  rw [cnt_snoc h l]
theorem sweep_snoc {f:Int} {v:Ver} (h:f<v.seq) (l:List Ver):sweepL (l++[v]) f=sweepL l f++[v]:=by
 have hc:=cnt_le f l
 have ho:=oldL_le l f
 have e:oldL (l++[v]) f=oldL l f:=by
  unfold oldL
  rw [cnt_snoc h]
  by_cases z:cnt f l=0
  ·rw [if_pos z,if_pos z]
  ·rw [if_neg z,if_neg z,snoc_get (by omega)]
 unfold sweepL
 rw [e,List.drop_append_of_le_length (by omega)]
def Sim (La Lb:Ch) (F:Int):Prop:=∀ k,∃ f,f<=F∧Lb.of k=sweepL (La.of k) f
namespace Sim
variable {La Lb:Ch} {F q q':Int} {k:ByteArray} {v:Ver}
theorem nil (F:Int):Sim [] [] F:=fun _=>⟨F,Int.le_refl _,rfl⟩
theorem mono (h:Sim La Lb F) {F':Int} (hF:F<=F'):Sim La Lb F':=fun k=>by
 obtain ⟨f,hf,e⟩:=h k
 exact ⟨f,by omega,e⟩
theorem swept (h:Sim La Lb F) (oa:OkL La q) (ob:OkL Lb q'):Sim La (Lb.swept F) F:=fun k=>by
 obtain ⟨f,hf,e⟩:=h k
 refine ⟨F,Int.le_refl _,?_⟩
 rw [Ch.of_swept ob.rise,e,sweep_twice (rise_of_right (oa.of_right k)),show max f F=F by omega]
theorem put (h:Sim La Lb F) (ha:La.Rise) (hb:Lb.Rise) (hv:F<v.seq):Sim (La.put k v) (Lb.put k v) F:=fun k'=>by
 rw [Ch.of_put ha,Ch.of_put hb]
 by_cases z:k'=k
 ·rw [if_pos z,if_pos z]
  obtain ⟨f,hf,e⟩:=h k
  exact ⟨f,hf,by rw [e,sweep_snoc (by omega)]⟩
 ·rw [if_neg z,if_neg z]; exact h k'
theorem rise_with (ha:La.Rise) (ws:List Wr) (s:Int):(La.withW ws s).Rise:=by
 unfold Ch.withW
 induction ws generalizing La with
 | nil=>exact ha
 | cons x ws ih=>rw [List.foldl_cons]; exact ih (Ch.rise_put ha)
theorem withs (h:Sim La Lb F) (ha:La.Rise) (hb:Lb.Rise) (ws:List Wr) {s:Int} (hs:F<s):Sim (La.withW ws s) (Lb.withW ws s) F:=by
 unfold Ch.withW
 induction ws generalizing La Lb with
 | nil=>exact h
 | cons x ws ih=>rw [List.foldl_cons,List.foldl_cons]; exact ih (h.put ha hb hs) (Ch.rise_put ha) (Ch.rise_put hb)
theorem at_ (h:Sim La Lb F) (oa:OkL La q) {s:Int} (hs:F<=s) (k:ByteArray):atOk (La.of k) s=atOk (Lb.of k) s∧atL (La.of k) s=atL (Lb.of k) s:=by
 obtain ⟨f,hf,e⟩:=h k
 have:=sweep_at (rise_of_right (oa.of_right k)) (show f<=s by omega)
 rw [e]
 exact ⟨this.1.symm,this.2.symm⟩
theorem ents (h:Sim La Lb F) (oa:OkL La q) (ob:OkL Lb q') {s:Int} (hs:F<=s):La.ents s=Lb.ents s:=ents_eq oa.rise ob.rise s (h.at_ oa hs)
theorem live (h:Sim La Lb F) (oa:OkL La q) (ob:OkL Lb q) (hF:F<=q):La.live=Lb.live:=by
 rw [live_ents oa.le,live_ents ob.le,h.ents oa ob hF]
theorem since (h:Sim La Lb F) (oa:OkL La q) {s:Int} (hs:F<=s) (k:ByteArray):since La k s=since Lb k s:=by
 obtain ⟨f,hf,e⟩:=h k
 obtain ⟨l,hl⟩:=nmq (La.of k)
 have hr:=rise_of_right (oa.of_right k)
 unfold Go.Proofs.YtomjlopcifafpaaGreat.since
 rw [e]
 rw [<-hl] at hr ⊢
 have ho:oldL l f=(if cnt f l=0 then 0 else if (l.getD (cnt f l-1) Ver.Z).gone then cnt f l else cnt f l-1):=rfl
 have hc:=cnt_le f l
 have hle:=oldL_le l f
 by_cases z:oldL l f<l.length
 ·unfold sweepL
  rw [lastL_drop z,List.length_drop,decide_eq_true (show 0<l.length by omega),decide_eq_true (show 0<l.length-oldL l f by omega)]
 ·unfold sweepL
  rw [List.length_drop,decide_eq_false (show ¬ 0<l.length-oldL l f by omega),Bool.false_and]
  by_cases y:0<l.length
  ·have:=(cnt_iff (f:=f) hr (l.length-1) (by omega)).1 (by omega)
   rw [decide_eq_false (show ¬ s<(lastL l).seq by unfold lastL; omega),Bool.and_false]
  ·rw [decide_eq_false y,Bool.false_and]
end Sim
theorem swept_self {L:Ch} {f:Int} (h:∀ x,x ∈ L->x.2≠[]∧sweepL x.2 f=x.2):L.swept f=L:=by
 unfold Ch.swept
 induction L with
 | nil=>rfl
 | cons x L ih =>
  obtain ⟨h1,h2⟩:=h x (by simp)
  rw [List.map_cons,List.filter_cons,h2,if_pos (by
   cases e:x.2 with
   | nil=>exact absurd e h1
   | cons _ _=>rfl),ih fun y hy=>h y (List.mem_cons_of_mem _ hy)]
theorem swept_twice {L:Ch} {q:Int} (h:OkL L q) (f:Int):(L.swept f).swept f=L.swept f :=
 swept_self fun x hx=>by
  refine ⟨(h.swept f).ne x hx,?_⟩
  obtain ⟨y,hy,e⟩:=mem_swept hx
  rw [e]; exact sweep_again (rise_of_right (h.right _ hy)) f
theorem frm_find (L:Ch) (k:ByteArray) (ab:Bool) (s:Int):(L.ents s).find? (fun e=>ltB k e.key || (!ab && (e.key.toList == k.toList))) =
  if L.frm k ab s<L.length then some ⟨L.key (L.frm k ab s),(atL (L.chn (L.frm k ab s)) s).seq,(atL (L.chn (L.frm k ab s)) s).val⟩ else none:=by
 have mem:∀ i,i<=L.length->(∀ j,j<i->L.hit k ab s j=false)->∀ e,e ∈ Ch.ents (L.take i) s->(ltB k e.key || (!ab && (e.key.toList == k.toList)))=false:=fun i hi hn e he=>by
  unfold Ch.ents at he
  obtain ⟨⟨a,l⟩,hm,hx⟩:=List.mem_filterMap.1 he
  obtain ⟨j,hj,ej⟩:=List.mem_iff_getElem.1 hm
  rw [List.length_take] at hj
  rw [List.getElem_take,Ch.getE L (by omega)] at ej
  injection ej with e1 e2
  cases z:atOk l s with
  | false=>simp [z] at hx
  | true =>
   simp only [z,if_pos] at hx
   injection hx with hx
   have:=hn j (by omega)
   unfold Ch.hit at this
   rw [e2,z,Bool.true_and,e1] at this
   rw [<-hx]; exact this
 by_cases z:∃ i,i<L.length∧L.hit k ab s i=true
 ·obtain ⟨i,hi,h1,h2⟩:∃ i,i<L.length∧(∀ j,j<i->L.hit k ab s j=false)∧L.hit k ab s i=true:=by
   obtain ⟨i,hi,h2⟩:=z
   induction i using Nat.strongRecOn with
   | _ i ih =>
    by_cases y:∃ j,j<i∧L.hit k ab s j=true
    ·obtain ⟨j,hj,hh⟩:=y
     exact ih j hj (by omega) hh
    ·refine ⟨i,hi,fun j hj=>?_,h2⟩
     cases p:L.hit k ab s j with
     | false=>rfl
     | true=>exact absurd ⟨j,hj,p⟩ y
  have ef:L.frm k ab s=i:=find_at hi h1 h2
  rw [ef,if_pos hi]
  have h2':=h2
  unfold Ch.hit at h2'
  simp only [Bool.and_eq_true] at h2'
  have es:Ch.ents L s=Ch.ents (L.take i) s++(⟨L.key i,(atL (L.chn i) s).seq,(atL (L.chn i) s).val⟩ :: Ch.ents (L.drop (i+1)) s):=by
   have e:=ents_succ L s hi
   rw [if_pos h2'.1] at e
   have e2:Ch.ents L s=Ch.ents (L.take (i+1)) s++Ch.ents (L.drop (i+1)) s:=by
    unfold Ch.ents
    rw [<-List.filterMap_append,List.take_append_drop]
   rw [e2,e,List.append_assoc]; rfl
  rw [es,List.find?_append,List.find?_eq_none.2 (fun e he=>by rw [mem i (by omega) h1 e he]; simp),Option.none_or,List.find?_cons]
  have:(ltB k (L.key i) || (!ab && ((L.key i).toList == k.toList)))=true:=h2'.2
  rw [this]
 ·have hn:∀ j,j<L.length->L.hit k ab s j=false:=fun j hj=>by
   cases p:L.hit k ab s j with
   | false=>rfl
   | true=>exact absurd ⟨j,hj,p⟩ z
  have ef:L.frm k ab s=L.length:=find_none hn
  rw [ef,if_neg (by omega)]
  have:=mem L.length (Nat.le_refl _) hn
  rw [List.take_length] at this
  exact List.find?_eq_none.2 fun e he=>by rw [this e he]; simp
def aftV (L:Ch) (k:ByteArray) (ab:Bool) (s:Int):ByteArray × (Val × Bool) :=
 if L.frm k ab s<L.length then (L.key (L.frm k ab s),((atL (L.chn (L.frm k ab s)) s).val,true)) else (⟨#[]⟩,(Val.V0,false))
theorem aft_eq {La Lb:Ch} {s:Int} (h:La.ents s=Lb.ents s) (k:ByteArray) (ab:Bool):aftV La k ab s=aftV Lb k ab s:=by
 have a:=frm_find La k ab s
 have b:=frm_find Lb k ab s
 rw [h] at a
 rw [b] at a
 unfold aftV
 split at a
 ·rename_i z
  split at a
  ·rename_i y
   injection a with a
   injection a with a1 a2 a3
   rw [if_pos y,if_pos z,a1,a3]
  ·cases a
 ·rename_i z
  split at a
  ·cases a
  ·rename_i y
   rw [if_neg y,if_neg z]
theorem vers_le:∀ {La Lb:Ch},La.Rise->Lb.Rise->(∀ y,y ∈ Lb->∃ l,(y.1,l) ∈ La∧y.2.length<=l.length)->Lb.vers<=La.vers
 | _,[],_,_,_=>Nat.zero_le _
 | [],y :: Lb,_,_,h=>by
  obtain ⟨l,hl,_⟩:=h y (by simp)
  cases hl
 | x :: La,y :: Lb,ha,hb,h=>by
  obtain ⟨hx,pa⟩:=List.pairwise_cons.1 ha
  obtain ⟨hy,pb⟩:=List.pairwise_cons.1 hb
  obtain ⟨l,hl,hle⟩:=h y (by simp)
  have tl:∀ z,z ∈ Lb->∃ l,(z.1,l) ∈ La∧z.2.length<=l.length:=fun z hz=>by
   obtain ⟨l2,hl2,hle2⟩:=h z (List.mem_cons_of_mem _ hz)
   rcases List.mem_cons.1 hl2 with e | e
   ·have h1:=hy z hz
    have e1:z.1=x.1:=by rw [<-e]
    rcases List.mem_cons.1 hl with e2 | e2
    ·have e3:y.1=x.1:=by rw [<-e2]
     rw [e3,e1,ltB_irr] at h1; cases h1
    ·have h2:=hx _ e2
     have h2:ltB x.1 y.1=true:=h2
     rw [<-e1,ltB_asym h1] at h2; cases h2
   ·exact ⟨l2,e,hle2⟩
  rcases List.mem_cons.1 hl with e | e
  ·have:=vers_le (La:=La) (Lb:=Lb) pa pb tl
   have e2:l=x.2:=by rw [<-e]
   unfold Ch.vers at this ⊢
   rw [List.map_cons,List.sum_cons,List.map_cons,List.sum_cons]
   rw [e2] at hle
   omega
  ·have:=vers_le (La:=La) (Lb:=y :: Lb) pa hb (fun z hz=>by
    rcases List.mem_cons.1 hz with q | q
    ·rw [q]; exact ⟨l,e,hle⟩
    ·exact tl z q)
   unfold Ch.vers at this ⊢
   rw [List.map_cons (l:=La),List.sum_cons]
   omega
theorem Sim.vers {La Lb:Ch} {F q:Int} (h:Sim La Lb F) (oa:La.Rise) (ob:OkL Lb q):Lb.vers<=La.vers :=
 vers_le oa ob.rise fun y hy=>by
  obtain ⟨a,b⟩:=y
  obtain ⟨f,_,e⟩:=h a
  have eb:=Ch.of_mem ob.rise hy
  rw [eb] at e
  have hn:b≠[]:=ob.ne _ hy
  have hk:La.has a=true:=by
   cases p:La.has a with
   | true=>rfl
   | false=>rw [Ch.of_no p] at e; exact absurd (e.trans (by unfold sweepL; rw [List.drop_nil])) hn
  refine ⟨La.of a,Ch.mem_has hk,?_⟩
  show b.length<=_
  rw [e]; unfold sweepL; rw [List.length_drop]; omega

end Go.Proofs.YtomjlopcifafpaaGreat

namespace Go.Proofs.YtomjlopcifafpaaGreat
open Go.RowKit

def lateL (f:Int) (l:List Ver):Nat:=l.countP fun y=>decide (f<y.seq)
def late (f:Int) (L:Ch):Nat:=(L.map fun x=>lateL f x.2).sum
theorem sweep_len {l:List Ver} {f q:Int} (hr:RiseV l) (hq:∀ y,y ∈ l->y.seq<=q):(sweepL l f).length<=(if atOk l q=true then 1 else 0)+2 * lateL f l:=by
 have hc:=cnt_le f l
 have late_eq:lateL f l=l.length-cnt f l:=by
  have h1:lateL f (l.take (cnt f l))=0:=by
   unfold lateL
   rw [List.countP_eq_zero]
   intro y hy
   obtain ⟨i,hi,rfl⟩:=List.mem_iff_getElem.1 hy
   rw [List.length_take] at hi
   have:=(cnt_iff (f:=f) hr i (by omega)).1 (by omega)
   rw [List.getD_eq_getElem?_getD,List.getElem?_eq_getElem (by omega)] at this
   rw [List.getElem_take]
   simp only [decide_eq_true_eq]
   have t:l[i].seq<=f:=this
   omega
  have h2:lateL f (l.drop (cnt f l))=(l.drop (cnt f l)).length:=by
   unfold lateL
   rw [List.countP_eq_length]
   intro y hy
   obtain ⟨i,hi,rfl⟩:=List.mem_iff_getElem.1 hy
   rw [List.length_drop] at hi
   have:=cnt_iff (f:=f) hr (cnt f l+i) (by omega)
   rw [List.getD_eq_getElem?_getD,List.getElem?_eq_getElem (by omega)] at this
   rw [List.getElem_drop]
   simp only [decide_eq_true_eq]
   by_cases z:l[cnt f l+i].seq<=f
   ·have:=this.2 z; omega
   ·omega
  have e:lateL f l=lateL f (l.take (cnt f l))+lateL f (l.drop (cnt f l)):=by
   unfold lateL
   rw [<-List.countP_append,List.take_append_drop]
  rw [e,h1,h2,List.length_drop]; omega
 rw [late_eq]
 unfold sweepL
 rw [List.length_drop]
 have ho:oldL l f=(if cnt f l=0 then 0 else if (l.getD (cnt f l-1) Ver.Z).gone then cnt f l else cnt f l-1):=rfl
 by_cases z:cnt f l=0
 ·rw [if_pos z] at ho; omega
 ·rw [if_neg z] at ho
  cases g:(l.getD (cnt f l-1) Ver.Z).gone with
  | true=>rw [g,if_pos rfl] at ho; omega
  | false =>
   rw [g] at ho
   simp only [Bool.false_eq_true,if_false] at ho
   by_cases y:cnt f l=l.length
   ·have e:atOk l q=true:=by
     unfold atOk
     rw [cnt_all hq,decide_eq_true (by omega),Bool.true_and,<-y,g]; rfl
    rw [if_pos e]; omega
   ·omega
theorem vers_swept {f q:Int}:∀ {L:Ch},(∀ x,x ∈ L->RiseV x.2∧∀ y,y ∈ x.2->y.seq<=q)->(L.swept f).vers<=(L.ents q).length+2 * late f L
 | [],_=>Nat.zero_le _
 | x :: L,h=>by
  have ih:=vers_swept (f:=f) (L:=L) fun y hy=>h y (List.mem_cons_of_mem _ hy)
  obtain ⟨h1,h2⟩:=h x (by simp)
  have hl:=sweep_len (f:=f) h1 h2
  have el:(Ch.ents (x :: L) q).length=(if atOk x.2 q=true then 1 else 0)+(Ch.ents L q).length:=by
   unfold Ch.ents
   rw [List.filterMap_cons]
   cases z:atOk x.2 q with
   | false=>simp
   | true=>simp; omega
  have ev:(Ch.swept (x :: L) f).vers<=(sweepL x.2 f).length+(Ch.swept L f).vers:=by
   unfold Ch.swept Ch.vers
   rw [List.map_cons,List.filter_cons]
   split
   ·rw [List.map_cons,List.sum_cons]; exact Nat.le_refl _
   ·omega
  have et:late f (x :: L)=lateL f x.2+late f L:=by unfold late; rw [List.map_cons,List.sum_cons]
  rw [el,et]
  omega
theorem sum_take_drop {α:Type} (g:α->Nat) (l:List α) (i:Nat):(l.map g).sum=((l.take i).map g).sum+((l.drop i).map g).sum:=by
 rw [<-List.sum_append,<-List.map_append,List.take_append_drop]
theorem sum_put {L:Ch} {k:ByteArray} {v:Ver} (g:List Ver->Nat) (n:Nat) (h1:∀ l,g (l++[v])=g l+n) (h0:g [v]=n):((L.put k v).map fun x=>g x.2).sum=(L.map fun x=>g x.2).sum+n:=by
 cases q:L.has k with
 | true =>
  obtain ⟨p,e⟩:=(Ch.has_iff L k).1 q
  have ep:L.put k v=L.take (L.pos k)++(k,L.chn (L.pos k)++[v]) :: L.drop (L.pos k+1):=by
   unfold Ch.put
   rw [if_pos q,List.set_eq_take_append_cons_drop,if_pos p]
  have el:L=L.take (L.pos k)++(L.key (L.pos k),L.chn (L.pos k)) :: L.drop (L.pos k+1):=by
   rw [<-Ch.getE L p,List.getElem_cons_drop,List.take_append_drop]
  rw [ep]
  conv=>rhs; rw [el]
  rw [List.map_append,List.map_append,List.sum_append,List.sum_append,List.map_cons,List.map_cons,List.sum_cons,List.sum_cons]
  show _+(g (L.chn (L.pos k)++[v])+_)=_+(g (L.chn (L.pos k))+_)+n
  rw [h1]; omega
 | false =>
  have ep:L.put k v=L.take (L.pos k)++(k,[v]) :: L.drop (L.pos k):=by unfold Ch.put; rw [q]; rfl
  rw [ep,List.map_append,List.sum_append,List.map_cons,List.sum_cons,sum_take_drop (fun x:ByteArray × List Ver=>g x.2) L (L.pos k)]
  show _+(g [v]+_)=_
  rw [h0]; omega
theorem vers_put {L:Ch} {k:ByteArray} {v:Ver}:(L.put k v).vers=L.vers+1:=sum_put (fun l=>l.length) 1 (fun l=>by simp) rfl
theorem late_put {L:Ch} {k:ByteArray} {v:Ver} {f:Int} (h:f<v.seq):late f (L.put k v)=late f L+1 :=
 sum_put (lateL f) 1 (fun l=>by unfold lateL; rw [List.countP_append]; simp [h]) (by unfold lateL; simp [h])
theorem vers_with (L:Ch) (ws:List Wr) (s:Int):(L.withW ws s).vers=L.vers+ws.length:=by
 unfold Ch.withW
 induction ws generalizing L with
 | nil=>rfl
 | cons x ws ih=>rw [List.foldl_cons,ih,vers_put,List.length_cons]; omega
theorem late_with (L:Ch) (ws:List Wr) {s f:Int} (h:f<s):late f (L.withW ws s)=late f L+ws.length:=by
 unfold Ch.withW
 induction ws generalizing L with
 | nil=>rfl
 | cons x ws ih=>rw [List.foldl_cons,ih,late_put h,List.length_cons]; omega
theorem late_swept (L:Ch) (f g:Int):late f (L.swept g)<=late f L:=by
 unfold late Ch.swept
 induction L with
 | nil=>exact Nat.le_refl _
 | cons x L ih =>
  rw [List.map_cons,List.filter_cons]
  have e1:lateL f (sweepL x.2 g)<=lateL f x.2:=(List.drop_sublist _ _).countP_le
  split
  ·rw [List.map_cons,List.sum_cons,List.map_cons,List.sum_cons]; exact Nat.add_le_add e1 ih
  ·rw [List.map_cons,List.sum_cons]; exact Nat.le_trans ih (Nat.le_add_left _ _)

theorem load_vers (l:List En):(loadL l).vers=l.length:=by
 unfold Ch.vers loadL
 rw [List.map_map]
 induction l with
 | nil=>rfl
 | cons x l ih=>rw [List.map_cons,List.sum_cons,ih,List.length_cons]; show 1+_=_; omega

end Go.Proofs.YtomjlopcifafpaaGreat

namespace Go.Proofs.YtomjlopcifafpaaGreat
open Go.RowKit

structure Rm where
 zs:List Int
 quota:Int
 most:Int
 r:Rg
 L:Ch
namespace Rm
structure Ok (m:Rm):Prop where
 st:stOk m.zs m.r.size m.quota m.most=true
 r:m.r.Ok
 L:OkL m.L (m.r.seq:Int)
 seq:(m.r.seq:Int)<=m.most
 live:(m.L.live:Int)<=m.quota
def Few (m:Rm):Prop:=Bnd m.L 3900 500∧m.r.l.length<=500
def floor (m:Rm):Int:=(m.r.floor:Int)
def seq (m:Rm):Int:=(m.r.seq:Int)
def chk (m:Rm) (ws:List Wr) (s:Int):Int:=chkE m.r m.L ws s m.quota m.most
def comE (m:Rm) (ws:List Wr) (x:Int):Int:=Go.Proofs.YtomjlopcifafpaaGreat.comE m.r m.L ws x m.quota m.most
def comN (m:Rm) (ws:List Wr) (x:Int):Int:=Go.Proofs.YtomjlopcifafpaaGreat.comN m.r m.L ws x m.quota m.most
def com (m:Rm) (ws:List Wr) (x:Int):Rm:=⟨m.zs,m.quota,m.most,comR m.r m.L ws x m.quota m.most,comL m.r m.L ws x m.quota m.most⟩
def sw (m:Rm):Rm:=⟨m.zs,m.quota,m.most,m.r,m.L.swept m.floor⟩
def gone (m:Rm):Int:=(m.L.vers:Int)-((m.L.swept m.floor).vers:Int)
def ents (m:Rm):List En:=m.L.ents m.seq
def new (zs:List Int) (g1 g2 g3 sq:Int) (L:Ch):Rm:=⟨zs,g2,g3,⟨g1.toNat,sq.toNat,[]⟩,L⟩
end Rm
abbrev RelM:=World->Nat->(Nat->Prop)->Rm->Prop
def LeftM (R:RelM) (b:Nat) (F:Nat->Prop) (w:World) (m:Rm) (w':World):Prop:=Chg F w w'∧∃ F',R w' b F' m∧∀ k,F' k->F k∨w.heap.size<=k
abbrev PtrM (b:Nat):Value:=.pointer (some ⟨b,0,none⟩)
def GoodW (w:World) (F:Nat->Prop) (A:Option Addr) (ws:List Wr):Prop:=SlWr w A ws∧FitsW ws∧ws.length<=1000∧(0<ws.length->∀ a,A=some a->¬ F a.block)∧∀ x,x ∈ ws->x.key.size<=1000∧x.val.txt.size<=1000
structure RoomLo (R:RelM):Prop where
 keep:∀ {w w':World} {b:Nat} {F:Nat->Prop} {m:Rm},R w b F m->(∀ k,F k->w'.heap[k]?=w.heap[k]?)->w.heap.size<=w'.heap.size->R w' b F m
 lt:∀ {w:World} {b:Nat} {F:Nat->Prop} {m:Rm} {k:Nat},R w b F m->F k->k<w.heap.size
 ok:∀ {w:World} {b:Nat} {F:Nat->Prop} {m:Rm},R w b F m->m.Ok
 new:∀ (A:Option Addr) (c:Nat) (zs:List Int) (g1 g2 g3:Int) (w:World),Sl w A zs->zs.length<=1000->La.U64 zs →
  Calls Tryz.prog 8 #[.agg #[.slice A zs.length c,.int .i64 g1,.int .i64 g2,.int .i64 g3]] w fun e w'=>Below w.heap.size w w' ∧
   ((stOk zs g1 g2 g3=true∧∃ b F,e=.returned (.tuple #[PtrM b,.int .i64 0])∧R w' b F (Rm.new zs g1 g2 g3 0 [])∧∀ k,F k->w.heap.size<=k) ∨
    (stOk zs g1 g2 g3=false∧e=.returned (.tuple #[.pointer none,.int .i64 1])))
 load:∀ (A:Option Addr) (c:Nat) (zs:List Int) (g1 g2 g3 sq:Int) (l:List En) (A2:Option Addr) (c2:Nat) (w:World),Sl w A zs->zs.length<=1000->La.U64 zs->SlEn w A2 l->FitsE l->l.length<=3900 →
  Calls Tryz.prog 43 #[.agg #[.slice A zs.length c,.int .i64 g1,.int .i64 g2,.int .i64 g3],.int .i64 sq,.slice A2 l.length c2] w fun e w'=>Below w.heap.size w w' ∧
   ((ldE zs g1 g2 g3 sq l≠0∧e=.returned (.tuple #[.pointer none,.int .i64 (ldE zs g1 g2 g3 sq l)])) ∨
    (ldE zs g1 g2 g3 sq l=0∧∃ b F,e=.returned (.tuple #[PtrM b,.int .i64 0])∧R w' b F (Rm.new zs g1 g2 g3 sq (loadL l))∧∀ k,F k->w.heap.size<=k))
 seq:∀ (b:Nat) (F:Nat->Prop) (m:Rm) (w:World),R w b F m->Calls Tryz.prog 13 #[PtrM b] w fun e w'=>e=.returned (.int .i64 m.seq)∧LeftM R b F w m w'
 floor:∀ (b:Nat) (F:Nat->Prop) (m:Rm) (w:World),R w b F m->Calls Tryz.prog 15 #[PtrM b] w fun e w'=>e=.returned (.int .i64 m.floor)∧LeftM R b F w m w'
 get:∀ (b:Nat) (F:Nat->Prop) (m:Rm) (k:ByteArray) (s:Int) (w:World),R w b F m->m.Few->k.size<=1000 →
  Calls Tryz.prog 16 #[PtrM b,.string k,.int .i64 s] w fun e w'=>e=.returned (.tuple #[(atL (m.L.of k) s).val.v,.bool (atOk (m.L.of k) s)])∧LeftM R b F w m w'
 check:∀ (b:Nat) (F:Nat->Prop) (m:Rm) (ws:List Wr) (A:Option Addr) (c:Nat) (s:Int) (w:World),R w b F m->m.Few->GoodW w F A ws →
  Calls Tryz.prog 18 #[PtrM b,.slice A ws.length c,.int .i64 s] w fun e w'=>e=.returned (.int .i64 (m.chk ws s))∧LeftM R b F w m w'
 commit:∀ (b:Nat) (F:Nat->Prop) (m:Rm) (ws:List Wr) (A:Option Addr) (c:Nat) (x:Int) (w:World),R w b F m->m.Few->GoodW w F A ws->0<=x->x<=18446744073709551615 →
  Calls Tryz.prog 12 #[PtrM b,.slice A ws.length c,.int .u64 x] w fun e w'=>e=.returned (.tuple #[.int .i64 (m.comN ws x),.int .i64 (m.comE ws x)])∧LeftM R b F w (m.com ws x) w'
 sweep:∀ (b:Nat) (F:Nat->Prop) (m:Rm) (w:World),R w b F m->m.Few->Calls Tryz.prog 14 #[PtrM b] w fun e w'=>e=.returned (.int .i64 m.gone)∧LeftM R b F w m.sw w'
 live:∀ (b:Nat) (F:Nat->Prop) (m:Rm) (w:World),R w b F m->m.Few->Calls Tryz.prog 19 #[PtrM b] w fun e w'=>e=.returned (.int .i64 (m.L.live:Nat))∧LeftM R b F w m w'
 keys:∀ (b:Nat) (F:Nat->Prop) (m:Rm) (w:World),R w b F m->m.Few->Calls Tryz.prog 20 #[PtrM b] w fun e w'=>e=.returned (.int .i64 (m.ents.length:Nat))∧LeftM R b F w m w'
 vers:∀ (b:Nat) (F:Nat->Prop) (m:Rm) (w:World),R w b F m->m.Few->Calls Tryz.prog 21 #[PtrM b] w fun e w'=>e=.returned (.int .i64 (m.L.vers:Nat))∧LeftM R b F w m w'
 entries:∀ (b:Nat) (F:Nat->Prop) (m:Rm) (w:World),R w b F m->m.Few →
  Calls Tryz.prog 23 #[PtrM b] w fun e w'=>(∃ A c,e=.returned (.slice A m.ents.length c)∧SlEn w' A m.ents∧(0<m.ents.length->∃ g o,A=some ⟨g,o,none⟩∧w.heap.size<=g))∧Below w.heap.size w w'
structure RoomSw (R:RelM):Prop extends RoomLo R where
 after:∀ (b:Nat) (F:Nat->Prop) (m:Rm) (k:ByteArray) (s:Int) (w:World),R w b F m->m.Few->k.size<=1000 →
  Calls Tryz.prog 17 #[PtrM b,.string k,.int .i64 s] w fun e w'=>e=.returned (.tuple #[.string (aftV m.L k true s).1,(aftV m.L k true s).2.1.v,.bool (aftV m.L k true s).2.2])∧LeftM R b F w m w'
def obP {R:RelM} (X:RoomLo R) (b:Nat) (m:Rm):Ob:=⟨fun w F=>R w b F m,fun h hk hs=>X.keep h hk hs,fun h e=>X.lt h e⟩
def RefM (w:World) (p:Nat) (F:Nat->Prop) (m:Rm):Prop :=
 ∃ q v lb G A c,(∀ k,F k↔(k=p∨rfoot q v k∨G k))∧RoomG w p q v lb m.quota m.most m.r G A c m.L∧SepR p q v G
theorem RefM.keep {w w':World} {p:Nat} {F:Nat->Prop} {m:Rm} (h:RefM w p F m) (hk:∀ k,F k->w'.heap[k]?=w.heap[k]?) (hs:w.heap.size<=w'.heap.size):RefM w' p F m:=by
 obtain ⟨q,v,lb,G,A,c,hF,hr,sp⟩:=h
 exact ⟨q,v,lb,G,A,c,hF,⟨(hk p ((hF p).2 (.inl rfl))).trans hr.row,hr.ring.keep fun k e=>hk k ((hF k).2 (.inr (.inl e))),hr.sl.keep (fun k e=>hk k ((hF k).2 (.inr (.inr e)))) hs,fun x e=>Nat.lt_of_lt_of_le (hr.lt x e) hs⟩,sp⟩
theorem RefM.lt {w:World} {p:Nat} {F:Nat->Prop} {m:Rm} {k:Nat} (h:RefM w p F m) (e:F k):k<w.heap.size:=by
 obtain ⟨q,v,lb,G,A,c,hF,hr,sp⟩:=h
 rcases (hF k).1 e with e | e | e
 ·rw [e]; exact hr.row.lt
 ·exact hr.ring.lt k e
 ·exact hr.lt k e
def obM (p:Nat) (m:Rm):Ob:=⟨fun w F=>RefM w p F m,fun h hk hs=>h.keep hk hs,fun h e=>h.lt e⟩
theorem LeftR1.leftM {w w':World} {p q:Nat} {v lb:Value} {m:Rm} {G:Nat->Prop} {r:Rg} {L:Ch} {F:Nat->Prop} (hF:∀ k,F k↔(k=p∨rfoot q v k∨G k)) (h:LeftR1 w p q v lb m.quota m.most G r L w') :
  LeftM RefM p F w ⟨m.zs,m.quota,m.most,r,L⟩ w':=by
 obtain ⟨c,v',G',A',c',hr,sp,h1,h2⟩:=h
 refine ⟨c.mono fun k e=>(hF k).2 (e.imp id fun e=>.inl e),fun k=>k=p∨rfoot q v' k∨G' k,⟨q,v',lb,G',A',c',fun k=>Iff.rfl,hr,sp⟩,fun k e=>?_⟩
 rcases e with e | e | e
 ·exact .inl ((hF k).2 (.inl e))
 ·rcases h1 k e with z | z
  ·exact .inl ((hF k).2 (.inr (.inl z)))
  ·exact .inr z
 ·rcases h2 k e with z | z
  ·exact .inl ((hF k).2 (.inr (.inr z)))
  ·exact .inr z
theorem RefM.same {w w':World} {p:Nat} {F:Nat->Prop} {m:Rm} (h:RefM w p F m) (hb:Below w.heap.size w w'):LeftM RefM p F w m w' :=
 ⟨Chg.of_below hb,F,h.keep (fun k e=>hb.block k (h.lt e)) hb.size,fun _ e=>.inl e⟩

end Go.Proofs.YtomjlopcifafpaaGreat

namespace Go.Proofs.YtomjlopcifafpaaGreat
open Go.RowKit

theorem bool_yes {b:Bool} (h:¬ b=false):b=true:=by cases b<;>simp at h ⊢
namespace Rm
variable {m:Rm} {ws:List Wr} {x:Int} {K N:Nat}
theorem st_parts {zs:List Int} {g1 g2 g3:Int} (h:stOk zs g1 g2 g3=true):1<=g1∧g1<=16∧0<=g2∧1<=g3∧g3<=1073741824:=by
 unfold stOk at h
 simp only [Bool.and_eq_true,decide_eq_true_eq] at h
 omega
theorem new_r {g1 sq:Int} (h1:1<=g1) (h2:g1<=16) (h3:0<=sq) (h4:sq<=1073741824):Rg.Ok ⟨g1.toNat,sq.toNat,[]⟩ :=
 ⟨by show 1<=g1.toNat; omega,by show g1.toNat<=16; omega,by show sq.toNat+0<=_; omega,fun i j _ hj=>(by cases hj),fun i hi=>(by cases hi)⟩
theorem ok_new {zs:List Int} {g1 g2 g3:Int} (h:stOk zs g1 g2 g3=true):(Rm.new zs g1 g2 g3 0 []).Ok:=by
 obtain ⟨h1,h2,h3,h4,h5⟩:=st_parts h
 refine ⟨?_,new_r h1 h2 (Int.le_refl _) (by decide),OkL.nil _,?_,?_⟩
 ·show stOk zs ((g1.toNat:Nat):Int) g2 g3=true
  rw [Int.toNat_of_nonneg (by omega)]; exact h
 ·show ((0:Nat):Int)<=g3; omega
 ·show ((0:Nat):Int)<=g2; omega
theorem few_new (zs:List Int) (g1 g2 g3:Int):Bnd (Rm.new zs g1 g2 g3 0 []).L 0 0:=⟨Nat.le_refl _,fun _=>Nat.le_refl _⟩
theorem ld_parts {zs:List Int} {g1 g2 g3 sq:Int} {l:List En} (h:ldE zs g1 g2 g3 sq l=0):stOk zs g1 g2 g3=true∧0<=sq∧sq<=g3∧mayE l sq=true∧((loadL l).live:Int)<=g2:=by
 unfold ldE at h
 split at h
 ·cases h
 ·rename_i z
  split at h
  ·cases h
  ·rename_i y
   split at h
   ·cases h
   ·rename_i u
    have z:=bool_yes z
    simp only [Bool.and_eq_true,decide_eq_true_eq] at z
    exact ⟨z.1,z.2.1,z.2.2,bool_yes y,by omega⟩
theorem ok_load {zs:List Int} {g1 g2 g3 sq:Int} {l:List En} (h:ldE zs g1 g2 g3 sq l=0) (hf:FitsE l):(Rm.new zs g1 g2 g3 sq (loadL l)).Ok∧Bnd (loadL l) l.length 1:=by
 obtain ⟨h0,q0,q1,hm,hl⟩:=ld_parts h
 obtain ⟨h1,h2,h3,h4,h5⟩:=st_parts h0
 obtain ⟨o,b⟩:=OkL.load hm hf (by omega)
 refine ⟨⟨?_,new_r h1 h2 q0 (by omega),?_,?_,hl⟩,b⟩
 ·show stOk zs ((g1.toNat:Nat):Int) g2 g3=true
  rw [Int.toNat_of_nonneg (by omega)]; exact h0
 ·show OkL (loadL l) (((sq.toNat+0:Nat)):Int)
  rw [show (((sq.toNat+0:Nat)):Int)=sq by omega]; exact o
 ·show (((sq.toNat+0:Nat)):Int)<=g3; omega
theorem com_yes (h:m.comE ws x=0):mayW ws=true∧(m.r.seq:Int)<m.most∧((m.L.withW ws ((m.r.seq:Int)+1)).live:Int)<=m.quota∧m.r.no x=0 ∧
  m.com ws x=⟨m.zs,m.quota,m.most,m.r.push x,m.L.withW ws ((m.r.seq:Int)+1)⟩∧m.comN ws x=(m.r.seq:Int)+1:=by
 have e:=h
 unfold Rm.comE at e
 have ec:m.com ws x=⟨m.zs,m.quota,m.most,m.r.push x,m.L.withW ws ((m.r.seq:Int)+1)⟩:=by unfold Rm.com comR comL; rw [if_pos e,if_pos e]
 have en:m.comN ws x=(m.r.seq:Int)+1:=by unfold Rm.comN Go.Proofs.YtomjlopcifafpaaGreat.comN; rw [if_pos e]
 unfold Go.Proofs.YtomjlopcifafpaaGreat.comE at e
 split at e
 ·cases e
 ·rename_i z
  split at e
  ·rename_i y; exact absurd e y
  ·rename_i y
   have y:spcE m.r m.L ws m.quota m.most=0:=Classical.byContradiction y
   unfold spcE at y
   split at y
   ·cases y
   ·rename_i u
    split at y
    ·cases y
    ·rename_i t
     exact ⟨bool_yes z,by omega,by omega,e,ec,en⟩
theorem com_no (h:m.comE ws x≠0):m.com ws x=m∧m.comN ws x=0:=by
 unfold Rm.comE at h
 constructor
 ·unfold Rm.com comR comL; rw [if_neg h,if_neg h]
 ·unfold Rm.comN Go.Proofs.YtomjlopcifafpaaGreat.comN; rw [if_neg h]
theorem push_seq {r:Rg} (h:r.no x=0):(r.push x).seq=r.seq+1:=by
 unfold Rg.push
 rw [if_pos h]
 show r.beg+(r.l++[x]).length=r.beg+r.l.length+1
 rw [List.length_append,List.length_singleton]; omega
theorem ok_com (h:m.Ok) (hb:Bnd m.L K N) (hf:FitsW ws):(m.com ws x).Ok∧Bnd (m.com ws x).L (K+16) (N+1)∧(m.com ws x).r.l.length<=m.r.l.length+1:=by
 by_cases e:m.comE ws x=0
 ·obtain ⟨h1,h2,h3,h4,h5,_⟩:=com_yes e
  have sq:=h.r.sq
  have st:=st_parts h.st
  obtain ⟨o,b⟩:=OkL.with (ws:=ws) h.L hb (by omega) (by omega) h1 hf
  rw [h5]
  refine ⟨⟨?_,Rg.push_ok h.r x,?_,?_,h3⟩,b,Rg.push_len m.r x⟩
  ·show stOk m.zs ((m.r.push x).size:Int) m.quota m.most=true
   rw [Rg.push_size]; exact h.st
  ·show OkL _ (((m.r.push x).seq:Nat):Int)
   rw [push_seq h4]; exact o
  ·show (((m.r.push x).seq:Nat):Int)<=m.most
   rw [push_seq h4]; omega
 ·rw [(com_no e).1]
  exact ⟨h,hb.mono (by omega) (by omega),by omega⟩
theorem floor_seq (h:m.r.Ok):m.floor<=m.seq:=by
 have:=h.s1
 unfold Rm.floor Rm.seq Rg.floor Rg.seq
 omega
theorem sw_live (h:m.Ok):m.sw.L.live=m.L.live:=by
 show (m.L.swept m.floor).live=_
 have hs:Sim m.L (m.L.swept m.floor) m.floor:=fun k=>⟨m.floor,Int.le_refl _,Ch.of_swept h.L.rise m.floor⟩
 exact (hs.live h.L (h.L.swept m.floor) (floor_seq h.r)).symm
theorem ok_sw (h:m.Ok) (hb:Bnd m.L K N):m.sw.Ok∧Bnd m.sw.L K N :=
 ⟨⟨h.st,h.r,h.L.swept m.floor,h.seq,by rw [sw_live h]; exact h.live⟩,hb.swept h.L.rise m.floor⟩
theorem good (h:m.Ok) (hb:m.Few):GoodC m.L:=h.L.good hb.1 (by decide) (by decide)
theorem goods (h:m.Ok) (hb:m.Few) (hf:FitsW ws):mayW ws=true->(m.r.seq:Int)<m.most->∀ i,i<=ws.length->GoodC (m.L.withW (ws.take i) ((m.r.seq:Int)+1))∧(m.L.withW (ws.take i) ((m.r.seq:Int)+1)).length<=10000:=fun hm hs=>by
 have st:=st_parts h.st
 exact h.L.goods hb.1 (by omega) (by omega) hm hf (by decide) (by decide)
end Rm

section
variable {w0 w:World} {N:Nat->Prop} {os:List Ob} {i:Nat} {p:Nat} {m:Rm} {T:Ending->World->Prop}
theorem mCheck (h:Side w0 N w os) (hi:os[i]?=some (obM p m)) (ok:m.Ok) (hb:m.Few) (ws:List Wr) (A:Option Addr) (c:Nat) (s:Int) (hw:SlWr w A ws) (hf:FitsW ws) (hl:ws.length<=1000) :
  Calls Tryz.prog 46 #[PtrM p,.slice A ws.length c,.int .i64 s] w fun e w'=>e=.returned (.int .i64 (m.chk ws s))∧Side w0 N w' os:=by
 obtain ⟨F,q,v,lb,G,A',c',hF,hr,sp⟩:=h.get hi
 exact (rCheck1 p q v lb _ _ m.r G A' c' m.L A c ws s w hr ok.r hw hf (Rm.good ok hb) hl (Rm.goods ok hb hf)).mono fun e w' ⟨he,hw⟩=>⟨he,h.below hw⟩
theorem mCommit (h:Side w0 N w os) (hi:os[i]?=some (obM p m)) (ok:m.Ok) (hb:m.Few) (ws:List Wr) (A:Option Addr) (c:Nat) (x:Int) (hw:SlWr w A ws) (hf:FitsW ws) (hl:ws.length<=1000) (hA:0<ws.length->∀ a,A=some a->N a.block) :
  Calls Tryz.prog 44 #[PtrM p,.slice A ws.length c,.int .u64 x] w fun e w'=>e=.returned (.tuple #[.int .i64 (m.comN ws x),.int .i64 (m.comE ws x)])∧Side w0 N w' (os.set i (obM p (m.com ws x))) :=
 h.call hi fun F hP hn=>by
  obtain ⟨q,v,lb,G,A',c',hF,hr,sp⟩:=hP
  exact (rCommit1 p q v lb _ _ m.r G A' c' m.L A c ws x w hr sp ok.r (by have:=hb.2; omega) hw (fun hp a e f=>hn _ ((hF _).2 (.inr (.inl f))) (hA hp a e)) hf hl (Rm.goods ok hb hf)).mono fun e w' ⟨he,hl⟩=>⟨he,LeftR1.leftM hF hl⟩
theorem mSweep (h:Side w0 N w os) (hi:os[i]?=some (obM p m)) (ok:m.Ok) (hb:m.Few) (hv:m.L.vers<=1000000) :
  Calls Tryz.prog 45 #[PtrM p] w fun e w'=>e=.returned (.int .i64 m.gone)∧Side w0 N w' (os.set i (obM p m.sw)) :=
 h.call hi fun F hP hn=>by
  obtain ⟨q,v,lb,G,A',c',hF,hr,sp⟩:=hP
  exact (rSweep1 p q v lb _ _ m.r G A' c' m.L w hr sp ok.r (Rm.good ok hb) hv (Nat.le_trans hb.1.1 (by decide))).mono fun e w' ⟨he,hl⟩=>⟨he,LeftR1.leftM hF hl⟩
theorem pCall {R:RelM} (X:RoomLo R) {f:FuncId} {args:Array Value} {b:Nat} {m':Rm} (h:Side w0 N w os) (hi:os[i]?=some (obP X b m))
  (hc:∀ F,R w b F m->(∀ k,F k->¬ N k)->Calls Tryz.prog f args w fun e w'=>T e w'∧LeftM R b F w m' w'):Calls Tryz.prog f args w fun e w'=>T e w'∧Side w0 N w' (os.set i (obP X b m')) :=
 h.call hi fun F hP hn=>(hc F hP hn).mono fun _ _ ⟨t,c,F',hr,hk⟩=>⟨t,c,F',hr,hk⟩
theorem pAsk {R:RelM} (X:RoomLo R) {f:FuncId} {args:Array Value} {b:Nat} (h:Side w0 N w os) (hi:os[i]?=some (obP X b m))
  (hc:∀ F,R w b F m->(∀ k,F k->¬ N k)->Calls Tryz.prog f args w fun e w'=>T e w'∧LeftM R b F w m w'):Calls Tryz.prog f args w fun e w'=>T e w'∧Side w0 N w' os:=by
 have:=pCall X h hi hc
 rwa [set_same hi] at this
theorem pOk {R:RelM} (X:RoomLo R) {b:Nat} (h:Side w0 N w os) (hi:os[i]?=some (obP X b m)):m.Ok:=by
 obtain ⟨F,hP⟩:=h.get hi
 exact X.ok hP
end

end Go.Proofs.YtomjlopcifafpaaGreat

namespace Go.Proofs.YtomjlopcifafpaaGreat
open Go.RowKit

theorem neq_selfV (x:Val) (w:World):(binOp .neq 45 x.v x.v).run Tryz.prog w=.ok (.bool false) w:=by
 unfold Val.v
 rw [run_neq_struct,eqIn_val 9998]
 simp
section
variable {w0 w w':World} {N:Nat->Prop} {os os2:List Ob} {i:Nat} {p:Nat} {m:Rm}
end

end Go.Proofs.YtomjlopcifafpaaGreat

namespace Go.Proofs.YtomjlopcifafpaaGreat
open Go.RowKit

structure Ac where
 kind:Int
 ws:List Wr
 by_:Int
 seq:Int
 key:ByteArray
def stepM (m:Rm) (a:Ac) (x:Int):Rm:=if a.kind=1 then m.com a.ws (x+a.by_) else if a.kind=2 then m.sw else m
def stepX (m:Rm) (a:Ac) (x:Int):Int:=if a.kind=1 then (if m.comE a.ws (x+a.by_)=0 then x+a.by_ else x) else x

theorem set_back {os:List Ob} {r A B C:Ob} {i j l:Nat} (hi:i<os.length) (hj:j<os.length) (hl:l<os.length):(((os++[r]).set i A).set j B).set l C=(((os.set i A).set j B).set l C)++[r]:=by
 rw [List.set_append_left _ _ hi,List.set_append_left _ _ (by rw [List.length_set]; exact hj),List.set_append_left _ _ (by rw [List.length_set,List.length_set]; exact hl)]
theorem set_get {os:List Ob} {o u:Ob} {i j:Nat} (h:os[j]?=some o) (ij:i≠j):(os.set i u)[j]?=some o:=by rw [List.getElem?_set_ne ij]; exact h
theorem stepM_1 (m:Rm) (a:Ac) (x:Int) (h:a.kind=1):stepM m a x=m.com a.ws (x+a.by_):=by unfold stepM; rw [if_pos h]
theorem stepM_2 (m:Rm) (a:Ac) (x:Int) (h:a.kind=2):stepM m a x=m.sw:=by unfold stepM; rw [if_neg (by omega),if_pos h]
theorem stepM_0 (m:Rm) (a:Ac) (x:Int) (h:a.kind≠1) (h2:a.kind≠2):stepM m a x=m:=by unfold stepM; rw [if_neg h,if_neg h2]
theorem stepX_0 (m:Rm) (a:Ac) (x:Int) (h:a.kind≠1):stepX m a x=x:=by unfold stepX; rw [if_neg h]

theorem lDoes {R:RelM} (X:RoomLo R) {w0 w:World} {N:Nat->Prop} {os:List Ob} {i j l b p g:Nat} {m:Rm} {x:Int} (h:Side w0 N w os) (hi:os[i]?=some (obP X b m)) (hj:os[j]?=some (obM p m)) (hl:os[l]?=some (Ob.row g [.int .u64 x] 34))
  (ij:i≠j) (il:i≠l) (jl:j≠l) (hb:m.Few) (hv:m.L.vers<=1000000) (a:Ac) (A:Option Addr) (c:Nat) (hN:∀ k,k<w0.heap.size->N k)
  (hw:SlWr w0 A a.ws) (hf:FitsW a.ws) (hn:a.ws.length<=1000) (hk:∀ y,y ∈ a.ws->y.key.size<=1000∧y.val.txt.size<=1000) (hA:0<a.ws.length->∀ q,A=some q->q.block<w0.heap.size) (x0:0<=x) (y0:0<=a.by_) (y1:a.by_<=255) (x1:x<=1000000) :
  Calls Tryz.prog 11 #[PtrM b,PtrM p,.agg #[.int .i64 a.kind,.slice A a.ws.length c,.int .u8 a.by_,.int .i64 a.seq,.string a.key],.pointer (some ⟨g,0,none⟩)] w fun e w'=>e=.returned (.bool true) ∧
   Side w0 N w' (((os.set i (obP X b (stepM m a x))).set j (obM p (stepM m a x))).set l (Ob.row g [.int .u64 (stepX m a x)] 34)):=by
 have ok:=pOk X h hi
 have li:=(List.getElem?_eq_some_iff.1 hi).1
 have lj:=(List.getElem?_eq_some_iff.1 hj).1
 have ll:=(List.getElem?_eq_some_iff.1 hl).1
 have SW:=qh (fun W os' (h:Side w0 N W os')=>show SlWr W A a.ws from hw.below (h.base (Nat.le_refl _) hN))
 have NA:=qh (fun hp q (e:A=some q)=>hN q.block (hA hp q e))
 have GW:=qh (fun W os' (h:Side w0 N W os') F (hn':∀ k,F k->¬ N k)=>show GoodW W F A a.ws from ⟨SW.out W os' h,hf,hn,fun hp q e f=>hn' _ f (NA.out hp q e),hk⟩)
 obtain ⟨B,hB⟩:=nmq (w.heap.size)
 have h0:=h.rowNew [.int .i64 a.kind,.slice A a.ws.length c,.int .u8 a.by_,.int .i64 a.seq,.string a.key] 37
 rw [<-hB] at h0
 obtain ⟨os1,ho1⟩:=nmq (os++[Ob.row B [.int .i64 a.kind,.slice A a.ws.length c,.int .u8 a.by_,.int .i64 a.seq,.string a.key] 37])
 rw [<-ho1] at h0
 have I1:=qh (show os1[i]?=some (obP X b m) from by rw [ho1]; exact Side.idx hi)
 have J1:=qh (show os1[j]?=some (obM p m) from by rw [ho1]; exact Side.idx hj)
 have L1:=qh (show os1[l]?=some (Ob.row g [.int .u64 x] 34) from by rw [ho1]; exact Side.idx hl)
 have R1:=qh (show os1[os.length]?=some (Ob.row B [.int .i64 a.kind,.slice A a.ws.length c,.int .u8 a.by_,.int .i64 a.seq,.string a.key] 37) from by rw [ho1]; exact Side.last)
 have BK:=qh (fun W A B C (h:Side w0 N W (((os1.set i A).set j B).set l C))=>show Side w0 N W (((os.set i A).set j B).set l C) from by
  rw [ho1,set_back li lj ll] at h
  exact h.drop)
 have KC:=qh (fun W s (h:Side w0 N W os1) (s0:0<=s) (s1:s<=18446744073709551615)=>pCall X (T:=fun e _=>e=.returned (.tuple #[.int .i64 (m.comN a.ws s),.int .i64 (m.comE a.ws s)])) h I1.out fun F hP hn'=>X.commit b F m a.ws A c s W hP hb (GW.out W os1 h F hn') s0 s1)
 have KM:=qh (fun W s o (h:Side w0 N W (os1.set i o))=>mCommit h (set_get J1.out ij) ok hb a.ws A c s (SW.out W _ h) hf hn NA.out)
 have KS:=qh (fun W (h:Side w0 N W os1)=>pCall X (T:=fun e _=>e=.returned (.int .i64 m.gone)) (m':=m.sw) h I1.out fun F hP _=>X.sweep b F m W hP hb)
 have KT:=qh (fun W o (h:Side w0 N W (os1.set i o))=>mSweep h (set_get J1.out ij) ok hb hv)
 have KK:=qh (fun W (h:Side w0 N W os1)=>pAsk X (T:=fun e _=>e=.returned (.int .i64 (m.chk a.ws a.seq))) h I1.out fun F hP hn'=>X.check b F m a.ws A c a.seq W hP hb (GW.out W os1 h F hn'))
 have KL:=qh (fun W (h:Side w0 N W os1)=>mCheck h J1.out ok hb a.ws A c a.seq (SW.out W _ h) hf hn)
 have SM:=qh (fun W (h:Side w0 N W os1)=>show Side w0 N W (((os1.set i (obP X b m)).set j (obM p m)).set l (Ob.row g [.int .u64 x] 34)) from by
  rw [set_same I1.out,set_same J1.out,set_same L1.out]; exact h)
 have S2:=qh (fun W A B (h:Side w0 N W ((os1.set i A).set j B))=>show Side w0 N W (((os1.set i A).set j B).set l (Ob.row g [.int .u64 x] 34)) from by
  rw [set_same (set_get (set_get L1.out il) jl)]; exact h)
 have S3:=qh (fun W A B W' s (h:Side w0 N W ((os1.set i A).set j B)) (hc:Chg (fun k=>k=g) W W') (hr:RowAt W' g [.int .u64 s] 34)=>h.rowSet (set_get (set_get L1.out il) jl) hc hr)
 have RG:=qh (fun W A B (h:Side w0 N W ((os1.set i A).set j B))=>h.rowAt (set_get (set_get L1.out il) jl))
 have RB:=qh (fun W o (h:Side w0 N W (os1.set i o))=>h.rowAt (set_get R1.out (by omega)))
 have RI:=qh I1.out
 have H0:=qh h0
 have HB:=qh hB
 have M1:=qh (stepM_1 m a x)
 have M2:=qh (stepM_2 m a x)
 have M0:=qh (stepM_0 m a x)
 have X0:=qh (stepX_0 m a x)
 have X1:=qh (show a.kind=1->stepX m a x=if m.comE a.ws (x+a.by_)=0 then x+a.by_ else x from fun e=>by unfold stepX; rw [if_pos e])
 obtain ⟨m',hm'⟩:=nmq (stepM m a x)
 obtain ⟨x',hx'⟩:=nmq (stepX m a x)
 rw [<-hm',<-hx']
 simp only [<-hm'] at M1 M2 M0
 simp only [<-hx'] at X0 X1
 have ra:=H0.out.rowAt R1.out
 have rg:=H0.out.rowAt L1.out
 obtain ⟨kd,ws,by_,sq,key⟩:=a
 have y0:0<=by_:=y0
 have y1:by_<=255:=y1
 obtain ⟨n,hn2⟩:=nmq (ws.length)
 have ra:RowAt (w.alloc (.cells #[.int .i64 kd,.slice A ws.length c,.int .u8 by_,.int .i64 sq,.string key] 37)) B [.int .i64 kd,.slice A ws.length c,.int .u8 by_,.int .i64 sq,.string key] 37:=ra
 have rg:RowAt (w.alloc (.cells #[.int .i64 kd,.slice A ws.length c,.int .u8 by_,.int .i64 sq,.string key] 37)) g [.int .u64 x] 34:=rg
 show Calls Tryz.prog 11 #[PtrM b,PtrM p,.agg #[.int .i64 kd,.slice A ws.length c,.int .u8 by_,.int .i64 sq,.string key],.pointer (some ⟨g,0,none⟩)] w _
 have QC:Hid (∀ W s,Side w0 N W os1->0<=s->s<=18446744073709551615->Calls Tryz.prog 12 #[PtrM b,.slice A n c,.int .u64 s] W fun e w'=>e=.returned (.tuple #[.int .i64 (m.comN ws s),.int .i64 (m.comE ws s)])∧Side w0 N w' (os1.set i (obP X b (m.com ws s)))):=by rw [hn2]; exact KC
 have QB:Hid (∀ W o,Side w0 N W (os1.set i o)->RowAt W B [.int .i64 kd,.slice A n c,.int .u8 by_,.int .i64 sq,.string key] 37):=by rw [hn2]; exact RB
 have QM:Hid (∀ W s o,Side w0 N W (os1.set i o)->Calls Tryz.prog 44 #[PtrM p,.slice A n c,.int .u64 s] W fun e w'=>e=.returned (.tuple #[.int .i64 (m.comN ws s),.int .i64 (m.comE ws s)])∧Side w0 N w' ((os1.set i o).set j (obM p (m.com ws s)))):=by rw [hn2]; exact KM
 have QK:Hid (∀ W,Side w0 N W os1->Calls Tryz.prog 18 #[PtrM b,.slice A n c,.int .i64 sq] W fun e w'=>e=.returned (.int .i64 (m.chk ws sq))∧Side w0 N w' os1):=by rw [hn2]; exact KK
 have QL:Hid (∀ W,Side w0 N W os1->Calls Tryz.prog 46 #[PtrM p,.slice A n c,.int .i64 sq] W fun e w'=>e=.returned (.int .i64 (m.chk ws sq))∧Side w0 N w' os1):=by rw [hn2]; exact KL
 have E1:Hid (kd=1->m'=m.com ws (x+by_)):=M1
 have E2:Hid (kd=2->m'=m.sw):=M2
 have E0:Hid (kd≠1->kd≠2->m'=m):=M0
 have Y0:Hid (kd≠1->x'=x):=X0
 have Y1:Hid (kd=1->x'=if m.comE ws (x+by_)=0 then x+by_ else x):=X1
 clear KC RB KM KK KL M1 M2 M0 X0 X1
 rw [<-hn2] at ra rg ⊢
 have a0:=ra.cell 0
 have a1:=ra.cell 1
 have a2:=ra.cell 2
 have a3:=ra.cell 3
 have g0:=rg.cell 0
 simp only [geS] at a0 a1 a2 a3 g0
 have H0:Hid (Side w0 N (w.alloc (.cells #[.int .i64 kd,.slice A ws.length c,.int .u8 by_,.int .i64 sq,.string key] 37)) os1):=H0
 rw [<-hn2] at H0
 clear h hi hj hl hb hv hN hw hf hn hk hA ok li lj ll hB h0 ho1 hm' hx' ra rg SW NA GW I1 J1 L1 R1 hn2
 have hBe:=HB.out
 clear HB
 subst hBe
 go_enter Tryz.func11,Tryz.ntmps11
 by_cases k1:kd=1
 ·subst k1
  have em:=qh (E1.out rfl)
  have ex:=qh (Y1.out rfl)
  obtain ⟨s,hs⟩:=nmq (x+by_)
  rw [<-hs] at em ex
  have QC1:=qh (fun W h=>QC.out W s h (by omega) (by omega))
  have KM2:=qh (fun W o h=>QM.out W s o h)
  obtain ⟨Nn,hNn⟩:=nmq (m.comN ws s)
  obtain ⟨E,hE⟩:=nmq (m.comE ws s)
  simp only [<-hNn,<-hE] at QC1 KM2
  rw [<-hE] at ex
  have u1:IntKind.u64.wrap by_=by_:=by rw [IntKind.wrap_u64]; omega
  have u2:IntKind.u64.wrap (x+by_)=s:=by rw [IntKind.wrap_u64]; omega
  clear hNn hE hs QM KS KT QK QL SM E1 E2 E0 Y0 Y1
  go_wp2_with fail
  go_quiet (fail)
  go_wp2_with fail
  refine Calls.mono (by with_reducible exact QC1.out _ (H0.out.below (below_drewN (Below.refl _ _) _))) ?_
  rintro e w1 ⟨rfl,h1⟩
  have b1:=(QB.out w1 _ h1).cell 1
  simp only [geS] at b1
  have H1:=qh h1
  clear h1 a0 a1 a2 a3 g0 QC QC1 u1 u2
  go_wp2_with fail
  refine (KM2.out _ _ H1.out).mono ?_
  rintro e w2 ⟨rfl,h2⟩
  have H2:=qh h2
  clear h2 b1 KM2
  by_cases e0:E=0
  ·subst e0
   have r2:=RG.out _ _ _ H2.out
   have g2:=r2.cell 0
   have f2:=r2.frozen 0
   simp only [List.getElem?_cons_zero] at g2
   have H3:=qh (BK.out _ _ _ _ (S3.out w2 _ _ (w2.setCell ⟨g,0,none⟩ (.int .u64 s)) s H2.out (Chg.setCell (F:=fun k=>k=g) (Chg.refl _ _) (.inl rfl) _) (r2.set 0 (.int .u64 s))))
   have ex:=qh (ex.out.trans (if_pos rfl))
   clear r2
   go_wp2_with fail
   go_ret
   exact ⟨by first | rfl | simp,by rw [em.out,ex.out]; exact H3.out⟩
  ·have H3:=qh (BK.out _ _ _ _ (S2.out w2 _ _ H2.out))
   have ex:=qh (ex.out.trans (if_neg e0))
   go_wp2_with fail
   go_ret
   exact ⟨by first | rfl | simp,by rw [em.out,ex.out]; exact H3.out⟩
 by_cases k2:kd=2
 ·subst k2
  have em:=qh (E2.out rfl)
  have ex:=qh (Y0.out (by decide))
  obtain ⟨V,hV⟩:=nmq (m.gone)
  simp only [<-hV] at KS KT
  clear hV QC QM QK QL SM E1 E2 E0 Y0 Y1 k1
  go_wp2_with fail
  refine (KS.out _ H0.out).mono ?_
  rintro e w1 ⟨rfl,h1⟩
  have H1:=qh h1
  clear h1 a0 a1 a2 a3 g0 KS
  go_wp2_with fail
  refine (KT.out _ _ H1.out).mono ?_
  rintro e w2 ⟨rfl,h2⟩
  have H3:=qh (BK.out _ _ _ _ (S2.out w2 _ _ h2))
  clear h2 KT
  go_wp2_with fail
  go_ret
  exact ⟨by first | rfl | simp,by rw [em.out,ex.out]; exact H3.out⟩
 have em:=qh (E0.out k1 k2)
 have ex:=qh (Y0.out k1)
 by_cases k3:kd=3
 ·subst k3
  obtain ⟨V,hV⟩:=nmq (m.chk ws sq)
  simp only [<-hV] at QK QL
  have a1H:=qh a1
  have a3H:=qh a3
  have RA:=qh (fun W (h:Side w0 N W os1)=>show W.cell? ⟨w.heap.size,1,none⟩=some (.slice A n c)∧W.cell? ⟨w.heap.size,3,none⟩=some (.int .i64 sq) from by
   have r:=QB.out W (obP X b m) (by rw [set_same RI.out]; exact h)
   exact ⟨r.cell 1,r.cell 3⟩)
  clear hV QC QM KS KT E1 E2 E0 Y0 Y1 k1 k2
  go_wp2_with fail
  clear a0 a1 a2 a3 g0
  refine wp_region_held_drew (S:=(fun w'=>w'.cell? ⟨w.heap.size,1,none⟩=some (.slice A n c)∧w'.cell? ⟨w.heap.size,3,none⟩=some (.int .i64 sq))) (by kernel_rfl) (⟨a1H.out,a3H.out⟩) (fun gH=>?_)
  refine rgT 0 (v:=?v1) ?y1 gH ?_
  case y1=>(intro v hSw; go_simp<;>rfl)
  refine rgT 1 (v:=?v2) ?y2 gH ?_
  case y2=>(intro v hSw; go_simp<;>rfl)
  refine rgT 2 (v:=?v3) ?y3 gH ?_
  case y3=>(intro v hSw; go_simp<;>rfl)
  try simp only [putS]
  refine rgT 3 (v:=?v4) ?y4 gH ?_
  case y4=>(intro v hSw; go_simp<;>rfl)
  refine rgT 4 (v:=?v5) ?y5 gH ?_
  case y5=>(intro v hSw; go_simp<;>rfl)
  refine rgT 6 (v:=?v6) ?y6 gH ?_
  case y6=>(intro v hSw; go_simp<;>rfl)
  try simp only [putS]
  refine rgT 7 (v:=?v7) ?y7 gH ?_
  case y7=>(intro v hSw; go_simp<;>rfl)
  refine rgT 8 (v:=?v8) ?y8 gH ?_
  case y8=>(intro v hSw; go_simp<;>rfl)
  refine rgT 9 (v:=?v9) ?y9 gH ?_
  case y9=>(intro v hSw; go_simp<;>rfl)
  try simp only [putS]
  refine rgT 10 (v:=?v10) ?y10 gH ?_
  case y10=>(intro v hSw; go_simp<;>rfl)
  try simp only [putS]
  refine rgO 5 fun K hK=>?_
  go_simp
  refine Calls.mono (by with_reducible exact QK.out _ (H0.out.below (below_drew (Below.refl _ _)))) ?_
  rintro e w1 ⟨rfl,h1⟩
  have H1:=qh h1
  clear h1
  refine hK.out _ _ (RA.out _ H1.out) (fun gH=>?_)
  clear hK K
  try simp only [putS]
  refine rgO 11 fun K hK=>?_
  go_simp
  refine (QL.out _ H1.out).mono ?_
  rintro e w2 ⟨rfl,h2⟩
  have H2:=qh h2
  clear h2
  refine hK.out _ _ (RA.out _ H2.out) (fun gH=>?_)
  clear hK K
  refine rgT 12 (v:=?v11) ?y11 gH ?_
  case y11=>(intro v hSw; go_simp<;>rfl)
  refine rgT 13 (v:=?v12) ?y12 gH ?_
  case y12=>(intro v hSw; go_simp<;>rfl)
  try simp only [putS]
  refine rgD ?_
  have H3:=qh (BK.out _ _ _ _ (SM.out w2 H2.out))
  go_wp2_with fail
  go_ret
  exact ⟨by first | rfl | simp,by rw [em.out,ex.out]; exact H3.out⟩
 ·have H3:=qh (BK.out _ _ _ _ (SM.out _ H0.out))
  clear QC QM KS KT QK QL E1 E2 E0 Y0 Y1
  go_wp2_with fail
  go_ret
  exact ⟨rfl,by rw [em.out,ex.out]; exact H3.out⟩

def bigW (x:Wr):Bool:=decide (200<x.key.size) || decide (200<x.val.txt.size)
def farW (ws:List Wr):Bool:=decide (30<ws.length) || ws.any bigW
theorem farW_no {ws:List Wr} (h:farW ws=false):ws.length<=30∧∀ x,x ∈ ws->x.key.size<=200∧x.val.txt.size<=200:=by
 unfold farW at h
 simp only [Bool.or_eq_false_iff,decide_eq_false_iff_not,List.any_eq_false] at h
 refine ⟨by omega,fun x hx=>?_⟩
 have:=h.2 x hx
 unfold bigW at this
 simp only [Bool.or_eq_true,decide_eq_true_eq,not_or] at this
 omega
def InW (ws:List Wr):Prop:=∀ x,x ∈ ws->x.key.size<=maxLen∧x.val.Fits
theorem InW.fits {ws:List Wr} (h:InW ws) (hf:farW ws=false):FitsW ws∧∀ x,x ∈ ws->x.key.size<=1000∧x.val.txt.size<=1000:=by
 have f:=(farW_no hf).2
 exact ⟨fun x hx=>⟨(h x hx).2,by have:=(f x hx).1; omega⟩,fun x hx=>by have:=f x hx; omega⟩

theorem lFar (ws:List Wr) (A:Option Addr) (c:Nat) (w:World) (h:SlWr w A ws) :
  Calls Tryz.prog 10 #[.slice A ws.length c] w fun e w'=>e=.returned (.bool (farW ws))∧Below w.heap.size w w':=by
 obtain ⟨n,hn⟩:=nmq (ws.length)
 obtain ⟨T,hT⟩:=nmq (farW ws)
 rw [<-hn]
 rw [<-hT]
 by_cases z:30<n
 ·have e:T=true:=by rw [hT]; unfold farW; rw [decide_eq_true (by omega)]; rfl
  subst e
  have B0:=qh (Below.refl w.heap.size w)
  clear h hn hT
  go_enter Tryz.func10,Tryz.ntmps10
  go_wp2_with fail
  go_ret
  exact ⟨rfl,B0.out⟩
 have FY:=qh (fun i (hi:i<n) (h:bigW (ws.getD i Wr.Z)=true)=>show T=true from by
  rw [hT]; unfold farW
  rw [show ws.any bigW=true from List.any_eq_true.2 ⟨ws.getD i Wr.Z,by rw [List.getD_eq_getElem?_getD,List.getElem?_eq_getElem (by omega)]; exact List.getElem_mem _,h⟩,Bool.or_true])
 have FN:=qh (fun (h:∀ i,i<n->bigW (ws.getD i Wr.Z)=false)=>show T=false from by
  rw [hT]; unfold farW
  rw [decide_eq_false (by omega),Bool.false_or,List.any_eq_false]
  intro x hx
  obtain ⟨i,hi,rfl⟩:=List.mem_iff_getElem.1 hx
  have:=h i (by omega)
  rw [List.getD_eq_getElem?_getD,List.getElem?_eq_getElem hi] at this
  exact Bool.eq_false_iff.1 this)
 have HS:=qh h
 have HN:=qh hn
 clear h hn hT
 go_enter Tryz.func10,Tryz.ntmps10
 go_wp2_with fail
 go_loopw [3] (fun vi wr=>∃ i:Nat,i<=n∧vi=.int .i64 i∧Hid (∀ j,j<i->bigW (ws.getD j Wr.Z)=false)∧wr=w) (fun vi _=>n-(intOf vi).toNat)
 case atStart=>exact ⟨0,Nat.zero_le _,rfl,qh (fun j hj=>by cases hj),rfl⟩
 case round =>
  obtain ⟨i,hi,rfl,HM,rfl⟩:=hrel
  by_cases q:i<n
  ·obtain ⟨b,o,rfl,hb,c0,c1,c2,c3,c4⟩:=HS.out.at (j:=i) (by rw [<-HN.out]; exact q)
   have i0:(0:Int)<=(i:Int):=by omega
   have i1:(i:Int)<(n:Int):=by omega
   have FY:=qh (FY.out i q)
   have ST:=qh (fun (h:bigW (ws.getD i Wr.Z)=false)=>show ∀ j,j<i+1->bigW (ws.getD j Wr.Z)=false from fun j hj=>by
    by_cases e:j=i
    ·rw [e]; exact h
    ·exact HM.out j (by omega))
   obtain ⟨x,hx⟩:=nmq (ws.getD i Wr.Z)
   rw [<-hx] at c0 c3 FY ST
   obtain ⟨k,g,v⟩:=x
   obtain ⟨mm,t,u⟩:=v
   have c0:wr.cell? ⟨b,o+i * 5,none⟩=some (.string k):=c0
   have c3:wr.cell? ⟨b,o+i * 5+3,none⟩=some (.string t):=c3
   have eb:bigW ⟨k,g,⟨mm,t,u⟩⟩=(decide (200<k.size) || decide (200<t.size)):=rfl
   have EB:=qh eb
   clear hx eb c1 c2 c4 hb
   by_cases z1:200<k.size
   ·have ET:=qh (FY.out (by rw [EB.out,decide_eq_true z1]; rfl))
    go_wp2_with fail
    go_ret
    exact ⟨by rw [ET.out]; rfl,Below.refl _ _⟩
   ·by_cases z2:200<t.size
    ·have ET:=qh (FY.out (by rw [EB.out,decide_eq_true z2,Bool.or_true]))
     go_wp2_with fail
     go_ret
     exact ⟨by rw [ET.out]; rfl,Below.refl _ _⟩
    ·have SS:=qh (ST.out (by rw [EB.out,decide_eq_false z1,decide_eq_false z2]; rfl))
     go_wp2_with fail
     go_roundw
     case rel=>exact ⟨i+1,by omega,by go_num,SS,by first | trivial | rfl⟩
     case measure=>simp [intOf]; omega
  ·obtain rfl:i=n:=by omega
   have ET:=qh (FN.out HM.out)
   go_wp2_with fail
   go_ret
   exact ⟨by rw [ET.out]; rfl,Below.refl _ _⟩
structure RoomA0 (R:RelM):Prop where
 keep:∀ {w w':World} {b:Nat} {F:Nat->Prop} {m:Rm},R w b F m->(∀ k,F k->w'.heap[k]?=w.heap[k]?)->w.heap.size<=w'.heap.size->R w' b F m
 lt:∀ {w:World} {b:Nat} {F:Nat->Prop} {m:Rm} {k:Nat},R w b F m->F k->k<w.heap.size
 new:∀ (A:Option Addr) (c:Nat) (zs:List Int) (g1 g2 g3:Int) (w:World),Sl w A zs->zs.length<=1000->La.U64 zs →
  Calls Tryz.prog 8 #[.agg #[.slice A zs.length c,.int .i64 g1,.int .i64 g2,.int .i64 g3]] w fun e w'=>Below w.heap.size w w' ∧
   ((stOk zs g1 g2 g3=true∧∃ b F,e=.returned (.tuple #[PtrM b,.int .i64 0])∧R w' b F (Rm.new zs g1 g2 g3 0 [])∧∀ k,F k->w.heap.size<=k) ∨
    (stOk zs g1 g2 g3=false∧e=.returned (.tuple #[.pointer none,.int .i64 1])))
 check:∀ (b:Nat) (F:Nat->Prop) (m:Rm) (ws:List Wr) (A:Option Addr) (c:Nat) (s:Int) (w:World),R w b F m->m.Few->GoodW w F A ws →
  Calls Tryz.prog 18 #[PtrM b,.slice A ws.length c,.int .i64 s] w fun e w'=>e=.returned (.int .i64 (m.chk ws s))∧LeftM R b F w m w'
theorem RoomLo.a0 {R:RelM} (X:RoomLo R):RoomA0 R:=⟨X.keep,X.lt,X.new,X.check⟩
def wK (t:ByteArray):List Wr:=[⟨⟨#[107]⟩,false,⟨false,t,0⟩⟩]
theorem wK_sl (w:World) (t:ByteArray) (ty:TypeId):SlWr (w.alloc (.cells #[.string ⟨#[107]⟩,.bool false,.bool false,.string t,.int .u64 0] ty)) (some ⟨w.heap.size,0,none⟩) (wK t):=fun _=>by
 have r:=RowAt.new w [.string ⟨#[107]⟩,.bool false,.bool false,.string t,.int .u64 0] ty
 refine ⟨w.heap.size,0,rfl,r.lt,fun j hj=>?_⟩
 have e:j=0:=by simp [wK] at hj; exact hj
 subst e
 exact ⟨r.cell 0,r.cell 1,r.cell 2,r.cell 3,r.cell 4⟩
theorem wK_good {R:RelM} (X:RoomA0 R) {w:World} {b:Nat} {F:Nat->Prop} {m:Rm} (h:R w b F m) (t:ByteArray) (ht:t.size<=64) (ty:TypeId) :
  GoodW (w.alloc (.cells #[.string ⟨#[107]⟩,.bool false,.bool false,.string t,.int .u64 0] ty)) F (some ⟨w.heap.size,0,none⟩) (wK t) :=
 ⟨wK_sl w t ty,fun x hx=>by
  simp only [wK,List.mem_singleton] at hx
  subst hx
  exact ⟨⟨(show (0:Nat)<18446744073709551616 by decide),Nat.le_trans ht (by decide)⟩,(show (1:Nat)<=1000000 by decide)⟩,by simp [wK],fun _ a e f=>by
  injection e with e
  subst e
  have:=X.lt h f
  simp at this,fun x hx=>by
  simp only [wK,List.mem_singleton] at hx
  subst hx
  exact ⟨(show (1:Nat)<=1000 by decide),Nat.le_trans ht (by decide)⟩⟩

theorem lAwake {R:RelM} (X:RoomA0 R) (w:World):Calls Tryz.prog 7 #[] w fun e w'=>e=.returned (.bool true)∧Below w.heap.size w w':=by
 have st:stOk [] 1 3 9=true:=by kernel_rfl
 have CN:=qh (X.new none 0 [] 1 3 9 w (Sl.nil _ _) (by decide) (fun _ h=>by cases h))
 obtain ⟨m,hm⟩:=nmq (Rm.new [] 1 3 9 0 [])
 have c1:m.chk (wK ⟨#[120]⟩) 0=0:=by rw [hm]; kernel_rfl
 have c2:m.chk (wK ⟨#[120,121]⟩) 0=15:=by rw [hm]; kernel_rfl
 have fw:m.Few:=by rw [hm]; exact ⟨⟨by decide,fun _=>Nat.zero_le _⟩,by decide⟩
 have C1:=qh (fun W b F (h:R W b F m)=>X.check b F m (wK ⟨#[120]⟩) (some ⟨W.heap.size,0,none⟩) 1 0 _ (X.keep h (fun k e=>Below.heap_alloc _ _ _ (X.lt h e)) (by simp)) fw (wK_good X h ⟨#[120]⟩ (by decide) 86))
 have C2:=qh (fun W b F (h:R W b F m)=>X.check b F m (wK ⟨#[120,121]⟩) (some ⟨W.heap.size,0,none⟩) 1 0 _ (X.keep h (fun k e=>Below.heap_alloc _ _ _ (X.lt h e)) (by simp)) fw (wK_good X h ⟨#[120,121]⟩ (by decide) 86))
 rw [<-hm,st] at CN
 simp only [c1] at C1
 simp only [c2] at C2
 have LT:=qh (fun W b F (h:R W b F m) k (e:F k)=>X.lt h e)
 clear X c1 c2 fw hm st
 go_enter Tryz.func7,Tryz.ntmps7
 go_wp2_with fail
 refine CN.out.mono ?_
 rintro e w1 ⟨hb1,⟨_,b,F,rfl,hr,hF⟩ | ⟨hf,_⟩⟩
 case inr=>cases hf
 have CC:=qh (C1.out w1 b F hr)
 have B1:=qh hb1
 have HF:=qh hF
 clear hb1 hr hF CN C1
 go_wp2_with fail
 refine CC.out.mono ?_
 rintro e w2 ⟨rfl,hc,F',hr',hk⟩
 have CD:=qh (C2.out w2 b F' hr')
 have B2:=qh (show Below w.heap.size w w2 from by
  have b0:Below w.heap.size w (w1.alloc (.cells #[.string ⟨#[107]⟩,.bool false,.bool false,.string ⟨#[120]⟩,.int .u64 0] 86)):=B1.out.alloc B1.out.size _
  exact b0.trans (hc.below (fun k e=>HF.out k e) b0.size))
 have HF2:=qh (show ∀ k,F' k->w.heap.size<=k from fun k e=>by
  rcases hk k e with q | q
  ·exact HF.out k q
  ·have:=B1.out.size; simp at q; omega)
 clear hc hr' hk CC C2 B1
 go_wp2_with fail
 refine CD.out.mono ?_
 rintro e w3 ⟨rfl,hc,F3,hr3,hk⟩
 have B3:=qh (show Below w.heap.size w w3 from by
  have b0:Below w.heap.size w (w2.alloc (.cells #[.string ⟨#[107]⟩,.bool false,.bool false,.string ⟨#[120,121]⟩,.int .u64 0] 86)):=B2.out.alloc B2.out.size _
  exact b0.trans (hc.below (fun k e=>HF2.out k e) b0.size))
 clear hc hr3 hk CD
 go_wp2_with fail
 go_ret
 exact ⟨rfl,B3.out⟩
end Go.Proofs.YtomjlopcifafpaaGreat

namespace Go.Proofs.YtomjlopcifafpaaGreat
open Go.RowKit

theorem swept_vers {L:Ch} {q:Int} (h:OkL L q) (f:Int):(L.swept f).vers<=L.vers :=
 Sim.vers (F:=f) (fun _=>⟨f,Int.le_refl _,Ch.of_swept h.rise f⟩) h.rise (h.swept f)
structure Along (K0 i:Nat) (m:Rm) (x:Int):Prop where
 ok:m.Ok
 bnd:Bnd m.L (K0+16 * i) (i+1)
 len:m.r.l.length<=i
 vers:m.L.vers<=K0+16 * i
 x0:0<=x
 x1:x<=256 * i
namespace Along
variable {K0 i:Nat} {m:Rm} {x:Int}
theorem few (h:Along K0 i m x) (hi:i<=120) (hK:K0<=100):m.Few:=⟨h.bnd.mono (by omega) (by omega),Nat.le_trans h.len (by omega)⟩
theorem many (h:Along K0 i m x) (hi:i<=120) (hK:K0<=100):m.L.vers<=1000000:=Nat.le_trans h.vers (by omega)
theorem stamp (h:Along K0 i m x) (hi:i<=120):x<=1000000:=by have:=h.x1; omega
theorem new {zs:List Int} {g1 g2 g3:Int} (h:stOk zs g1 g2 g3=true):Along 0 0 (Rm.new zs g1 g2 g3 0 []) 0 :=
 ⟨Rm.ok_new h,(Rm.few_new zs g1 g2 g3).mono (Nat.le_refl _) (Nat.zero_le _),Nat.le_refl _,Nat.le_refl _,Int.le_refl _,Int.le_refl _⟩
theorem load {zs:List Int} {g1 g2 g3 sq:Int} {l:List En} (h:ldE zs g1 g2 g3 sq l=0) (hf:FitsE l):Along l.length 0 (Rm.new zs g1 g2 g3 sq (loadL l)) 0:=by
 obtain ⟨o,b⟩:=Rm.ok_load h hf
 exact ⟨o,b,Nat.le_refl _,Nat.le_of_eq (load_vers l),Int.le_refl _,Int.le_refl _⟩
theorem more (h:Along K0 i m x):Along K0 (i+1) m x :=
 ⟨h.ok,h.bnd.mono (by omega) (by omega),by have:=h.len; omega,by have:=h.vers; omega,h.x0,by have:=h.x1; omega⟩
theorem com (h:Along K0 i m x) {ws:List Wr} (hf:FitsW ws) (y:Int) {x':Int} (h0:0<=x') (h1:x'<=256 * (i+1)):Along K0 (i+1) (m.com ws y) x':=by
 obtain ⟨o,b,l⟩:=Rm.ok_com (x:=y) h.ok h.bnd hf
 refine ⟨o,b.mono (by omega) (by omega),by have:=h.len; omega,?_,h0,by omega⟩
 by_cases e:m.comE ws y=0
 ·obtain ⟨e1,_,_,_,e5,_⟩:=Rm.com_yes e
  rw [e5]
  show (m.L.withW ws ((m.r.seq:Int)+1)).vers<=_
  rw [vers_with]
  have:=h.vers
  have:=mayW_size e1
  omega
 ·rw [(Rm.com_no e).1]
  have:=h.vers; omega
theorem sw (h:Along K0 i m x):Along K0 (i+1) m.sw x:=by
 obtain ⟨o,b⟩:=Rm.ok_sw h.ok h.bnd
 refine ⟨o,b.mono (by omega) (by omega),by have:=h.len; show m.r.l.length<=_; omega,?_,h.x0,by have:=h.x1; omega⟩
 have:=h.vers
 have:=swept_vers h.ok.L m.floor
 show (m.L.swept m.floor).vers<=_
 omega
theorem step (h:Along K0 i m x) (a:Ac) (hf:FitsW a.ws) (y0:0<=a.by_) (y1:a.by_<=255):Along K0 (i+1) (stepM m a x) (stepX m a x):=by
 have h0:=h.x0
 have h1:=h.x1
 by_cases k1:a.kind=1
 ·rw [stepM_1 m a x k1]
  unfold stepX
  rw [if_pos k1]
  split
  ·exact h.com hf _ (by omega) (by omega)
  ·exact h.com hf _ h0 (by omega)
 ·rw [stepX_0 m a x k1]
  by_cases k2:a.kind=2
  ·rw [stepM_2 m a x k2]; exact h.sw
  ·rw [stepM_0 m a x k1 k2]; exact h.more
end Along
structure Wrote (m:Rm) (wr:List Nat):Prop where
 seq:m.r.seq=wr.length
 beg:m.r.beg=0
 late:∀ f:Nat,f<=wr.length->late (f:Int) m.L<=(wr.drop f).sum
theorem Wrote.new (zs:List Int) (g1 g2 g3:Int):Wrote (Rm.new zs g1 g2 g3 0 []) []:=⟨rfl,rfl,fun _ _=>Nat.zero_le _⟩
theorem late_zero {L:Ch} {q:Int} (h:OkL L q):late q L=0:=by
 unfold late
 have:∀ y,y ∈ L->lateL q y.2=0:=fun y hy=>by
  unfold lateL
  rw [List.countP_eq_zero]
  intro z hz
  have:=h.le y hy z hz
  simp only [decide_eq_true_eq]
  omega
 clear h
 induction L with
 | nil=>rfl
 | cons y L ih=>rw [List.map_cons,List.sum_cons,this y (by simp),ih fun z hz=>this z (List.mem_cons_of_mem _ hz)]
theorem Wrote.com {m:Rm} {wr:List Nat} (h:Wrote m wr) {ws:List Wr} {x:Int} (e:m.comE ws x=0) (ok:(m.com ws x).Ok):Wrote (m.com ws x) (wr++[ws.length]):=by
 obtain ⟨_,_,_,e4,e5,_⟩:=Rm.com_yes e
 have hs:=h.seq
 rw [e5] at ok ⊢
 have okL:OkL (m.L.withW ws ((m.r.seq:Int)+1)) (((m.r.push x).seq:Nat):Int):=ok.L
 rw [Rm.push_seq e4] at okL
 refine ⟨?_,?_,fun f hf=>?_⟩
 ·show (m.r.push x).seq=_
  rw [Rm.push_seq e4,hs,List.length_append,List.length_singleton]
 ·show (m.r.push x).beg=0
  rw [Rg.push_beg]; exact h.beg
 ·rw [List.length_append,List.length_singleton] at hf
  show Go.Proofs.YtomjlopcifafpaaGreat.late (f:Int) (m.L.withW ws ((m.r.seq:Int)+1))<=_
  rcases Nat.lt_or_ge f (wr.length+1) with z | z
  ·rw [late_with m.L ws (show (f:Int)<(m.r.seq:Int)+1 by omega),List.drop_append_of_le_length (by omega),List.sum_append]
   have:=h.late f (by omega)
   simp
   omega
  ·have ef:f=m.r.seq+1:=by omega
   rw [ef,late_zero okL]
   exact Nat.zero_le _
theorem Wrote.no {m:Rm} {wr:List Nat} (h:Wrote m wr) {ws:List Wr} {x:Int} (e:m.comE ws x≠0):Wrote (m.com ws x) wr:=by rw [(Rm.com_no e).1]; exact h
theorem Wrote.sw {m:Rm} {wr:List Nat} (h:Wrote m wr):Wrote m.sw wr:=⟨h.seq,h.beg,fun f hf=>Nat.le_trans (late_swept m.L _ _) (h.late f hf)⟩
theorem Wrote.kept {m:Rm} {wr:List Nat} (h:Wrote m wr) (ok:m.Ok):m.sw.L.vers<=m.ents.length+2 * (wr.drop (wr.length+1-m.r.size)).sum:=by
 have hf:m.r.floor=wr.length+1-m.r.size:=by unfold Rg.floor; rw [h.seq,h.beg]; omega
 have v:=vers_swept (f:=m.floor) (q:=m.seq) (L:=m.L) fun y hy=>⟨rise_of_right (ok.L.right y hy),ok.L.le y hy⟩
 have l:=h.late (wr.length+1-m.r.size) (by have:=ok.r.s1; omega)
 rw [<-hf] at l ⊢
 have v:m.sw.L.vers<=m.ents.length+2 * Go.Proofs.YtomjlopcifafpaaGreat.late (m.r.floor:Int) m.L:=v
 omega

end Go.Proofs.YtomjlopcifafpaaGreat

namespace Go.Proofs.YtomjlopcifafpaaGreat
open Go.RowKit

structure Tw (m n:Rm):Prop where
 okm:m.Ok
 okn:n.Ok
 r:n.r=m.r
 quota:n.quota=m.quota
 most:n.most=m.most
 sim:Sim m.L n.L m.floor
namespace Tw
variable {m n:Rm} {ws:List Wr} {K N K2 N2:Nat} {x s:Int} {k:ByteArray}
theorem floor (h:Tw m n):n.floor=m.floor:=by unfold Rm.floor; rw [h.r]
theorem seq (h:Tw m n):n.seq=m.seq:=by unfold Rm.seq; rw [h.r]
theorem spc (h:Tw m n) (bm:Bnd m.L K N) (bn:Bnd n.L K2 N2) (hf:FitsW ws) (hm:mayW ws=true):spcE n.r n.L ws n.quota n.most=spcE m.r m.L ws m.quota m.most:=by
 have st:=Rm.st_parts h.okm.st
 have fs:=Rm.floor_seq h.okm.r
 have sq:=h.okm.r.sq
 have sm:=h.okm.seq
 unfold Rm.seq at fs
 unfold spcE
 rw [h.r,h.quota,h.most]
 by_cases e:m.most<=(m.r.seq:Int)
 ·rw [if_pos e,if_pos e]
 ·rw [if_neg e,if_neg e]
  have o1:=(OkL.with (ws:=ws) h.okm.L bm (by omega) (by omega) hm hf).1
  have ln:=h.okn.L
  rw [h.r] at ln
  have o2:=(OkL.with (ws:=ws) ln bn (by omega) (by omega) hm hf).1
  have e2:=(h.sim.withs h.okm.L.rise h.okn.L.rise ws (s:=(m.r.seq:Int)+1) (by omega)).live o1 o2 (by omega)
  rw [e2]
theorem comE (h:Tw m n) (bm:Bnd m.L K N) (bn:Bnd n.L K2 N2) (hf:FitsW ws):n.comE ws x=m.comE ws x:=by
 unfold Rm.comE Go.Proofs.YtomjlopcifafpaaGreat.comE
 cases z:mayW ws with
 | false=>rfl
 | true=>rw [h.spc bm bn hf z,h.r]
theorem comN (h:Tw m n) (bm:Bnd m.L K N) (bn:Bnd n.L K2 N2) (hf:FitsW ws):n.comN ws x=m.comN ws x:=by
 have e:=h.comE (x:=x) bm bn hf
 unfold Rm.comE at e
 unfold Rm.comN Go.Proofs.YtomjlopcifafpaaGreat.comN
 rw [e,h.r]
theorem com (h:Tw m n) (bm:Bnd m.L K N) (bn:Bnd n.L K2 N2) (hf:FitsW ws) (x:Int):Tw (m.com ws x) (n.com ws x):=by
 have om:=(Rm.ok_com (x:=x) h.okm bm hf).1
 have on:=(Rm.ok_com (x:=x) h.okn bn hf).1
 have e:=h.comE (x:=x) bm bn hf
 by_cases z:m.comE ws x=0
 ·obtain ⟨h1,h2,h3,h4,h5,_⟩:=Rm.com_yes z
  obtain ⟨_,_,_,_,k5,_⟩:=Rm.com_yes (e.trans z)
  rw [h5] at om ⊢
  rw [k5] at on ⊢
  refine ⟨om,on,by rw [h.r],h.quota,h.most,?_⟩
  have fs:=Rm.floor_seq h.okm.r
  have fl:m.floor<=(((m.r.push x).floor:Nat):Int):=by
   unfold Rm.floor Rg.push
   rw [if_pos h4]
   unfold Rg.floor Rg.seq
   simp only [List.length_append,List.length_singleton]
   omega
  unfold Rm.seq at fs
  have:=h.sim.withs h.okm.L.rise h.okn.L.rise ws (s:=(m.r.seq:Int)+1) (by omega)
  rw [h.r]
  exact this.mono fl
 ·rw [(Rm.com_no z).1,(Rm.com_no (e ▸ z)).1]
  exact h
theorem sw (h:Tw m n) (bn:Bnd n.L K2 N2):Tw m n.sw:=by
 refine ⟨h.okm,(Rm.ok_sw h.okn bn).1,h.r,h.quota,h.most,?_⟩
 have:=h.sim.swept h.okm.L h.okn.L
 show Sim m.L (n.L.swept n.floor) m.floor
 rw [h.floor]
 exact this
theorem chk (h:Tw m n) (bm:Bnd m.L K N) (bn:Bnd n.L K2 N2) (hf:FitsW ws):n.chk ws s=m.chk ws s:=by
 unfold Rm.chk chkE
 cases z:mayW ws with
 | false=>rfl
 | true =>
  rw [h.spc bm bn hf z,h.r]
  by_cases y:s<(m.r.floor:Int)∨(m.r.seq:Int)<s
  ·have tf:¬ (true=false):=by decide
   rw [if_neg tf,if_neg tf,if_pos y,if_pos y]
  ·have hs:m.floor<=s:=by unfold Rm.floor; omega
   have e:(ws.any fun x=>since n.L x.key s)=ws.any fun x=>since m.L x.key s:=by
    congr 1
    funext x
    exact (h.sim.since h.okm.L hs x.key).symm
   rw [e]
theorem at_ (h:Tw m n) (hs:m.floor<=s) (k:ByteArray):atOk (n.L.of k) s=atOk (m.L.of k) s∧atL (n.L.of k) s=atL (m.L.of k) s :=
 ⟨(h.sim.at_ h.okm.L hs k).1.symm,(h.sim.at_ h.okm.L hs k).2.symm⟩
theorem aft (h:Tw m n) (hs:m.floor<=s) (k:ByteArray) (ab:Bool):aftV n.L k ab s=aftV m.L k ab s :=
 (aft_eq (h.sim.ents h.okm.L h.okn.L hs) k ab).symm
theorem ents (h:Tw m n):n.ents=m.ents:=by
 unfold Rm.ents
 rw [h.seq]
 exact (h.sim.ents h.okm.L h.okn.L (Rm.floor_seq h.okm.r)).symm
theorem live (h:Tw m n):n.L.live=m.L.live:=by
 have ln:=h.okn.L
 rw [h.r] at ln
 exact (h.sim.live h.okm.L ln (Rm.floor_seq h.okm.r)).symm
theorem vers (h:Tw m n):n.L.vers<=m.L.vers:=h.sim.vers h.okm.L.rise h.okn.L
end Tw
theorem Rm.gone_twice {n:Rm} (h:n.Ok):n.sw.gone=0:=by
 unfold Rm.gone
 show ((n.L.swept n.floor).vers:Int)-(((n.L.swept n.floor).swept n.floor).vers:Int)=0
 rw [swept_twice h.L]; omega
theorem Tw.new {zs:List Int} {g1 g2 g3:Int} (h:stOk zs g1 g2 g3=true):Tw (Rm.new zs g1 g2 g3 0 []) (Rm.new zs g1 g2 g3 0 []) :=
 ⟨Rm.ok_new h,Rm.ok_new h,rfl,rfl,rfl,Sim.nil _⟩
theorem Along.swept {K0 i:Nat} {m:Rm} {x:Int} (h:Along K0 i m x):Along K0 i m.sw x:=by
 obtain ⟨o,b⟩:=Rm.ok_sw h.ok h.bnd
 refine ⟨o,b,h.len,?_,h.x0,h.x1⟩
 have:=h.vers
 have:=swept_vers h.ok.L m.floor
 show (m.L.swept m.floor).vers<=_
 omega

end Go.Proofs.YtomjlopcifafpaaGreat
