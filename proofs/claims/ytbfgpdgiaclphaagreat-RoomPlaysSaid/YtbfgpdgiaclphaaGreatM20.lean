/- Proved parts: B1a B1g B1h B1k B2m B2n B2s B2f B3o B3p B3t B3c. Conditions: each theorem's own. -/
import Derived.Test.YtbfgpdgiaclphaaGreatM18
import Derived.Test.YtbfgpdgiaclphaaGreatM19
import Derived.Deep.RegionHeldLaw
import Derived.Test.YtbfgpdgiaclphaaGreatM2
import Derived.Test.YtbfgpdgiaclphaaGreatM8
import Derived.Test.YtbfgpdgiaclphaaGreatQ1
import Derived.Test.YtbfgpdgiaclphaaGreatQ2
set_option maxRecDepth 100000
set_option maxHeartbeats 8000000
namespace Go.Proofs.YtbfgpdgiaclphaaGreat
open Go.RowKit

def stOk (zs:List Int) (g1 g2 g3:Int):Bool:=La.right zs && (decide (1<=g1) && (decide (g1<=16) && (decide (0<=g2) && (decide (g2<=1048576) && (decide (1<=g3) && decide (g3<=1073741824))))))

theorem rRight1 (A:Option Addr) (c:Nat) (zs:List Int) (g1 g2 g3:Int) (w:World) (h:Sl w A zs) (hm:zs.length<=maxLen) (hu:La.U64 zs) :
  Calls Tryz.prog 13 #[.agg #[.slice A zs.length c,.int .i64 g1,.int .i64 g2,.int .i64 g3]] w fun e w'=>e=.returned (.bool (stOk zs g1 g2 g3))∧Below w.heap.size w w':=by
 have b0:Below w.heap.size w (w.alloc (.cells #[.slice A zs.length c,.int .i64 g1,.int .i64 g2,.int .i64 g3] 24)):=(Below.refl _ _).alloc (Nat.le_refl _) _
 have CR:=qh (rright A c zs _ (h.below b0) hm hu)
 have B0:=qh b0
 obtain ⟨n,hn⟩:=nmq (zs.length)
 obtain ⟨R,hR⟩:=nmq (La.right zs)
 obtain ⟨T,hT⟩:=nmq (stOk zs g1 g2 g3)
 have eT:T=(R && (decide (1<=g1) && (decide (g1<=16) && (decide (0<=g2) && (decide (g2<=1048576) && (decide (1<=g3) && decide (g3<=1073741824))))))):=by rw [hT,hR]; rfl
 rw [<-hT]
 rw [<-hR,<-hn] at CR
 rw [<-hn] at B0 ⊢
 have ET:=qh eT
 clear h hm hu hn hR hT eT b0
 have HB:=qh (fun k=>show Below w.heap.size w ((w.alloc (.cells #[.slice A n c,.int .i64 g1,.int .i64 g2,.int .i64 g3] 24)).drewN k) from below_drewN B0.out k)
 go_enter Tryz.func13,Tryz.ntmps13
 go_wp2_with fail
 refine CR.out.mono ?_
 rintro e w1 ⟨rfl,k,rfl⟩
 have B1:=qh (HB.out k)
 clear HB CR B0
 cases R with
 | false =>
  have e:=qh (show T=false from ET.out)
  go_wp2_with fail
  go_ret
  exact ⟨by rw [e.out]; rfl,B1.out⟩
 | true =>
 by_cases p1:(1:Int)<=g1
 case neg =>
  have d1:decide ((1:Int)<=g1)=false:=decide_eq_false p1
  have e:=qh (show T=false by rw [ET.out,d1]; simp)
  clear p1
  go_wp2_with fail
  go_ret
  exact ⟨by rw [e.out]; rfl,B1.out⟩
 have d1:decide ((1:Int)<=g1)=true:=decide_eq_true p1
 by_cases p2:g1<=(16:Int)
 case neg =>
  have d2:decide (g1<=(16:Int))=false:=decide_eq_false p2
  have e:=qh (show T=false by rw [ET.out,d2]; simp)
  clear p1 p2
  go_wp2_with fail
  go_ret
  exact ⟨by rw [e.out]; rfl,B1.out⟩
 have d2:decide (g1<=(16:Int))=true:=decide_eq_true p2
 by_cases p3:(0:Int)<=g2
 case neg =>
  have d3:decide ((0:Int)<=g2)=false:=decide_eq_false p3
  have e:=qh (show T=false by rw [ET.out,d3]; simp)
  clear p1 p2 p3
  go_wp2_with fail
  go_ret
  exact ⟨by rw [e.out]; rfl,B1.out⟩
 have d3:decide ((0:Int)<=g2)=true:=decide_eq_true p3
 by_cases p4:g2<=(1048576:Int)
 case neg =>
  have d4:decide (g2<=(1048576:Int))=false:=decide_eq_false p4
  have e:=qh (show T=false by rw [ET.out,d4]; simp)
  clear p1 p2 p3 p4
  go_wp2_with fail
  go_ret
  exact ⟨by rw [e.out]; rfl,B1.out⟩
 have d4:decide (g2<=(1048576:Int))=true:=decide_eq_true p4
 by_cases p5:(1:Int)<=g3
 case neg =>
  have d5:decide ((1:Int)<=g3)=false:=decide_eq_false p5
  have e:=qh (show T=false by rw [ET.out,d5]; simp)
  clear p1 p2 p3 p4 p5
  go_wp2_with fail
  go_ret
  exact ⟨by rw [e.out]; rfl,B1.out⟩
 have d5:decide ((1:Int)<=g3)=true:=decide_eq_true p5
 clear p1 p2 p3 p4 p5
 cases d6:decide (g3<=(1073741824:Int)) with
 | false =>
  have e:=qh (show T=false by rw [ET.out,d6]; simp)
  go_wp2_with fail
  go_ret
  exact ⟨by rw [e.out]; rfl,B1.out⟩
 | true =>
  have e:=qh (show T=true by rw [ET.out,d1,d2,d3,d4,d5,d6]; rfl)
  go_wp2_with fail
  go_ret
  exact ⟨by rw [e.out]; rfl,B1.out⟩

end Go.Proofs.YtbfgpdgiaclphaaGreat

namespace Go.Proofs.YtbfgpdgiaclphaaGreat
open Go.RowKit

theorem swept_succ (L:Ch) (f:Int) {i:Nat} (hi:i<L.length):Ch.swept (L.take (i+1)) f=if (sweepL (L.chn i) f).length=0 then Ch.swept (L.take i) f else Ch.swept (L.take i) f++[(L.key i,sweepL (L.chn i) f)]:=by
 unfold Ch.swept
 rw [List.take_succ_eq_append_getElem hi,List.map_append,List.filter_append,Ch.getE L hi]
 by_cases z:(sweepL (L.chn i) f).length=0
 ·rw [if_pos z]
  have e:sweepL (L.chn i) f=[]:=List.eq_nil_of_length_eq_zero z
  simp [e]
 ·rw [if_neg z]
  have e:(sweepL (L.chn i) f).isEmpty=false:=by
   cases q:sweepL (L.chn i) f with
   | nil=>rw [q] at z; exact absurd rfl z
   | cons _ _=>rfl
  simp [e]
theorem RiseV.drop {l:List Ver} (h:RiseV l) (k:Nat):RiseV (l.drop k):=fun i j hij hj=>by
 rw [List.length_drop] at hj
 rw [getD_drop,getD_drop]
 exact h _ _ (by omega) (by omega)
theorem mem_swept {L:Ch} {f:Int} {x:ByteArray × List Ver} (h:x ∈ L.swept f):∃ y,(x.1,y) ∈ L∧x.2=sweepL y f:=by
 unfold Ch.swept at h
 obtain ⟨h1,_⟩:=List.mem_filter.1 h
 obtain ⟨y,hy,rfl⟩:=List.mem_map.1 h1
 exact ⟨y.2,hy,rfl⟩
theorem swept_len (L:Ch) (f:Int):(L.swept f).length<=L.length:=by
 unfold Ch.swept
 refine Nat.le_trans (List.length_filter_le _ _) ?_
 rw [List.length_map]; exact Nat.le_refl _
theorem GoodC.swept {L:Ch} (h:GoodC L) (f:Int):GoodC (L.swept f):=by
 refine ⟨Nat.le_trans (swept_len L f) h.len,fun x hx=>?_,fun x hx=>?_,fun x hx=>?_,fun x hx=>?_,?_,fun x hx=>?_⟩
 ·obtain ⟨y,hy,e⟩:=mem_swept hx
  rw [e]; exact fun z hz=>h.fits _ hy z (List.mem_of_mem_drop hz)
 ·obtain ⟨y,hy,e⟩:=mem_swept hx
  rw [e]; exact fun z hz=>h.texts _ hy z (List.mem_of_mem_drop hz)
 ·obtain ⟨y,hy,e⟩:=mem_swept hx
  rw [e]; unfold sweepL; rw [List.length_drop]; have:y.length<=1000:=h.lens _ hy; omega
 ·obtain ⟨y,hy,e⟩:=mem_swept hx
  exact h.keys (x.1,y) hy
 ·unfold Ch.Rise Ch.swept
  refine List.Pairwise.filter _ ?_
  rw [List.pairwise_map]
  exact h.rise
 ·obtain ⟨y,hy,e⟩:=mem_swept hx
  rw [e]; exact (h.rises _ hy).drop _
section
variable {w w' w2 w3 w4:World} {p q:Nat} {v lb:Value} {g2 g3:Int} {r r':Rg} {G:Nat->Prop} {A A':Option Addr} {c c':Nat} {L M:Ch}
theorem LeftR1.fresh (h:RoomG w p q v lb g2 g3 r G A c L) (s:SepR p q v G) (hb:Below w.heap.size w w4) (hs:SlO w4 (fun y=>w.heap.size<=y) A' M) :
  LeftR1 w p q v lb g2 g3 G r M (w4.setCell ⟨p,5,none⟩ (.slice A' M.length c')):=by
 have pl:=h.row.lt
 have h4:=h.below hb
 have sb:=hs.bound
 have bk:∀ k,k≠p->(w4.setCell ⟨p,5,none⟩ (.slice A' M.length c')).heap[k]?=w4.heap[k]?:=fun k e=>Below.heap_setCell _ _ _ _ e
 have sz:(w4.setCell ⟨p,5,none⟩ (.slice A' M.length c')).heap.size=w4.heap.size:=by simp
 refine ⟨(Chg.of_below hb).setCell (.inl (.inl rfl)) _,v,fun y=>w.heap.size<=y∧y<w4.heap.size,A',c',⟨?_,?_,?_,?_⟩,⟨s.1,?_⟩,fun _ e=>.inl e,fun _ e=>.inr e.1⟩
 ·exact h4.row.set 5 _
 ·exact h4.ring.keep fun k e=>bk k fun ek=>s.1 (ek ▸ e)
 ·exact sb.keep (fun k e=>bk k (by omega)) (Nat.le_of_eq sz.symm)
 ·intro y e; rw [sz]; exact e.2
 ·intro y e
  refine ⟨fun f=>?_,by omega⟩
  have:=h.ring.lt y f; omega
end

theorem rSweep1 (p q:Nat) (v lb:Value) (g2 g3:Int) (r:Rg) (G:Nat->Prop) (A:Option Addr) (c:Nat) (L:Ch) (w:World) (h:RoomG w p q v lb g2 g3 r G A c L) (hs:SepR p q v G) (ok:r.Ok) (hL:GoodC L) (hv:L.vers<=1000000) (hn:L.length<=10000) :
  Calls Tryz.prog 66 #[.pointer (some ⟨p,0,none⟩)] w fun e w'=>e=.returned (.int .i64 ((L.vers:Int)-((L.swept (r.floor:Int)).vers:Int)))∧LeftR1 w p q v lb g2 g3 G r (L.swept (r.floor:Int)) w':=by
 have V1:=qh (rVers1 p G A c L w h.c5 h.sl hL)
 have FL:=qh (fun W (b:Below w.heap.size w W)=>rFloor1 p q v lb _ g2 g3 r W (h.below b).row (h.below b).ring ok)
 obtain ⟨f,hf⟩:=nmq ((r.floor:Int))
 rw [<-hf]
 simp only [<-hf] at FL
 have SW:=qh (fun i (hi:i<L.length)=>by
  obtain ⟨bb,o,A',c',e,hb,hg,k0,k1,sv⟩:=h.sl.at hi
  obtain ⟨g1,g2,g3,g4,g5⟩:=hL.get hi
  exact (show ∃ bb o A' c',A=some ⟨bb,o,none⟩∧bb<w.heap.size∧w.cell? ⟨bb,o+i * 2,none⟩=some (.string (L.key i))∧w.cell? ⟨bb,o+i * 2+1,none⟩=some (.slice A' (L.chn i).length c') ∧
   ∀ W,Below w.heap.size w W->Calls Tryz.prog 112 #[.slice A' (L.chn i).length c',.int .i64 f] W fun e w'=>∃ A2 c2,e=.returned (.slice A2 (sweepL (L.chn i) f).length c2)∧SlV w' A2 (sweepL (L.chn i) f)∧(0<(sweepL (L.chn i) f).length->∃ g o,A2=some ⟨g,o,none⟩∧W.heap.size<=g)∧Below W.heap.size W w' from
   ⟨bb,o,A',c',e,hb,k0,k1,fun W b=>rSweep9G (L.chn i) A' c' f W (sv.1.below b) g5 g3⟩))
 have FI:=qh (fun W4 A' c' (hb:Below w.heap.size w W4) (hsl:SlO W4 (fun y=>w.heap.size<=y) A' (L.swept f))=>LeftR1.fresh (c':=c') h hs hb hsl)
 have F5:=qh (fun W (b:Below w.heap.size w W)=>show W.frozen? ⟨p,5,none⟩=false∧W.cell? ⟨p,5,none⟩=some (.slice A L.length c) from ⟨(h.below b).row.frozen 5,(h.below b).c5⟩)
 have GS:=qh (hL.swept f)
 have ST:=qh (fun i (hi:i<L.length)=>swept_succ L f hi)
 have SL:=qh (fun i=>Nat.le_trans (swept_len (L.take i) f) (by rw [List.length_take]; exact Nat.min_le_right _ _))
 have vs:(L.swept f).vers<=L.vers:=by
  unfold Ch.vers Ch.swept
  clear h hs hL V1 FL SW FI F5 GS ST SL hv hn
  induction L with
  | nil=>exact Nat.le_refl _
  | cons x L ih =>
   rw [List.map_cons,List.filter_cons]
   have e1:(sweepL x.2 f).length<=x.2.length:=by unfold sweepL; rw [List.length_drop]; omega
   split
   ·rw [List.map_cons,List.sum_cons,List.map_cons,List.sum_cons]; exact Nat.add_le_add e1 ih
   ·rw [List.map_cons,List.sum_cons]; exact Nat.le_trans ih (Nat.le_add_left _ _)
 obtain ⟨V,hV⟩:=nmq (L.vers)
 obtain ⟨U,hU⟩:=nmq ((L.swept f).vers)
 rw [<-hV] at V1 vs hv ⊢
 rw [<-hU] at vs ⊢
 have HU:=qh hU
 obtain ⟨n,hn2⟩:=nmq (L.length)
 simp only [<-hn2] at SW F5 ST SL
 rw [<-hn2] at hn
 have HN:=qh hn2
 obtain ⟨B,hB⟩:=nmq (w.heap.size)
 have HB:=qh hB
 have c5:=(F5.out w (Below.refl _ _)).2
 obtain ⟨T,hT⟩:=nmq (V-U)
 have iT:(V:Int)-(U:Int)=(T:Int):=by omega
 have tb:T<=1000000:=by omega
 rw [iT]
 clear h hs ok hL hf hV hU hn2 hB vs hv hT
 go_enter Tryz.func66,Tryz.ntmps66
 go_wp2_with fail
 refine V1.out.mono ?_
 rintro e w1 ⟨rfl,rfl⟩
 go_wp2_with fail
 have O0:=qh (OwnZ.made w1 (Nat.le_refl _))
 have B0:=qh ((Below.refl w1.heap.size w1).alloc (Nat.le_refl _) (.cells #[] 139))
 go_loopw [4,5] (fun vo vi wr=>∃ (i:Nat) (v:Value) (zs:Zs),v=vo∧vi=.int .i64 i∧i<=n∧Hid (OwnZ wr w1.heap.size v zs)∧Hid (ZL wr (Gn (fun _=>False) w1.heap.size v) zs (Ch.swept (L.take i) f))∧Hid (Below w1.heap.size w1 wr)) (fun _ vi _=>n-(intOf vi).toNat)
 case atStart=>exact ⟨0,_,[],rfl,rfl,Nat.zero_le _,O0,qh (by rw [List.take_zero]; exact ZL.nil _ _),B0⟩
 case round =>
  obtain ⟨i,v,zs,rfl,rfl,hi,HO,HZ,HW⟩:=hrel
  by_cases z:i<n
  ·have h5:=(F5.out _ HW.out).2
   obtain ⟨b,o,A',c',rfl,hb,k0,k1,CS⟩:=SW.out i z
   have K0:=qh k0
   have K1:=qh k1
   have CS:=qh CS
   have ET:=qh (ST.out i z)
   have LN:=qh (show zs.length<=1000000 by rw [HZ.out.1]; have:=SL.out i; omega)
   obtain ⟨m,hm⟩:=nmq ((L.chn i).length)
   rw [<-hm] at K1 CS k1
   obtain ⟨D,hD⟩:=nmq (sweepL (L.chn i) f)
   simp only [<-hD] at CS ET
   obtain ⟨d,hd⟩:=nmq (D.length)
   simp only [<-hd] at CS ET
   obtain ⟨x,hx⟩:=nmq (L.key i)
   rw [<-hx] at K0 k0 ET
   have HD:=qh hd
   have i0:(0:Int)<=(i:Int):=by omega
   have i1:(i:Int)<(n:Int):=by omega
   clear hm hD hd hx k0 k1
   go_wp2_with fail
   have W0:=qh (below_drew HW.out)
   refine wp_region_held_drew (S:=(Below w1.heap.size w1)) (by kernel_rfl) (W0.out) (fun gH=>?_)
   refine rgT 0 (v:=?v1) ?y1 gH ?_
   case y1=>(intro v hSw; have y0:=(F5.out _ hSw).2; have y1:=(hSw.cell (p:=⟨b,o+i * 2+1,none⟩) (block_lt_of_cell K1.out)).trans K1.out; go_simp<;>rfl)
   refine rgT 1 (v:=?v2) ?y2 gH ?_
   case y2=>(intro v hSw; have y0:=(F5.out _ hSw).2; have y1:=(hSw.cell (p:=⟨b,o+i * 2+1,none⟩) (block_lt_of_cell K1.out)).trans K1.out; go_simp<;>rfl)
   refine rgT 2 (v:=?v3) ?y3 gH ?_
   case y3=>(intro v hSw; have y0:=(F5.out _ hSw).2; have y1:=(hSw.cell (p:=⟨b,o+i * 2+1,none⟩) (block_lt_of_cell K1.out)).trans K1.out; go_simp<;>rfl)
   try simp only [putS]
   refine rgT 3 (v:=?v4) ?y4 gH ?_
   case y4=>(intro v hSw; have y0:=(F5.out _ hSw).2; have y1:=(hSw.cell (p:=⟨b,o+i * 2+1,none⟩) (block_lt_of_cell K1.out)).trans K1.out; go_simp<;>rfl)
   refine rgT 4 (v:=?v5) ?y5 gH ?_
   case y5=>(intro v hSw; have y0:=(F5.out _ hSw).2; have y1:=(hSw.cell (p:=⟨b,o+i * 2+1,none⟩) (block_lt_of_cell K1.out)).trans K1.out; go_simp<;>rfl)
   refine rgT 5 (v:=?v6) ?y6 gH ?_
   case y6=>(intro v hSw; have y0:=(F5.out _ hSw).2; have y1:=(hSw.cell (p:=⟨b,o+i * 2+1,none⟩) (block_lt_of_cell K1.out)).trans K1.out; go_simp<;>rfl)
   try simp only [putS]
   refine rgT 6 (v:=?v7) ?y7 gH ?_
   case y7=>(intro v hSw; have y0:=(F5.out _ hSw).2; have y1:=(hSw.cell (p:=⟨b,o+i * 2+1,none⟩) (block_lt_of_cell K1.out)).trans K1.out; go_simp<;>rfl)
   refine rgT 7 (v:=?v8) ?y8 gH ?_
   case y8=>(intro v hSw; have y0:=(F5.out _ hSw).2; have y1:=(hSw.cell (p:=⟨b,o+i * 2+1,none⟩) (block_lt_of_cell K1.out)).trans K1.out; go_simp<;>rfl)
   refine rgT 8 (v:=?v9) ?y9 gH ?_
   case y9=>(intro v hSw; have y0:=(F5.out _ hSw).2; have y1:=(hSw.cell (p:=⟨b,o+i * 2+1,none⟩) (block_lt_of_cell K1.out)).trans K1.out; go_simp<;>rfl)
   try simp only [putS]
   refine rgO 9 fun K hK=>?_
   go_simp
   refine (FL.out _ W0.out).mono ?_
   rintro e w2 ⟨rfl,k2,hk⟩
   have W2:=qh (show Below w1.heap.size w1 w2 by rw [hk]; exact below_drewN W0.out k2)
   have R2:=qh (show Below wr.heap.size wr w2 by rw [hk]; exact below_drewN (below_drew (Below.refl _ _)) k2)
   clear hk
   refine hK.out _ _ (W2.out) (fun gH=>?_)
   clear hK K
   try simp only [putS]
   refine rgO 10 fun K hK=>?_
   go_simp
   refine (CS.out _ W2.out).mono ?_
   rintro e w3 ⟨A2,c2,rfl,sv,loc,hb3⟩
   have hb3':=W2.out.trans (hb3.mono W2.out.size)
   have W3:=qh hb3'
   have R3:=qh (R2.out.trans (hb3.mono R2.out.size))
   have SV:=qh sv
   have LOC:=qh loc
   clear sv loc hb3
   refine hK.out _ _ (hb3') (fun gH=>?_)
   clear hK K
   refine rgT 11 (v:=?v10) ?y10 gH ?_
   case y10=>(intro v hSw; have y0:=(F5.out _ hSw).2; have y1:=(hSw.cell (p:=⟨b,o+i * 2+1,none⟩) (block_lt_of_cell K1.out)).trans K1.out; go_simp<;>rfl)
   try simp only [putS]
   refine rgD ?_
   clear h5 W0 W2 hb3' CS
   by_cases dz:d=0
   ·subst dz
    have e:=ET.out
    rw [if_pos rfl] at e
    have ET:=qh e
    have O3:=qh (HO.out.below R3.out)
    have Z3:=qh (HZ.out.below R3.out)
    clear e
    go_wp2_with fail
    go_roundw
    case rel=>exact ⟨i+1,v,zs,rfl,by go_num,by omega,O3,by rw [ET.out]; exact Z3,W3⟩
    case measure=>simp [intOf]; omega
   ·have e:=ET.out
    rw [if_neg dz] at e
    have ET:=qh e
    have dp:0<d:=Nat.pos_of_ne_zero dz
    have O4:=qh ((HO.out.below R3.out).alloc (.cells #[.string x,.slice A2 d c2] 139))
    have ra:Below w3.heap.size w3 (w3.alloc (.cells #[.string x,.slice A2 d c2] 139)):=(Below.refl _ _).alloc (Nat.le_refl _) _
    have s4:SlVG (w3.alloc (.cells #[.string x,.slice A2 d c2] 139)) (Gn (fun _=>False) w1.heap.size v) A2 D:=⟨SV.out.below ra,fun hp=>by
     obtain ⟨g,o,e,hg⟩:=LOC.out (by rw [HD.out]; exact hp)
     have h2:=R2.out.size
     have h1:=HW.out.size
     refine ⟨g,o,e,.inr ⟨by omega,fun e2=>?_⟩⟩
     have:=(HO.out.lt g e2).2
     omega⟩
    have z4:=((HZ.out.below R3.out).below ra).snoc (k:=x) (c:=c2) s4
    rw [<-HD.out] at z4
    have Z4:=qh z4
    have W4:=qh (W3.out.alloc W3.out.size (.cells #[.string x,.slice A2 d c2] 139))
    have HV:=qh (fun k (hk:v.ownBlock=some k)=>(HO.out.lt k hk).1)
    have k0:=(W3.out.cell (p:=⟨b,o+i * 2,none⟩) (block_lt_of_cell K0.out)).trans K0.out
    have h5:=(F5.out _ W3.out).2
    clear e ra s4 z4
    go_wp2_with (at_builtin; refine wp_putZ rfl (.tmp 33) (.tmp 44) rfl v zs rfl O4.out W4.out.size w3.heap.size (x,.slice A2 d c2) rfl rfl (fun j _=>(RowAt.new w3 [.string x,.slice A2 d c2] _).cell j) LN.out ?_; intro v' w6 ho hg h4; have O6:=qh ho; have Z6:=qh (Z4.out.grown hg h4 (fun _ f=>f.elim) HV.out); have W6:=qh (W4.out.grown hg W4.out.size HV.out); clear ho hg h4)
    go_roundw
    case rel=>exact ⟨i+1,v',zs++[(x,.slice A2 d c2)],rfl,by go_num,by omega,O6,by rw [ET.out]; exact Z6,W6⟩
    case measure=>simp [intOf]; omega
  ·obtain rfl:i=n:=by omega
   have hz:=HZ.out
   rw [HN.out,List.take_length] at hz
   have h5:=F5.out _ HW.out
   obtain ⟨A',c',hv',sl'⟩:=HO.out.sl (hz.mono (G':=fun y=>w1.heap.size<=y) (fun k e=>by rcases e with e | e; exact e.elim; exact e.1)) (fun k e=>e)
   obtain ⟨d,hd⟩:=nmq ((L.swept f).length)
   have FW:=FI.out wr A' c' HW.out sl'
   rw [<-hd] at hv' FW
   subst hv'
   have f5:=h5.1
   have h5:=h5.2
   obtain ⟨w5,hw5⟩:=nmq (wr.setCell ⟨p,5,none⟩ (.slice A' d c'))
   rw [<-hw5] at FW
   obtain ⟨_,v5,G5,A5,c5',hr5,_⟩:=id FW
   have V2:=qh (rVers1 p G5 A5 c5' (L.swept f) w5 hr5.c5 hr5.sl GS.out)
   rw [<-HU.out] at V2
   have FW:=qh FW
   have H5:=qh hw5
   clear hz sl' hd hr5 hw5
   go_wp2_with fail
   rw [<-H5.out]
   refine V2.out.mono ?_
   rintro e w6 ⟨rfl,rfl⟩
   go_wp2_with fail
   go_ret
   exact ⟨rfl,FW.out⟩

end Go.Proofs.YtbfgpdgiaclphaaGreat

namespace Go.Proofs.YtbfgpdgiaclphaaGreat
open Go.RowKit

theorem infoEn:(Tryz.prog.info? 67).map (fun i=>(i.zero,i.size,i.bytes))=some (some En.Z.v,5,56):=by kernel_rfl
def ecs (l:List En):List Value:=l.flatMap En.cs
def OwnEn (w:World) (B:Nat) (v:Value) (l:List En):Prop:=w.ownsRow B 67 5 v l.length (ecs l)
section
variable {w w':World} {B:Nat} {v:Value} {l:List En}
theorem OwnEn.sl (h:OwnEn w B v l):∃ A c,v=.slice A l.length c∧SlEn w A l:=by
 have h1:=h
 unfold OwnEn at h1
 rcases h.2 with ⟨rfl,h0⟩ | ⟨g,cap,cur,rfl,hB,hg,_⟩
 ·exact ⟨none,0,by rw [h0],fun hp=>by omega⟩
 ·refine ⟨_,cap,rfl,fun hp=>⟨g,0,rfl,(Array.getElem?_eq_some_iff.1 hg).1,fun j hj=>?_⟩⟩
  have at_:∀ i,i<5->w.cell? ⟨g,j * 5+i,none⟩=(l.getD j En.Z).cs[i]?:=fun i hi=>by
   rw [h1.cellAt (j * 5+i) (by omega),List.getD_eq_getElem?_getD,List.getElem?_eq_getElem hj]
   exact flat_at (f:=En.cs) (n:=5) (fun _=>rfl) l j i hj hi
  rw [Nat.zero_add]
  exact ⟨at_ 0 (by decide),at_ 1 (by decide),at_ 2 (by decide),at_ 3 (by decide),at_ 4 (by decide)⟩
theorem OwnEn.below (h:OwnEn w B v l) (hb:Below w.heap.size w w'):OwnEn w' B v l:=by
 rcases h with ⟨h1,h2⟩
 refine ⟨h1,?_⟩
 rcases h2 with ⟨rfl,h0⟩ | ⟨g,cap,cur,rfl,hB,hg,r⟩
 ·exact .inl ⟨rfl,h0⟩
 ·refine .inr ⟨g,cap,cur,rfl,hB,?_,r⟩
  have hl:g<w.heap.size:=(Array.getElem?_eq_some_iff.1 hg).1
  rw [hb.block g hl]; exact hg
theorem OwnEn.alloc (h:OwnEn w B v l) (o:Obj):OwnEn (w.alloc o) B v l:=World.ownsRow.alloc h o
theorem OwnEn.lt (h:OwnEn w B v l):∀ k,v.ownBlock=some k->B<=k∧k<w.heap.size:=World.ownsRow.lt h
theorem OwnEn.made (w:World) (hB:B<=w.heap.size):OwnEn (w.alloc (.cells #[] 67)) B (.slice (some ⟨w.heap.size,0,none⟩) 0 0) [] :=
 World.ownsRow_made w #[] 0 hB (Nat.zero_le _) (by simp)
end
theorem step_putE {ops:Array Oper} {o:Oper} {a:Act} {w:World} {K:Act->World->Prop} {Q:Exit->Act->World->Prop} {E:Prop}
  (hg:o.guard=none) (s x:Operand) (hop:o.op=.call { callee:=.builtin .append,args:=#[s,x],argTypes:=#[63,63] })
  (B:Nat) (v:Value) (zs:List En) (y:En) (hs:a.eval s=v) (hown:OwnEn w B v zs) (b:Nat) (hx:a.eval x=.slice (some ⟨b,0,none⟩) 1 1) (hc:∀ i,i<5->w.cell? ⟨b,i,none⟩=y.cs[i]?)
  (hl:zs.length<=1000000) (hB:B<=w.heap.size)
  (hK:∀ v' w',OwnEn w' B v' (zs++[y])->w.grownBy w' v.ownBlock->Below B w w'->K (a.put o.dst v') w') :
  if Region.wanted o (yielded ops a.tmps)=true then Oper.wp Tryz.prog o a w K Q else E:=by
 have hw:Region.wanted o (yielded ops a.tmps)=true:=by simp [Region.wanted,hg]
 rw [if_pos hw]
 obtain ⟨i0,hi,hz0,hz1,hz2⟩:=info_parts infoEn
 have key:∃ v' w',(Builtin.append_ #[63,63] o.type #[v,.slice (some ⟨b,0,none⟩) 1 1]).run Tryz.prog w=.ok v' w'∧OwnEn w' B v' (zs++[y])∧w.grownBy w' v.ownBlock∧Below B w w':=by
  obtain ⟨v',w',hr,h2,h3,_,_⟩:=run_append_own_at (P:=Tryz.prog) w B 63 o.type 67 i0 _ 5 56 Tryz.underlying63 hi hz0 hz1 hz2 rfl (by decide) v zs.length _ hown ⟨b,0,none⟩ 1 1 y.cs rfl
   (fun j u hj=>by
    have hj5:j<5:=(List.getElem?_eq_some_iff.1 hj).1
    rw [show (⟨b,0,none⟩:Addr).add j=⟨b,j,none⟩ by simp [Addr.add]; omega,hc j hj5,hj]) (fun u hu=>by
    unfold En.cs at hu
    simp at hu
    rcases hu with rfl | rfl | rfl | rfl | rfl<;>rfl) (by unfold maxLen; omega) (by omega) hB
  refine ⟨v',w',hr,?_,h3,(Below.refl _ _).grown h3 hB (fun k hk=>(hown.lt k hk).1)⟩
  have e:ecs zs++y.cs=ecs (zs++[y]):=by unfold ecs; simp
  rw [e] at h2
  unfold OwnEn
  rw [List.length_append]
  exact h2
 obtain ⟨v',w',hr,h2,h4,h3⟩:=key
 unfold Oper.wp execOp
 simp only [hop,resolve,invoke,builtin,Sem.run_bind,Sem.run_pure,Result.andThen_ok,List.map_toArray,List.map_cons,List.map_nil,hs,hx,hr]
 exact hK _ _ h2 h4 h3

theorem ents_succ (L:Ch) (s:Int) {i:Nat} (hi:i<L.length):Ch.ents (L.take (i+1)) s=if atOk (L.chn i) s=true then Ch.ents (L.take i) s++[⟨L.key i,(atL (L.chn i) s).seq,(atL (L.chn i) s).val⟩] else Ch.ents (L.take i) s:=by
 unfold Ch.ents
 rw [List.take_succ_eq_append_getElem hi,List.filterMap_append,Ch.getE L hi]
 cases z:atOk (L.chn i) s with
 | true=>rw [if_pos rfl]; simp [z]
 | false=>rw [if_neg (by simp)]; simp [z]
theorem ents_len (L:Ch) (s:Int):(L.ents s).length<=L.length:=by unfold Ch.ents; exact List.length_filterMap_le _ _
theorem verC {w:World} {g:Nat} {x:Ver} {t:TypeId} (h:RowAt w g x.cs t):w.cell? ⟨g,0,none⟩=some (.int .i64 x.seq)∧w.cell? ⟨g,2,none⟩=some (.bool x.val.num)∧w.cell? ⟨g,3,none⟩=some (.string x.val.txt)∧w.cell? ⟨g,4,none⟩=some (.int .u64 (x.val.bits:Int)) :=
 ⟨h.cell 0,h.cell 2,h.cell 3,h.cell 4⟩
theorem zeroG {w:World} {g:Nat} {t:TypeId} (h:RowAt w g Ver.Z.cs t):(w.frozen? ⟨g,0,none⟩=false∧w.frozen? ⟨g,1,none⟩=false∧w.frozen? ⟨g,2,none⟩=false∧w.frozen? ⟨g,3,none⟩=false∧w.frozen? ⟨g,4,none⟩=false) ∧
  w.cell? ⟨g,0,none⟩=some (.int .i64 0)∧w.cell? ⟨g,1,none⟩=some (.bool false)∧w.cell? ⟨g,2,none⟩=some (.bool false)∧w.cell? ⟨g,3,none⟩=some (.string ⟨#[]⟩)∧w.cell? ⟨g,4,none⟩=some (.int .u64 0) :=
 ⟨⟨h.frozen 0,h.frozen 1,h.frozen 2,h.frozen 3,h.frozen 4⟩,h.cell 0,h.cell 1,h.cell 2,h.cell 3,h.cell 4⟩

theorem rEntries1 (p q:Nat) (v lb:Value) (g2 g3:Int) (r:Rg) (G:Nat->Prop) (A:Option Addr) (c:Nat) (L:Ch) (w:World) (h:RoomG w p q v lb g2 g3 r G A c L) (ok:r.Ok) (hL:GoodC L) (hn:L.length<=10000) :
  Calls Tryz.prog 75 #[.pointer (some ⟨p,0,none⟩)] w fun e w'=>∃ A' c',e=.returned (.slice A' (L.ents (r.seq:Int)).length c')∧SlEn w' A' (L.ents (r.seq:Int))∧Below w.heap.size w w':=by
 have SQ:=qh (fun W (b:Below w.heap.size w W)=>rSeq1 p q v lb _ _ g2 g3 r W (h.below b).row (h.below b).ring ok)
 obtain ⟨s,hs⟩:=nmq ((r.seq:Int))
 rw [<-hs]
 simp only [<-hs] at SQ
 have SW:=qh (fun i (hi:i<L.length)=>by
  obtain ⟨bb,o,A',c',e,hb,hg,k0,k1,sv⟩:=h.sl.at hi
  obtain ⟨g1,g2,g3,g4,g5⟩:=hL.get hi
  exact (show ∃ bb o A' c',A=some ⟨bb,o,none⟩∧w.cell? ⟨bb,o+i * 2,none⟩=some (.string (L.key i))∧w.cell? ⟨bb,o+i * 2+1,none⟩=some (.slice A' (L.chn i).length c') ∧
   ∀ W,Below w.heap.size w W->Calls Tryz.prog 68 #[.slice A' (L.chn i).length c',.int .i64 s] W fun e w'=>e=.returned (.tuple #[(atL (L.chn i) s).v,.bool (atOk (L.chn i) s)])∧Below W.heap.size W w' from
   ⟨bb,o,A',c',e,k0,k1,fun W b=>rAt9 (L.chn i) A' c' s W (sv.1.below b) g5 g3⟩))
 have F5:=qh (fun W (b:Below w.heap.size w W)=>(h.below b).c5)
 have ST:=qh (fun i (hi:i<L.length)=>ents_succ L s hi)
 have SL:=qh (fun i=>Nat.le_trans (ents_len (L.take i) s) (by rw [List.length_take]; exact Nat.min_le_right _ _))
 obtain ⟨n,hn2⟩:=nmq (L.length)
 simp only [<-hn2] at SW F5 ST SL
 rw [<-hn2] at hn
 have HN:=qh hn2
 clear h ok hL hs hn2
 have O0:=qh (OwnEn.made w (Nat.le_refl _))
 have B0:=qh ((Below.refl w.heap.size w).alloc (Nat.le_refl _) (.cells #[] 67))
 go_enter Tryz.func75,Tryz.ntmps75
 go_wp2_with fail
 go_loopw [3,4] (fun vo vi wr=>∃ (i:Nat) (v:Value),v=vo∧vi=.int .i64 i∧i<=n∧Hid (OwnEn wr w.heap.size v (Ch.ents (L.take i) s))∧Hid (Below w.heap.size w wr)) (fun _ vi _=>n-(intOf vi).toNat)
 case atStart=>exact ⟨0,_,rfl,rfl,Nat.zero_le _,qh (by rw [List.take_zero]; exact O0.out),B0⟩
 case round =>
  obtain ⟨i,v,rfl,rfl,hi,HO,HW⟩:=hrel
  by_cases z:i<n
  ·have h5:=F5.out _ HW.out
   obtain ⟨b,o,A',c',rfl,k0,k1,CS⟩:=SW.out i z
   have K0:=qh k0
   have K1:=qh k1
   have CS:=qh CS
   have ET:=qh (ST.out i z)
   have LN:=qh (show (Ch.ents (L.take i) s).length<=1000000 by have:=SL.out i; omega)
   obtain ⟨m,hm⟩:=nmq ((L.chn i).length)
   rw [<-hm] at K1 CS k1
   obtain ⟨y,hy⟩:=nmq (atL (L.chn i) s)
   obtain ⟨Y,hY⟩:=nmq (atOk (L.chn i) s)
   simp only [<-hy,<-hY] at CS ET
   have CS:Hid (∀ W,Below w.heap.size w W->Calls Tryz.prog 68 #[.slice A' m c',.int .i64 s] W fun e w'=>e=.returned (.tuple #[.agg #[.int .i64 y.seq,.bool y.gone,.bool y.val.num,.string y.val.txt,.int .u64 (y.val.bits:Int)],.bool Y])∧Below W.heap.size W w'):=CS
   obtain ⟨x,hx⟩:=nmq (L.key i)
   rw [<-hx] at K0 k0 ET
   have i0:(0:Int)<=(i:Int):=by omega
   have i1:(i:Int)<(n:Int):=by omega
   clear hm hy hY hx k0 k1
   go_wp2_with fail
   have W0:=qh (below_drew HW.out)
   have R0:=qh (below_drew (Below.refl wr.heap.size wr))
   refine wp_region_held_drew (S:=(Below w.heap.size w)) (by kernel_rfl) (W0.out) (fun gH=>?_)
   refine rgT 0 (v:=?v1) ?y1 gH ?_
   case y1=>(intro v hSw; have y0:=F5.out _ hSw; have y1:=(hSw.cell (p:=⟨b,o+i * 2+1,none⟩) (block_lt_of_cell K1.out)).trans K1.out; go_simp<;>rfl)
   refine rgT 1 (v:=?v2) ?y2 gH ?_
   case y2=>(intro v hSw; have y0:=F5.out _ hSw; have y1:=(hSw.cell (p:=⟨b,o+i * 2+1,none⟩) (block_lt_of_cell K1.out)).trans K1.out; go_simp<;>rfl)
   refine rgT 2 (v:=?v3) ?y3 gH ?_
   case y3=>(intro v hSw; have y0:=F5.out _ hSw; have y1:=(hSw.cell (p:=⟨b,o+i * 2+1,none⟩) (block_lt_of_cell K1.out)).trans K1.out; go_simp<;>rfl)
   try simp only [putS]
   refine rgT 3 (v:=?v4) ?y4 gH ?_
   case y4=>(intro v hSw; have y0:=F5.out _ hSw; have y1:=(hSw.cell (p:=⟨b,o+i * 2+1,none⟩) (block_lt_of_cell K1.out)).trans K1.out; go_simp<;>rfl)
   refine rgT 4 (v:=?v5) ?y5 gH ?_
   case y5=>(intro v hSw; have y0:=F5.out _ hSw; have y1:=(hSw.cell (p:=⟨b,o+i * 2+1,none⟩) (block_lt_of_cell K1.out)).trans K1.out; go_simp<;>rfl)
   refine rgT 5 (v:=?v6) ?y6 gH ?_
   case y6=>(intro v hSw; have y0:=F5.out _ hSw; have y1:=(hSw.cell (p:=⟨b,o+i * 2+1,none⟩) (block_lt_of_cell K1.out)).trans K1.out; go_simp<;>rfl)
   try simp only [putS]
   refine rgT 6 (v:=?v7) ?y7 gH ?_
   case y7=>(intro v hSw; have y0:=F5.out _ hSw; have y1:=(hSw.cell (p:=⟨b,o+i * 2+1,none⟩) (block_lt_of_cell K1.out)).trans K1.out; go_simp<;>rfl)
   refine rgT 7 (v:=?v8) ?y8 gH ?_
   case y8=>(intro v hSw; have y0:=F5.out _ hSw; have y1:=(hSw.cell (p:=⟨b,o+i * 2+1,none⟩) (block_lt_of_cell K1.out)).trans K1.out; go_simp<;>rfl)
   refine rgT 8 (v:=?v9) ?y9 gH ?_
   case y9=>(intro v hSw; have y0:=F5.out _ hSw; have y1:=(hSw.cell (p:=⟨b,o+i * 2+1,none⟩) (block_lt_of_cell K1.out)).trans K1.out; go_simp<;>rfl)
   try simp only [putS]
   refine rgnTwo 9 14 rfl rfl (by kernel_rfl) (fun K hK=>?_) (fun K hK=>?_)
   ·go_simp
    refine (SQ.out _ W0.out).mono ?_
    rintro e w2 ⟨rfl,k2,hk⟩
    have W2:=qh (show Below w.heap.size w w2 by rw [hk]; exact below_drewN W0.out k2)
    have R2:=qh (show Below wr.heap.size wr w2 by rw [hk]; exact below_drewN R0.out k2)
    refine hK.out _ _ W2.out (fun gH=>?_)
    clear hK K hk
    try simp only [putS]
    refine rgnTwo 10 14 rfl rfl (by kernel_rfl) (fun K hK=>?_) (fun K hK=>?_)
    ·go_simp
     refine (CS.out _ W2.out).mono ?_
     rintro e w3 ⟨rfl,hb3⟩
     have W3:=qh (W2.out.trans (hb3.mono W2.out.size))
     have R3:=qh (R2.out.trans (hb3.mono R2.out.size))
     refine hK.out _ _ W3.out (fun gH=>?_)
     clear hK K hb3
     try simp only [putS]
     have RQ:=qh (show RowAt (w3.alloc (.cells #[.int .i64 y.seq,.bool y.gone,.bool y.val.num,.string y.val.txt,.int .u64 (y.val.bits:Int)] 132)) w3.heap.size y.cs 132 from RowAt.new w3 y.cs 132)
     have WQ:=qh (W3.out.alloc W3.out.size (.cells #[.int .i64 y.seq,.bool y.gone,.bool y.val.num,.string y.val.txt,.int .u64 (y.val.bits:Int)] 132))
     have RR:=qh (R3.out.alloc R3.out.size (.cells #[.int .i64 y.seq,.bool y.gone,.bool y.val.num,.string y.val.txt,.int .u64 (y.val.bits:Int)] 132))
     refine rgT 11 (v:=?v10) ?y10 gH ?_
     case y10=>(intro v hSw; have y0:=F5.out _ hSw; have y1:=(hSw.cell (p:=⟨b,o+i * 2+1,none⟩) (block_lt_of_cell K1.out)).trans K1.out; go_simp<;>rfl)
     refine rgT 12 (v:=?v11) ?y11 gH ?_
     case y11=>(intro v hSw; have y0:=F5.out _ hSw; have y1:=(hSw.cell (p:=⟨b,o+i * 2+1,none⟩) (block_lt_of_cell K1.out)).trans K1.out; go_simp<;>rfl)
     refine rgT 13 (v:=?v12) ?y12 gH ?_
     case y12=>(intro v hSw; have y0:=F5.out _ hSw; have y1:=(hSw.cell (p:=⟨b,o+i * 2+1,none⟩) (block_lt_of_cell K1.out)).trans K1.out; go_simp<;>rfl)
     try simp only [putS]
     refine rgO 14 fun K hK=>?_
     go_simp
     refine hK.out _ _ (W3.out.alloc W3.out.size _) (fun gH=>?_)
     clear hK K
     try simp only [putS]
     refine rgO 15 fun K hK=>?_
     go_simp
     refine hK.out _ _ (WQ.out) (fun gH=>?_)
     clear hK K
     refine rgT 16 (v:=?v13) ?y13 gH ?_
     case y13=>(intro v hSw; have y0:=F5.out _ hSw; have y1:=(hSw.cell (p:=⟨b,o+i * 2+1,none⟩) (block_lt_of_cell K1.out)).trans K1.out; go_simp<;>rfl)
     try simp only [putS]
     refine rgD ?_
     have QB:=qh (show wr.heap.size<=w3.heap.size from R3.out.size)
     clear W3 R3
     generalize w3.alloc (.cells #[.int .i64 y.seq,.bool y.gone,.bool y.val.num,.string y.val.txt,.int .u64 (y.val.bits:Int)] 132)=W at RQ WQ RR ⊢
     generalize w3.heap.size=q at RQ QB ⊢
     have HOq:=qh (HO.out.below RR.out)
     have h5:=F5.out _ WQ.out
     have k0:=(WQ.out.cell (p:=⟨b,o+i * 2,none⟩) (block_lt_of_cell K0.out)).trans K0.out
     have VC:=qh (verC RQ.out)
     cases Y with
     | false =>
      have e:=ET.out
      rw [if_neg (by simp)] at e
      have ET:=qh e
      clear e
      go_wp2_with fail
      go_roundw
      case rel=>exact ⟨i+1,v,rfl,by go_num,by omega,by rw [ET.out]; exact HOq,WQ⟩
      case measure=>simp [intOf]; omega
     | true =>
      have e:=ET.out
      rw [if_pos rfl] at e
      have ET:=qh e
      have H5:=qh h5
      have K9:=qh k0
      clear e
      go_wp2_with fail
      clear h5 k0
      refine wp_region_held_drew (S:=(fun w'=>w'.cell? ⟨p,5,none⟩=some (.slice (some ⟨b,o,none⟩) n c)∧w'.cell? ⟨b,o+i * 2,none⟩=some (.string x)∧w'.cell? ⟨q,0,none⟩=some (.int .i64 y.seq)∧w'.cell? ⟨q,2,none⟩=some (.bool y.val.num)∧w'.cell? ⟨q,3,none⟩=some (.string y.val.txt)∧w'.cell? ⟨q,4,none⟩=some (.int .u64 (y.val.bits:Int)))) (by kernel_rfl) (⟨H5.out,K9.out,VC.out⟩) (fun gH=>?_)
      refine rgT 0 (v:=?v14) ?y14 gH ?_
      case y14=>(intro v hSw; go_simp<;>rfl)
      refine rgT 1 (v:=?v15) ?y15 gH ?_
      case y15=>(intro v hSw; go_simp<;>rfl)
      refine rgT 2 (v:=?v16) ?y16 gH ?_
      case y16=>(intro v hSw; go_simp<;>rfl)
      try simp only [putS]
      refine rgT 3 (v:=?v17) ?y17 gH ?_
      case y17=>(intro v hSw; go_simp<;>rfl)
      refine rgT 4 (v:=?v18) ?y18 gH ?_
      case y18=>(intro v hSw; go_simp<;>rfl)
      refine rgT 5 (v:=?v19) ?y19 gH ?_
      case y19=>(intro v hSw; go_simp<;>rfl)
      try simp only [putS]
      refine rgT 6 (v:=?v20) ?y20 gH ?_
      case y20=>(intro v hSw; go_simp<;>rfl)
      refine rgT 7 (v:=?v21) ?y21 gH ?_
      case y21=>(intro v hSw; go_simp<;>rfl)
      refine rgT 8 (v:=?v22) ?y22 gH ?_
      case y22=>(intro v hSw; go_simp<;>rfl)
      try simp only [putS]
      refine rgT 9 (v:=?v23) ?y23 gH ?_
      case y23=>(intro v hSw; go_simp<;>rfl)
      refine rgT 10 (v:=?v24) ?y24 gH ?_
      case y24=>(intro v hSw; go_simp<;>rfl)
      refine rgT 11 (v:=?v25) ?y25 gH ?_
      case y25=>(intro v hSw; go_simp<;>rfl)
      try simp only [putS]
      refine rgT 12 (v:=?v26) ?y26 gH ?_
      case y26=>(intro v hSw; go_simp<;>rfl)
      refine rgT 13 (v:=?v27) ?y27 gH ?_
      case y27=>(intro v hSw; go_simp<;>rfl)
      try simp only [putS]
      have WA:=qh (WQ.out.alloc WQ.out.size (.cells #[.string x,.int .i64 y.seq,.bool y.val.num,.string y.val.txt,.int .u64 (y.val.bits:Int)] 67))
      have RA:=qh (RQ.out.alloc (.cells #[.string x,.int .i64 y.seq,.bool y.val.num,.string y.val.txt,.int .u64 (y.val.bits:Int)] 67))
      have HA:=qh (show _∧_∧_ from ⟨F5.out _ WA.out,(WA.out.cell (p:=⟨b,o+i * 2,none⟩) (block_lt_of_cell K0.out)).trans K0.out,verC RA.out⟩)
      have OA:=qh (HOq.out.alloc (.cells #[.string x,.int .i64 y.seq,.bool y.val.num,.string y.val.txt,.int .u64 (y.val.bits:Int)] 67))
      refine rgO 14 fun K hK=>?_
      go_simp
      refine hK.out _ _ (HA.out) (fun gH=>?_)
      clear hK K
      try simp only [putS]
      refine rgO 15 fun K hK=>?_
      refine step_putE rfl (.tmp 32) (.tmp 46) rfl w.heap.size v _ ⟨x,y.seq,y.val⟩ rfl OA.out W.heap.size rfl (fun j _=>(RowAt.new W (En.cs ⟨x,y.seq,y.val⟩) _).cell j) LN.out WA.out.size ?_
      intro v' w7 ho hgr hb7
      have W7:=qh ((below_drew WA.out).trans hb7)
      have O7:=qh ho
      have R7:=qh (show RowAt w7 q y.cs 132 from (hgr.block q RA.out.lt (fun e=>by
       have h1:=(HO.out.lt q e.symm).2
       have h2:=QB.out
       omega)).trans RA.out)
      clear ho hgr hb7
      refine hK.out _ _ ⟨F5.out _ W7.out,(W7.out.cell (p:=⟨b,o+i * 2,none⟩) (block_lt_of_cell K0.out)).trans K0.out,verC R7.out⟩ (fun gH=>?_)
      clear hK K
      refine rgT 16 (v:=?v28) ?y28 gH ?_
      case y28=>(intro v hSw; go_simp<;>rfl)
      try simp only [putS]
      refine rgD ?_
      go_wp2_with fail
      go_roundw
      case rel=>exact ⟨i+1,v',rfl,by go_num,by omega,by rw [ET.out]; exact O7,W7⟩
      case measure=>simp [intOf]; omega
    ·go_simp
     have r3:=RowAt.new w2 Ver.Z.cs 132
     have W3:=qh (W2.out.alloc W2.out.size (.cells #[.int .i64 0,.bool false,.bool false,.string ⟨#[]⟩,.int .u64 0] 132))
     have R3:=qh (R2.out.alloc R2.out.size (.cells #[.int .i64 0,.bool false,.bool false,.string ⟨#[]⟩,.int .u64 0] 132))
     refine hK.out _ _ W3.out (fun gH=>?_)
     clear hK K
     try simp only [putS]
     refine rgO 10 fun K hK=>?_
     go_simp
     refine (CS.out _ W3.out).mono ?_
     rintro e w4 ⟨rfl,hb4⟩
     have W4:=qh (W3.out.trans (hb4.mono W3.out.size))
     have R4:=qh (R3.out.trans (hb4.mono R3.out.size))
     have RZ:=qh (show RowAt w4 w2.heap.size Ver.Z.cs 132 from r3.below hb4)
     refine hK.out _ _ (W4.out) (fun gH=>?_)
     clear hK K
     try simp only [putS]
     obtain ⟨q,hq⟩:=nmq (w2.heap.size)
     have QB:=qh (show wr.heap.size<=q by rw [hq]; exact R2.out.size)
     rw [<-hq] at RZ ⊢
     clear hb4 r3 W3 R3 hq
     have F4:=zeroG RZ.out
     obtain ⟨⟨f0,f1,f2,f3,f4⟩,z0,z1,z2,z3,z4⟩:=F4
     have RQ:=qh (show RowAt (((((w4.setCell ⟨q,0,none⟩ (.int .i64 y.seq)).setCell ⟨q,1,none⟩ (.bool y.gone)).setCell ⟨q,2,none⟩ (.bool y.val.num)).setCell ⟨q,3,none⟩ (.string y.val.txt)).setCell ⟨q,4,none⟩ (.int .u64 (y.val.bits:Int))) q y.cs 132 from setV_row RZ.out)
     have WQ:=qh (show Below w.heap.size w (((((w4.setCell ⟨q,0,none⟩ (.int .i64 y.seq)).setCell ⟨q,1,none⟩ (.bool y.gone)).setCell ⟨q,2,none⟩ (.bool y.val.num)).setCell ⟨q,3,none⟩ (.string y.val.txt)).setCell ⟨q,4,none⟩ (.int .u64 (y.val.bits:Int))) from setV_below W4.out (Nat.le_trans HW.out.size QB.out))
     have RR:=qh (show Below wr.heap.size wr (((((w4.setCell ⟨q,0,none⟩ (.int .i64 y.seq)).setCell ⟨q,1,none⟩ (.bool y.gone)).setCell ⟨q,2,none⟩ (.bool y.val.num)).setCell ⟨q,3,none⟩ (.string y.val.txt)).setCell ⟨q,4,none⟩ (.int .u64 (y.val.bits:Int))) from setV_below R4.out QB.out)
     refine rgT 11 (v:=?v29) ?y29 gH ?_
     case y29=>(intro v hSw; have y0:=F5.out _ hSw; have y1:=(hSw.cell (p:=⟨b,o+i * 2+1,none⟩) (block_lt_of_cell K1.out)).trans K1.out; go_simp<;>rfl)
     refine rgT 12 (v:=?v30) ?y30 gH ?_
     case y30=>(intro v hSw; have y0:=F5.out _ hSw; have y1:=(hSw.cell (p:=⟨b,o+i * 2+1,none⟩) (block_lt_of_cell K1.out)).trans K1.out; go_simp<;>rfl)
     refine rgT 13 (v:=?v31) ?y31 gH ?_
     case y31=>(intro v hSw; have y0:=F5.out _ hSw; have y1:=(hSw.cell (p:=⟨b,o+i * 2+1,none⟩) (block_lt_of_cell K1.out)).trans K1.out; go_simp<;>rfl)
     try simp only [putS]
     refine rgO 15 fun K hK=>?_
     go_simp
     refine hK.out _ _ (WQ.out) (fun gH=>?_)
     clear hK K
     refine rgT 16 (v:=?v32) ?y32 gH ?_
     case y32=>(intro v hSw; have y0:=F5.out _ hSw; have y1:=(hSw.cell (p:=⟨b,o+i * 2+1,none⟩) (block_lt_of_cell K1.out)).trans K1.out; go_simp<;>rfl)
     try simp only [putS]
     refine rgD ?_
     clear f0 f1 f2 f3 f4 z0 z1 z2 z3 z4 RZ W4 R4
     generalize (((((w4.setCell ⟨q,0,none⟩ (.int .i64 y.seq)).setCell ⟨q,1,none⟩ (.bool y.gone)).setCell ⟨q,2,none⟩ (.bool y.val.num)).setCell ⟨q,3,none⟩ (.string y.val.txt)).setCell ⟨q,4,none⟩ (.int .u64 (y.val.bits:Int)))=W at RQ WQ RR ⊢
     have HOq:=qh (HO.out.below RR.out)
     have h5:=F5.out _ WQ.out
     have k0:=(WQ.out.cell (p:=⟨b,o+i * 2,none⟩) (block_lt_of_cell K0.out)).trans K0.out
     have VC:=qh (verC RQ.out)
     cases Y with
     | false =>
      have e:=ET.out
      rw [if_neg (by simp)] at e
      have ET:=qh e
      clear e
      go_wp2_with fail
      go_roundw
      case rel=>exact ⟨i+1,v,rfl,by go_num,by omega,by rw [ET.out]; exact HOq,WQ⟩
      case measure=>simp [intOf]; omega
     | true =>
      have e:=ET.out
      rw [if_pos rfl] at e
      have ET:=qh e
      have H5:=qh h5
      have K9:=qh k0
      clear e
      go_wp2_with fail
      clear h5 k0
      refine wp_region_held_drew (S:=(fun w'=>w'.cell? ⟨p,5,none⟩=some (.slice (some ⟨b,o,none⟩) n c)∧w'.cell? ⟨b,o+i * 2,none⟩=some (.string x)∧w'.cell? ⟨q,0,none⟩=some (.int .i64 y.seq)∧w'.cell? ⟨q,2,none⟩=some (.bool y.val.num)∧w'.cell? ⟨q,3,none⟩=some (.string y.val.txt)∧w'.cell? ⟨q,4,none⟩=some (.int .u64 (y.val.bits:Int)))) (by kernel_rfl) (⟨H5.out,K9.out,VC.out⟩) (fun gH=>?_)
      refine rgT 0 (v:=?v33) ?y33 gH ?_
      case y33=>(intro v hSw; go_simp<;>rfl)
      refine rgT 1 (v:=?v34) ?y34 gH ?_
      case y34=>(intro v hSw; go_simp<;>rfl)
      refine rgT 2 (v:=?v35) ?y35 gH ?_
      case y35=>(intro v hSw; go_simp<;>rfl)
      try simp only [putS]
      refine rgT 3 (v:=?v36) ?y36 gH ?_
      case y36=>(intro v hSw; go_simp<;>rfl)
      refine rgT 4 (v:=?v37) ?y37 gH ?_
      case y37=>(intro v hSw; go_simp<;>rfl)
      refine rgT 5 (v:=?v38) ?y38 gH ?_
      case y38=>(intro v hSw; go_simp<;>rfl)
      try simp only [putS]
      refine rgT 6 (v:=?v39) ?y39 gH ?_
      case y39=>(intro v hSw; go_simp<;>rfl)
      refine rgT 7 (v:=?v40) ?y40 gH ?_
      case y40=>(intro v hSw; go_simp<;>rfl)
      refine rgT 8 (v:=?v41) ?y41 gH ?_
      case y41=>(intro v hSw; go_simp<;>rfl)
      try simp only [putS]
      refine rgT 9 (v:=?v42) ?y42 gH ?_
      case y42=>(intro v hSw; go_simp<;>rfl)
      refine rgT 10 (v:=?v43) ?y43 gH ?_
      case y43=>(intro v hSw; go_simp<;>rfl)
      refine rgT 11 (v:=?v44) ?y44 gH ?_
      case y44=>(intro v hSw; go_simp<;>rfl)
      try simp only [putS]
      refine rgT 12 (v:=?v45) ?y45 gH ?_
      case y45=>(intro v hSw; go_simp<;>rfl)
      refine rgT 13 (v:=?v46) ?y46 gH ?_
      case y46=>(intro v hSw; go_simp<;>rfl)
      try simp only [putS]
      have WA:=qh (WQ.out.alloc WQ.out.size (.cells #[.string x,.int .i64 y.seq,.bool y.val.num,.string y.val.txt,.int .u64 (y.val.bits:Int)] 67))
      have RA:=qh (RQ.out.alloc (.cells #[.string x,.int .i64 y.seq,.bool y.val.num,.string y.val.txt,.int .u64 (y.val.bits:Int)] 67))
      have HA:=qh (show _∧_∧_ from ⟨F5.out _ WA.out,(WA.out.cell (p:=⟨b,o+i * 2,none⟩) (block_lt_of_cell K0.out)).trans K0.out,verC RA.out⟩)
      have OA:=qh (HOq.out.alloc (.cells #[.string x,.int .i64 y.seq,.bool y.val.num,.string y.val.txt,.int .u64 (y.val.bits:Int)] 67))
      refine rgO 14 fun K hK=>?_
      go_simp
      refine hK.out _ _ (HA.out) (fun gH=>?_)
      clear hK K
      try simp only [putS]
      refine rgO 15 fun K hK=>?_
      refine step_putE rfl (.tmp 32) (.tmp 46) rfl w.heap.size v _ ⟨x,y.seq,y.val⟩ rfl OA.out W.heap.size rfl (fun j _=>(RowAt.new W (En.cs ⟨x,y.seq,y.val⟩) _).cell j) LN.out WA.out.size ?_
      intro v' w7 ho hgr hb7
      have W7:=qh ((below_drew WA.out).trans hb7)
      have O7:=qh ho
      have R7:=qh (show RowAt w7 q y.cs 132 from (hgr.block q RA.out.lt (fun e=>by
       have h1:=(HO.out.lt q e.symm).2
       have h2:=QB.out
       omega)).trans RA.out)
      clear ho hgr hb7
      refine hK.out _ _ ⟨F5.out _ W7.out,(W7.out.cell (p:=⟨b,o+i * 2,none⟩) (block_lt_of_cell K0.out)).trans K0.out,verC R7.out⟩ (fun gH=>?_)
      clear hK K
      refine rgT 16 (v:=?v47) ?y47 gH ?_
      case y47=>(intro v hSw; go_simp<;>rfl)
      try simp only [putS]
      refine rgD ?_
      go_wp2_with fail
      go_roundw
      case rel=>exact ⟨i+1,v',rfl,by go_num,by omega,by rw [ET.out]; exact O7,W7⟩
      case measure=>simp [intOf]; omega
   ·go_simp
    have r1:RowAt (wr.alloc (.cells #[.int .i64 0,.bool false,.bool false,.string ⟨#[]⟩,.int .u64 0] 132)).drew wr.heap.size Ver.Z.cs 132:=RowAt.new wr Ver.Z.cs 132
    have W1:=qh (below_drew (HW.out.alloc HW.out.size (.cells #[.int .i64 0,.bool false,.bool false,.string ⟨#[]⟩,.int .u64 0] 132)))
    have R1:=qh (below_drew ((Below.refl wr.heap.size wr).alloc (Nat.le_refl _) (.cells #[.int .i64 0,.bool false,.bool false,.string ⟨#[]⟩,.int .u64 0] 132)))
    generalize (wr.alloc (.cells #[.int .i64 0,.bool false,.bool false,.string ⟨#[]⟩,.int .u64 0] 132)).drew=w1 at r1 W1 R1 ⊢
    refine hK.out _ _ W1.out (fun gH=>?_)
    clear hK K
    try simp only [putS]
    refine rgO 9 fun K hK=>?_
    go_simp
    refine (SQ.out _ W1.out).mono ?_
    rintro e w2 ⟨rfl,k2,hk⟩
    have W2:=qh (show Below w.heap.size w w2 by rw [hk]; exact below_drewN W1.out k2)
    have R2:=qh (show Below wr.heap.size wr w2 by rw [hk]; exact below_drewN R1.out k2)
    have r2:RowAt w2 wr.heap.size Ver.Z.cs 132:=(by rw [hk]; exact r1.drewN k2)
    clear hk
    refine hK.out _ _ (W2.out) (fun gH=>?_)
    clear hK K
    try simp only [putS]
    refine rgO 10 fun K hK=>?_
    go_simp
    refine (CS.out _ W2.out).mono ?_
    rintro e w4 ⟨rfl,hb4⟩
    have W4:=qh (W2.out.trans (hb4.mono W2.out.size))
    have R4:=qh (R2.out.trans (hb4.mono R2.out.size))
    have RZ:=qh (show RowAt w4 wr.heap.size Ver.Z.cs 132 from r2.below hb4)
    refine hK.out _ _ (W4.out) (fun gH=>?_)
    clear hK K
    try simp only [putS]
    obtain ⟨q,hq⟩:=nmq (wr.heap.size)
    have QB:=qh (show wr.heap.size<=q by rw [hq]; exact Nat.le_refl _)
    rw [<-hq] at RZ ⊢
    clear hb4 r1 r2 hq
    have F4:=zeroG RZ.out
    obtain ⟨⟨f0,f1,f2,f3,f4⟩,z0,z1,z2,z3,z4⟩:=F4
    have RQ:=qh (show RowAt (((((w4.setCell ⟨q,0,none⟩ (.int .i64 y.seq)).setCell ⟨q,1,none⟩ (.bool y.gone)).setCell ⟨q,2,none⟩ (.bool y.val.num)).setCell ⟨q,3,none⟩ (.string y.val.txt)).setCell ⟨q,4,none⟩ (.int .u64 (y.val.bits:Int))) q y.cs 132 from setV_row RZ.out)
    have WQ:=qh (show Below w.heap.size w (((((w4.setCell ⟨q,0,none⟩ (.int .i64 y.seq)).setCell ⟨q,1,none⟩ (.bool y.gone)).setCell ⟨q,2,none⟩ (.bool y.val.num)).setCell ⟨q,3,none⟩ (.string y.val.txt)).setCell ⟨q,4,none⟩ (.int .u64 (y.val.bits:Int))) from setV_below W4.out (Nat.le_trans HW.out.size QB.out))
    have RR:=qh (show Below wr.heap.size wr (((((w4.setCell ⟨q,0,none⟩ (.int .i64 y.seq)).setCell ⟨q,1,none⟩ (.bool y.gone)).setCell ⟨q,2,none⟩ (.bool y.val.num)).setCell ⟨q,3,none⟩ (.string y.val.txt)).setCell ⟨q,4,none⟩ (.int .u64 (y.val.bits:Int))) from setV_below R4.out QB.out)
    refine rgT 11 (v:=?v48) ?y48 gH ?_
    case y48=>(intro v hSw; have y0:=F5.out _ hSw; have y1:=(hSw.cell (p:=⟨b,o+i * 2+1,none⟩) (block_lt_of_cell K1.out)).trans K1.out; go_simp<;>rfl)
    refine rgT 12 (v:=?v49) ?y49 gH ?_
    case y49=>(intro v hSw; have y0:=F5.out _ hSw; have y1:=(hSw.cell (p:=⟨b,o+i * 2+1,none⟩) (block_lt_of_cell K1.out)).trans K1.out; go_simp<;>rfl)
    refine rgT 13 (v:=?v50) ?y50 gH ?_
    case y50=>(intro v hSw; have y0:=F5.out _ hSw; have y1:=(hSw.cell (p:=⟨b,o+i * 2+1,none⟩) (block_lt_of_cell K1.out)).trans K1.out; go_simp<;>rfl)
    try simp only [putS]
    refine rgO 15 fun K hK=>?_
    go_simp
    refine hK.out _ _ (WQ.out) (fun gH=>?_)
    clear hK K
    refine rgT 16 (v:=?v51) ?y51 gH ?_
    case y51=>(intro v hSw; have y0:=F5.out _ hSw; have y1:=(hSw.cell (p:=⟨b,o+i * 2+1,none⟩) (block_lt_of_cell K1.out)).trans K1.out; go_simp<;>rfl)
    try simp only [putS]
    refine rgD ?_
    clear f0 f1 f2 f3 f4 z0 z1 z2 z3 z4 RZ W4 R4
    generalize (((((w4.setCell ⟨q,0,none⟩ (.int .i64 y.seq)).setCell ⟨q,1,none⟩ (.bool y.gone)).setCell ⟨q,2,none⟩ (.bool y.val.num)).setCell ⟨q,3,none⟩ (.string y.val.txt)).setCell ⟨q,4,none⟩ (.int .u64 (y.val.bits:Int)))=W at RQ WQ RR ⊢
    have HOq:=qh (HO.out.below RR.out)
    have h5:=F5.out _ WQ.out
    have k0:=(WQ.out.cell (p:=⟨b,o+i * 2,none⟩) (block_lt_of_cell K0.out)).trans K0.out
    have VC:=qh (verC RQ.out)
    cases Y with
    | false =>
     have e:=ET.out
     rw [if_neg (by simp)] at e
     have ET:=qh e
     clear e
     go_wp2_with fail
     go_roundw
     case rel=>exact ⟨i+1,v,rfl,by go_num,by omega,by rw [ET.out]; exact HOq,WQ⟩
     case measure=>simp [intOf]; omega
    | true =>
     have e:=ET.out
     rw [if_pos rfl] at e
     have ET:=qh e
     have H5:=qh h5
     have K9:=qh k0
     clear e
     go_wp2_with fail
     clear h5 k0
     refine wp_region_held_drew (S:=(fun w'=>w'.cell? ⟨p,5,none⟩=some (.slice (some ⟨b,o,none⟩) n c)∧w'.cell? ⟨b,o+i * 2,none⟩=some (.string x)∧w'.cell? ⟨q,0,none⟩=some (.int .i64 y.seq)∧w'.cell? ⟨q,2,none⟩=some (.bool y.val.num)∧w'.cell? ⟨q,3,none⟩=some (.string y.val.txt)∧w'.cell? ⟨q,4,none⟩=some (.int .u64 (y.val.bits:Int)))) (by kernel_rfl) (⟨H5.out,K9.out,VC.out⟩) (fun gH=>?_)
     refine rgT 0 (v:=?v52) ?y52 gH ?_
     case y52=>(intro v hSw; go_simp<;>rfl)
     refine rgT 1 (v:=?v53) ?y53 gH ?_
     case y53=>(intro v hSw; go_simp<;>rfl)
     refine rgT 2 (v:=?v54) ?y54 gH ?_
     case y54=>(intro v hSw; go_simp<;>rfl)
     try simp only [putS]
     refine rgT 3 (v:=?v55) ?y55 gH ?_
     case y55=>(intro v hSw; go_simp<;>rfl)
     refine rgT 4 (v:=?v56) ?y56 gH ?_
     case y56=>(intro v hSw; go_simp<;>rfl)
     refine rgT 5 (v:=?v57) ?y57 gH ?_
     case y57=>(intro v hSw; go_simp<;>rfl)
     try simp only [putS]
     refine rgT 6 (v:=?v58) ?y58 gH ?_
     case y58=>(intro v hSw; go_simp<;>rfl)
     refine rgT 7 (v:=?v59) ?y59 gH ?_
     case y59=>(intro v hSw; go_simp<;>rfl)
     refine rgT 8 (v:=?v60) ?y60 gH ?_
     case y60=>(intro v hSw; go_simp<;>rfl)
     try simp only [putS]
     refine rgT 9 (v:=?v61) ?y61 gH ?_
     case y61=>(intro v hSw; go_simp<;>rfl)
     refine rgT 10 (v:=?v62) ?y62 gH ?_
     case y62=>(intro v hSw; go_simp<;>rfl)
     refine rgT 11 (v:=?v63) ?y63 gH ?_
     case y63=>(intro v hSw; go_simp<;>rfl)
     try simp only [putS]
     refine rgT 12 (v:=?v64) ?y64 gH ?_
     case y64=>(intro v hSw; go_simp<;>rfl)
     refine rgT 13 (v:=?v65) ?y65 gH ?_
     case y65=>(intro v hSw; go_simp<;>rfl)
     try simp only [putS]
     have WA:=qh (WQ.out.alloc WQ.out.size (.cells #[.string x,.int .i64 y.seq,.bool y.val.num,.string y.val.txt,.int .u64 (y.val.bits:Int)] 67))
     have RA:=qh (RQ.out.alloc (.cells #[.string x,.int .i64 y.seq,.bool y.val.num,.string y.val.txt,.int .u64 (y.val.bits:Int)] 67))
     have HA:=qh (show _∧_∧_ from ⟨F5.out _ WA.out,(WA.out.cell (p:=⟨b,o+i * 2,none⟩) (block_lt_of_cell K0.out)).trans K0.out,verC RA.out⟩)
     have OA:=qh (HOq.out.alloc (.cells #[.string x,.int .i64 y.seq,.bool y.val.num,.string y.val.txt,.int .u64 (y.val.bits:Int)] 67))
     refine rgO 14 fun K hK=>?_
     go_simp
     refine hK.out _ _ (HA.out) (fun gH=>?_)
     clear hK K
     try simp only [putS]
     refine rgO 15 fun K hK=>?_
     refine step_putE rfl (.tmp 32) (.tmp 46) rfl w.heap.size v _ ⟨x,y.seq,y.val⟩ rfl OA.out W.heap.size rfl (fun j _=>(RowAt.new W (En.cs ⟨x,y.seq,y.val⟩) _).cell j) LN.out WA.out.size ?_
     intro v' w7 ho hgr hb7
     have W7:=qh ((below_drew WA.out).trans hb7)
     have O7:=qh ho
     have R7:=qh (show RowAt w7 q y.cs 132 from (hgr.block q RA.out.lt (fun e=>by
      have h1:=(HO.out.lt q e.symm).2
      have h2:=QB.out
      omega)).trans RA.out)
     clear ho hgr hb7
     refine hK.out _ _ ⟨F5.out _ W7.out,(W7.out.cell (p:=⟨b,o+i * 2,none⟩) (block_lt_of_cell K0.out)).trans K0.out,verC R7.out⟩ (fun gH=>?_)
     clear hK K
     refine rgT 16 (v:=?v66) ?y66 gH ?_
     case y66=>(intro v hSw; go_simp<;>rfl)
     try simp only [putS]
     refine rgD ?_
     go_wp2_with fail
     go_roundw
     case rel=>exact ⟨i+1,v',rfl,by go_num,by omega,by rw [ET.out]; exact O7,W7⟩
     case measure=>simp [intOf]; omega
  ·obtain rfl:i=n:=by omega
   have h5:=F5.out _ HW.out
   have ho:=HO.out
   rw [HN.out,List.take_length] at ho
   obtain ⟨A',c',rfl,hsl⟩:=ho.sl
   have SE:=qh hsl
   obtain ⟨d,hd⟩:=nmq ((L.ents s).length)
   have HD:=qh hd
   rw [<-hd]
   clear ho hsl hd
   go_wp2_with fail
   go_ret
   exact ⟨A',c',by rw [<-HD.out]; rfl,SE.out,HW.out⟩

end Go.Proofs.YtbfgpdgiaclphaaGreat

namespace Go.Proofs.YtbfgpdgiaclphaaGreat
open Go.RowKit

def enOk (p:Option ByteArray) (sq:Int) (x:En):Bool:=keyOk x.key && (x.val.ok && (decide (1<=x.seq) && (decide (x.seq<=sq) && (match p with | none=>true | some k=>ltB k x.key))))
def prevE (l:List En) (i:Nat):Option ByteArray:=if i=0 then none else some (l.getD (i-1) En.Z).key
def mayE (l:List En) (sq:Int):Bool:=(List.range l.length).all fun i=>enOk (prevE l i) sq (l.getD i En.Z)
theorem mayE_no {l:List En} {sq:Int} {i:Nat} (hi:i<l.length) (h:enOk (prevE l i) sq (l.getD i En.Z)=false):mayE l sq=false:=by
 cases q:mayE l sq with
 | false=>rfl
 | true =>
  unfold mayE at q
  simp only [List.all_eq_true,List.mem_range] at q
  have:=q i hi
  rw [h] at this; cases this
theorem mayE_yes {l:List En} {sq:Int} (h:∀ j,j<l.length->enOk (prevE l j) sq (l.getD j En.Z)=true):mayE l sq=true:=by
 unfold mayE
 simp only [List.all_eq_true,List.mem_range]
 exact h
theorem prevE_succ (l:List En) (i:Nat):prevE l (i+1)=some (l.getD i En.Z).key:=by
 unfold prevE
 rw [if_neg (by omega),Nat.add_sub_cancel]
def En.ver (x:En):Ver:=⟨x.seq,false,x.val⟩
def loadL (l:List En):Ch:=l.map fun x=>(x.key,[x.ver])
theorem loadL_succ (l:List En) {i:Nat} (hi:i<l.length):loadL (l.take (i+1))=loadL (l.take i)++[((l.getD i En.Z).key,[(l.getD i En.Z).ver])]:=by
 unfold loadL
 rw [List.take_succ_eq_append_getElem hi,List.map_append,List.getD_eq_getElem?_getD,List.getElem?_eq_getElem hi]
 rfl
theorem loadL_len (l:List En):(loadL l).length=l.length:=by unfold loadL; rw [List.length_map]
def ldE (zs:List Int) (g1 g2 g3 sq:Int) (l:List En):Int :=
 if (stOk zs g1 g2 g3 && (decide (0<=sq) && decide (sq<=g3)))=false then 1 else if mayE l sq=false then 1 else if g2<((loadL l).live:Int) then 15 else 0
def FitsE (l:List En):Prop:=∀ x,x ∈ l->x.val.Fits∧x.key.size<=1000∧x.val.txt.size<=1000
theorem FitsE.get {l:List En} (h:FitsE l) {i:Nat} (hi:i<l.length):(l.getD i En.Z).val.Fits∧(l.getD i En.Z).key.size<=1000∧(l.getD i En.Z).val.txt.size<=1000:=by
 rw [List.getD_eq_getElem?_getD,List.getElem?_eq_getElem hi]
 exact h _ (List.getElem_mem hi)
theorem loadL_key (l:List En) {i:Nat} (hi:i<l.length):(loadL l).key i=(l.getD i En.Z).key:=by
 unfold Ch.key loadL
 rw [List.getD_eq_getElem?_getD,List.getD_eq_getElem?_getD,List.getElem?_map,List.getElem?_eq_getElem hi]; rfl
theorem loadL_rise {l:List En} {sq:Int} (h:mayE l sq=true):(loadL l).Rise:=by
 unfold mayE at h
 simp only [List.all_eq_true,List.mem_range] at h
 have step:∀ j,j+1<l.length->ltB (l.getD j En.Z).key (l.getD (j+1) En.Z).key=true:=fun j hj=>by
  have:=h (j+1) hj
  rw [prevE_succ] at this
  unfold enOk at this
  simp only [Bool.and_eq_true] at this
  exact this.2.2.2.2
 have all:∀ d i,i+d+1<l.length->ltB (l.getD i En.Z).key (l.getD (i+d+1) En.Z).key=true:=fun d=>by
  induction d with
  | zero=>exact fun i hi=>step i hi
  | succ d ih=>exact fun i hi=>ltB_trans (ih i (by omega)) (step (i+d+1) (by omega))
 refine List.pairwise_iff_getElem.2 fun i j hi hj hij=>?_
 rw [Ch.getE _ hi,Ch.getE _ hj]
 rw [loadL_len] at hi hj
 show ltB ((loadL l).key i) ((loadL l).key j)=true
 rw [loadL_key l hi,loadL_key l hj]
 have:=all (j-i-1) i (by omega)
 rwa [show i+(j-i-1)+1=j by omega] at this
theorem loadL_good {l:List En} {sq:Int} (h:mayE l sq=true) (hf:FitsE l) (hl:l.length<=10000):GoodC (loadL l):=by
 have mem:∀ x,x ∈ loadL l->∃ y,y ∈ l∧x=(y.key,[y.ver]):=fun x hx=>by
  obtain ⟨y,hy,rfl⟩:=List.mem_map.1 hx
  exact ⟨y,hy,rfl⟩
 refine ⟨by rw [loadL_len]; omega,fun x hx=>?_,fun x hx y hy=>?_,fun x hx=>?_,fun x hx=>?_,loadL_rise h,fun x hx=>?_⟩
 ·obtain ⟨y,hy,rfl⟩:=mem x hx
  intro z hz
  simp at hz
  subst hz
  exact (hf y hy).1
 ·obtain ⟨z,hz,rfl⟩:=mem x hx
  simp at hy
  subst hy
  exact (hf z hz).2.2
 ·obtain ⟨y,hy,rfl⟩:=mem x hx
  exact Nat.le_trans (Nat.le_refl 1) (by decide)
 ·obtain ⟨y,hy,rfl⟩:=mem x hx
  exact (hf y hy).2.1
 ·obtain ⟨y,hy,rfl⟩:=mem x hx
  intro i j hij hj
  simp at hj
  omega
section
variable {w w1 w7:World} {x q B N1 b0:Nat} {g2 g3:Int} {lb v v':Value} {rg:Rg} {cs:List Value} {t0:TypeId} {zs:Zs} {L:Ch} {k:ByteArray} {y:Ver}
end


end Go.Proofs.YtbfgpdgiaclphaaGreat

namespace Go.Proofs.YtbfgpdgiaclphaaGreat
open Go.RowKit

namespace Ch
variable {L:Ch} {k k':ByteArray} {v:Ver} {l:List Ver} {i:Nat}
theorem pos_of (h:L.Rise) (hi:i<L.length):L.pos (L.key i)=i:=by
 rcases Nat.lt_trichotomy (L.pos (L.key i)) i with q | q | q
 ·have:=stop (L:=L) (k:=L.key i) (by omega)
  rw [rise_at h q hi] at this; cases this
 ·exact q
 ·have:=below (L:=L) (k:=L.key i) q
  rw [ltB_irr] at this; cases this
theorem has_at (h:L.Rise) (hi:i<L.length):L.has (L.key i)=true:=(has_iff L _).2 ⟨by rw [pos_of h hi]; exact hi,by rw [pos_of h hi]⟩
theorem of_at (h:L.Rise) (hi:i<L.length):L.of (L.key i)=L.chn i:=by
 unfold of
 rw [has_at h hi,if_pos rfl,pos_of h hi]
theorem mem_at:(k,l) ∈ L↔∃ i,i<L.length∧L.key i=k∧L.chn i=l:=by
 constructor
 ·intro h
  obtain ⟨i,hi,e⟩:=List.mem_iff_getElem.1 h
  rw [getE L hi] at e
  injection e with e1 e2
  exact ⟨i,hi,e1,e2⟩
 ·rintro ⟨i,hi,e1,e2⟩
  refine List.mem_iff_getElem.2 ⟨i,hi,?_⟩
  rw [getE L hi,e1,e2]
theorem of_mem (h:L.Rise) (hm:(k,l) ∈ L):L.of k=l:=by
 obtain ⟨i,hi,rfl,rfl⟩:=mem_at.1 hm
 exact of_at h hi
theorem has_mem (hm:(k,l) ∈ L) (h:L.Rise):L.has k=true:=by
 obtain ⟨i,hi,rfl,rfl⟩:=mem_at.1 hm
 exact has_at h hi
theorem mem_has (h:L.has k=true):(k,L.of k) ∈ L:=by
 obtain ⟨p,e⟩:=(has_iff L k).1 h
 refine mem_at.2 ⟨L.pos k,p,e,?_⟩
 unfold of
 rw [if_pos h]
theorem of_no (h:L.has k=false):L.of k=[]:=by unfold of; rw [h]; rfl
theorem mem_put (h:L.Rise) {y:ByteArray × List Ver}:y ∈ L.put k v↔y=(k,L.of k++[v])∨(y ∈ L∧y.1≠k):=by
 obtain ⟨a,b⟩:=y
 cases q:L.has k with
 | true =>
  obtain ⟨p,e⟩:=(has_iff L k).1 q
  have eo:L.of k=L.chn (L.pos k):=by unfold of; rw [if_pos q]
  have el:(L.put k v).length=L.length:=by unfold put; rw [if_pos q,List.length_set]
  rw [eo]
  constructor
  ·intro hm
   obtain ⟨i,hi,hy⟩:=List.mem_iff_getElem.1 hm
   rw [el] at hi
   have:=put_old (v:=v) q hi
   rw [List.getElem?_eq_getElem (by rw [el]; exact hi),hy] at this
   injection this with this
   by_cases z:i=L.pos k
   ·rw [if_pos z] at this; exact .inl this
   ·rw [if_neg z] at this
    injection this with e1 e2
    refine .inr ⟨mem_at.2 ⟨i,hi,e1.symm,e2.symm⟩,?_⟩
    show a≠k
    rw [e1]
    rcases Nat.lt_or_ge i (L.pos k) with w | w
    ·exact ne_below w
    ·exact ne_above h (by omega) hi
  ·rintro (hy | ⟨hm,hn⟩)
   ·rw [hy]
    refine List.mem_iff_getElem.2 ⟨L.pos k,by rw [el]; exact p,?_⟩
    have:=put_old (v:=v) q p
    rw [List.getElem?_eq_getElem (by rw [el]; exact p),if_pos rfl] at this
    injection this
   ·obtain ⟨i,hi,e1,e2⟩:=mem_at.1 hm
    have z:i≠L.pos k:=fun z=>hn (by show a=k; rw [<-e1,z,e])
    refine List.mem_iff_getElem.2 ⟨i,by rw [el]; exact hi,?_⟩
    have:=put_old (v:=v) q hi
    rw [List.getElem?_eq_getElem (by rw [el]; exact hi),if_neg z] at this
    injection this with this
    rw [this,e1,e2]
 | false =>
  have ep:L.put k v=L.take (L.pos k)++(k,[v]) :: L.drop (L.pos k):=by unfold put; rw [q]; rfl
  rw [ep,of_no q,List.nil_append,List.mem_append,List.mem_cons]
  have hl:∀ y:ByteArray × List Ver,y ∈ L↔y ∈ L.take (L.pos k)∨y ∈ L.drop (L.pos k):=fun y=>by rw [<-List.mem_append,List.take_append_drop]
  constructor
  ·rintro (hm | hm | hm)
   ·have hm':=(hl (a,b)).2 (.inl hm)
    exact .inr ⟨hm',fun e=>by have:=has_mem hm' h; rw [show (a,b).1=a from rfl] at e; rw [e,q] at this; cases this⟩
   ·exact .inl hm
   ·have hm':=(hl (a,b)).2 (.inr hm)
    exact .inr ⟨hm',fun e=>by have:=has_mem hm' h; rw [show (a,b).1=a from rfl] at e; rw [e,q] at this; cases this⟩
  ·rintro (hm | ⟨hm,_⟩)
   ·exact .inr (.inl hm)
   ·rcases (hl (a,b)).1 hm with w | w
    ·exact .inl w
    ·exact .inr (.inr w)
theorem rise_put (h:L.Rise):(L.put k v).Rise:=by
 cases q:L.has k with
 | true =>
  obtain ⟨p,e⟩:=(has_iff L k).1 q
  have el:(L.put k v).length=L.length:=by unfold put; rw [if_pos q,List.length_set]
  have at_:∀ i (hi:i<(L.put k v).length),((L.put k v)[i]).1=L.key i:=fun i hi=>by
   have:=put_old (v:=v) q (i:=i) (by omega)
   rw [List.getElem?_eq_getElem hi] at this
   injection this with this
   rw [this]
   by_cases z:i=L.pos k
   ·rw [if_pos z,z]; exact e.symm
   ·rw [if_neg z]
  refine List.pairwise_iff_getElem.2 fun i j hi hj hij=>?_
  rw [at_ i hi,at_ j hj]
  exact rise_at h hij (by omega)
 | false =>
  have ep:L.put k v=L.take (L.pos k)++(k,[v]) :: L.drop (L.pos k):=by unfold put; rw [q]; rfl
  rw [ep]
  have ht:∀ y,y ∈ L.take (L.pos k)->ltB y.1 k=true:=fun y hy=>by
   obtain ⟨i,hi,rfl⟩:=List.mem_iff_getElem.1 hy
   rw [List.length_take] at hi
   rw [List.getElem_take,getE L (by omega)]
   exact below (by omega)
  have hd:∀ y,y ∈ L.drop (L.pos k)->ltB k y.1=true:=fun y hy=>by
   obtain ⟨i,hi,rfl⟩:=List.mem_iff_getElem.1 hy
   rw [List.length_drop] at hi
   rw [List.getElem_drop,getE L (by omega)]
   by_cases z:i=0
   ·subst z; exact not_has q (by omega)
   ·exact above h (by omega) (by omega)
  refine List.pairwise_append.2 ⟨h.sublist (List.take_sublist _ _),List.pairwise_cons.2 ⟨fun y hy=>hd y hy,h.sublist (List.drop_sublist _ _)⟩,fun y hy z hz=>?_⟩
  rcases List.mem_cons.1 hz with e | hz
  ·rw [e]; exact ht y hy
  ·exact ltB_trans (ht y hy) (hd z hz)
theorem of_put (h:L.Rise):(L.put k v).of k'=if k'=k then L.of k++[v] else L.of k':=by
 by_cases z:k'=k
 ·rw [if_pos z,z]
  exact of_mem (rise_put h) ((mem_put h).2 (.inl rfl))
 ·rw [if_neg z]
  cases q:L.has k' with
  | true=>exact of_mem (rise_put h) ((mem_put h).2 (.inr ⟨mem_has q,z⟩))
  | false =>
   rw [of_no q]
   cases p:(L.put k v).has k' with
   | false=>exact of_no p
   | true =>
    rcases (mem_put h).1 (mem_has p) with e | ⟨e,_⟩
    ·injection e with e1 _; exact absurd e1 z
    ·have:=has_mem e h; rw [q] at this; cases this
theorem put_len_le:(L.put k v).length<=L.length+1:=by
 rw [put_len]
 split<;>omega
theorem of_swept (h:L.Rise) (f:Int):(L.swept f).of k=sweepL (L.of k) f:=by
 have hr:(L.swept f).Rise:=by
  unfold Rise swept
  refine List.Pairwise.filter _ ?_
  rw [List.pairwise_map]
  exact h
 by_cases z:sweepL (L.of k) f=[]
 ·rw [z]
  cases p:(L.swept f).has k with
  | false=>exact of_no p
  | true =>
   have hm:=mem_has p
   obtain ⟨y,hy,e⟩:=mem_swept hm
   have e1:=of_mem h hy
   have e:(L.swept f).of k=sweepL y f:=e
   rw [e,<-e1,z]
 ·have hk:L.has k=true:=by
   cases p:L.has k with
   | true=>rfl
   | false=>rw [of_no p] at z; exact absurd (by unfold sweepL; rw [List.drop_nil]) z
  refine of_mem hr ?_
  unfold swept
  refine List.mem_filter.2 ⟨List.mem_map.2 ⟨(k,L.of k),mem_has hk,rfl⟩,?_⟩
  cases e:sweepL (L.of k) f with
  | nil=>exact absurd e z
  | cons _ _=>rfl
end Ch

theorem snoc_get {l:List Ver} {v:Ver} {i:Nat} (h:i<l.length):(l++[v]).getD i Ver.Z=l.getD i Ver.Z:=by
 rw [List.getD_eq_getElem?_getD,List.getD_eq_getElem?_getD,List.getElem?_append_left h]
theorem snoc_last (l:List Ver) (v:Ver):(l++[v]).getD l.length Ver.Z=v:=by
 rw [List.getD_eq_getElem?_getD,List.getElem?_append_right (Nat.le_refl _)]; simp
def lastS (l:List Ver):Int:=if l.length=0 then 0 else (lastL l).seq
theorem rightL_snoc {l:List Ver} {v:Ver} (h:rightL l=true) (hv:mayV (lastS l) v=true):rightL (l++[v])=true:=by
 rw [rightL_iff] at h ⊢
 intro i hi
 rw [List.length_append] at hi
 by_cases z:i<l.length
 ·rw [snoc_get z]
  have:=h i z
  unfold prevS at this ⊢
  by_cases e:i=0
  ·rw [if_pos e] at this ⊢; exact this
  ·rw [if_neg e] at this ⊢; rw [snoc_get (by omega)]; exact this
 ·have e:i=l.length:=by simp at hi; omega
  rw [e,snoc_last]
  unfold prevS
  unfold lastS at hv
  by_cases e0:l.length=0
  ·rw [if_pos e0] at hv ⊢; exact hv
  ·rw [if_neg e0] at hv ⊢; rw [snoc_get (by omega)]; exact hv
theorem lastS_le {l:List Ver} {q:Int} (h:∀ y,y ∈ l->y.seq<=q) (hq:0<=q):lastS l<=q:=by
 unfold lastS
 by_cases e:l.length=0
 ·rw [if_pos e]; exact hq
 ·rw [if_neg e]
  refine h _ ?_
  unfold lastL
  rw [List.getD_eq_getElem?_getD,List.getElem?_eq_getElem (by omega)]
  exact List.getElem_mem _
structure OkL (L:Ch) (q:Int):Prop where
 rise:L.Rise
 ne:∀ x,x ∈ L->x.2≠[]
 right:∀ x,x ∈ L->rightL x.2=true
 le:∀ x,x ∈ L->∀ y,y ∈ x.2->y.seq<=q
 key:∀ x,x ∈ L->keyOk x.1=true
 fits:∀ x,x ∈ L->FitsL x.2
namespace OkL
variable {L:Ch} {q q':Int} {k:ByteArray} {v:Ver}
theorem nil (q:Int):OkL [] q:=⟨List.Pairwise.nil,fun _ h=>(by cases h),fun _ h=>(by cases h),fun _ h=>(by cases h),fun _ h=>(by cases h),fun _ h=>(by cases h)⟩
theorem of_right (h:OkL L q) (k:ByteArray):rightL (L.of k)=true:=by
 cases p:L.has k with
 | true=>exact h.right _ (Ch.mem_has p)
 | false=>rw [Ch.of_no p]; rfl
theorem of_le (h:OkL L q) (k:ByteArray):∀ y,y ∈ L.of k->y.seq<=q:=by
 cases p:L.has k with
 | true=>exact h.le _ (Ch.mem_has p)
 | false=>rw [Ch.of_no p]; exact fun _ h=>by cases h
theorem of_fits (h:OkL L q) (k:ByteArray):FitsL (L.of k):=by
 cases p:L.has k with
 | true=>exact h.fits _ (Ch.mem_has p)
 | false=>rw [Ch.of_no p]; exact fun _ h=>by cases h
theorem put (h:OkL L q) (hk:keyOk k=true) (hv:mayV (lastS (L.of k)) v=true) (hs:v.seq<=q') (hq:q<=q') (hf:v.val.Fits):OkL (L.put k v) q':=by
 refine ⟨Ch.rise_put h.rise,fun x hx=>?_,fun x hx=>?_,fun x hx=>?_,fun x hx=>?_,fun x hx=>?_⟩
 all_goals rcases (Ch.mem_put h.rise).1 hx with rfl | ⟨hm,_⟩
 ·simp
 ·exact h.ne x hm
 ·exact rightL_snoc (h.of_right k) hv
 ·exact h.right x hm
 ·intro y hy
  rcases List.mem_append.1 hy with e | e
  ·have:=h.of_le k y e; omega
  ·simp at e; rw [e]; exact hs
 ·exact fun y hy=>by have:=h.le x hm y hy; omega
 ·exact hk
 ·exact h.key x hm
 ·intro y hy
  rcases List.mem_append.1 hy with e | e
  ·exact h.of_fits k y e
  ·simp at e; rw [e]; exact hf
 ·exact h.fits x hm
theorem swept (h:OkL L q) (f:Int):OkL (L.swept f) q:=by
 refine ⟨?_,fun x hx=>?_,fun x hx=>?_,fun x hx=>?_,fun x hx=>?_,fun x hx=>?_⟩
 ·unfold Ch.Rise Ch.swept
  refine List.Pairwise.filter _ ?_
  rw [List.pairwise_map]
  exact h.rise
 ·unfold Ch.swept at hx
  have:=(List.mem_filter.1 hx).2
  intro e
  rw [e] at this; cases this
 ·obtain ⟨y,hy,e⟩:=mem_swept hx
  rw [e]; exact right_drop (h.right _ hy) _
 ·obtain ⟨y,hy,e⟩:=mem_swept hx
  rw [e]; exact fun z hz=>h.le _ hy z (List.mem_of_mem_drop hz)
 ·obtain ⟨y,hy,e⟩:=mem_swept hx
  exact h.key (x.1,y) hy
 ·obtain ⟨y,hy,e⟩:=mem_swept hx
  rw [e]; exact fun z hz=>h.fits _ hy z (List.mem_of_mem_drop hz)
end OkL

end Go.Proofs.YtbfgpdgiaclphaaGreat

namespace Go.Proofs.YtbfgpdgiaclphaaGreat
open Go.RowKit

theorem Val.ok_txt {x:Val} (h:x.ok=true):x.txt.size<=64:=by
 unfold Val.ok at h
 split at h
 ·simp only [Bool.and_eq_true,decide_eq_true_eq] at h; omega
 ·simp only [Bool.and_eq_true,decide_eq_true_eq] at h; exact h.2
theorem right_ok {l:List Ver} (h:rightL l=true) {y:Ver} (hy:y ∈ l):y.val.ok=true:=by
 obtain ⟨i,hi,rfl⟩:=List.mem_iff_getElem.1 hy
 have:=(rightL_iff l).1 h i hi
 unfold mayV at this
 simp only [Bool.and_eq_true] at this
 have h2:=this.2.2.1
 rwa [List.getD_eq_getElem?_getD,List.getElem?_eq_getElem hi] at h2
def Bnd (L:Ch) (K N:Nat):Prop:=L.length<=K∧∀ k,(L.of k).length<=N
theorem Bnd.mem {L:Ch} {K N:Nat} (h:Bnd L K N) (hr:L.Rise):∀ x,x ∈ L->x.2.length<=N:=fun x hx=>by
 obtain ⟨a,b⟩:=x
 rw [<-Ch.of_mem hr hx]
 exact h.2 a
theorem Bnd.mono {L:Ch} {K N K' N':Nat} (h:Bnd L K N) (hK:K<=K') (hN:N<=N'):Bnd L K' N':=⟨Nat.le_trans h.1 hK,fun k=>Nat.le_trans (h.2 k) hN⟩
theorem Bnd.swept {L:Ch} {K N:Nat} (h:Bnd L K N) (hr:L.Rise) (f:Int):Bnd (L.swept f) K N :=
 ⟨Nat.le_trans (swept_len L f) h.1,fun k=>by rw [Ch.of_swept hr]; unfold sweepL; rw [List.length_drop]; have:=h.2 k; omega⟩
theorem OkL.good {L:Ch} {q:Int} {K N:Nat} (h:OkL L q) (hb:Bnd L K N) (hK:K<=100000) (hN:N<=1000):GoodC L:=by
 refine ⟨Nat.le_trans hb.1 hK,h.fits,fun x hx y hy=>?_,fun x hx=>Nat.le_trans (hb.mem h.rise x hx) hN,fun x hx=>?_,h.rise,fun x hx=>rise_of_right (h.right x hx)⟩
 ·have:=Val.ok_txt (right_ok (h.right x hx) hy); omega
 ·have:=h.key x hx
  unfold keyOk at this
  simp only [Bool.and_eq_true,decide_eq_true_eq] at this
  omega
theorem mayW_at {l:List Wr} (h:mayW l=true) {i:Nat} (hi:i<l.length):wrOk (prevW l i) (l.getD i Wr.Z)=true:=by
 unfold mayW at h
 simp only [Bool.and_eq_true,List.all_eq_true,List.mem_range] at h
 exact h.2.2 i hi
theorem mayW_rise {l:List Wr} (h:mayW l=true) {i j:Nat} (hij:i<j) (hj:j<l.length):ltB (l.getD i Wr.Z).key (l.getD j Wr.Z).key=true:=by
 have step:∀ j,j+1<l.length->ltB (l.getD j Wr.Z).key (l.getD (j+1) Wr.Z).key=true:=fun j hj=>by
  have:=mayW_at h hj
  rw [prevW_succ] at this
  unfold wrOk at this
  simp only [Bool.and_eq_true] at this
  exact this.2.2.2
 obtain ⟨d,rfl⟩:∃ d,j=i+1+d:=⟨j-i-1,by omega⟩
 clear hij
 induction d with
 | zero=>exact step i hj
 | succ d ih=>exact ltB_trans (ih (by omega)) (step (i+1+d) (by omega))
theorem mayW_size {l:List Wr} (h:mayW l=true):l.length<=16:=by
 unfold mayW at h
 simp only [Bool.and_eq_true,decide_eq_true_eq] at h
 exact h.2.1
theorem withW_keeps {L:Ch} {q:Int} {ws:List Wr} {K N:Nat} (h:OkL L q) (hb:Bnd L K N) (hq0:0<=q) (hq:q+1<=1073741824) (hm:mayW ws=true) (hf:FitsW ws):∀ i,i<=ws.length →
  OkL (L.withW (ws.take i) (q+1)) (q+1)∧(∀ k,(∀ j,j<i->(ws.getD j Wr.Z).key≠k)->(L.withW (ws.take i) (q+1)).of k=L.of k)∧Bnd (L.withW (ws.take i) (q+1)) (K+i) (N+1)
 | 0,_=>by
  rw [List.take_zero]
  exact ⟨⟨h.rise,h.ne,h.right,fun x hx y hy=>by have:=h.le x hx y hy; omega,h.key,h.fits⟩,fun _ _=>rfl,hb.mono (Nat.le_refl _) (by omega)⟩
 | i+1,hi=>by
  obtain ⟨o,e,b⟩:=withW_keeps h hb hq0 hq hm hf i (by omega)
  rw [withW_succ L ws (q+1) (by omega)]
  have ne:∀ j,j<i->(ws.getD j Wr.Z).key≠(ws.getD i Wr.Z).key:=fun j hj e=>by
   have:=mayW_rise hm hj (by omega)
   rw [e,ltB_irr] at this; cases this
  have eo:=e _ ne
  have hw:=mayW_at hm (i:=i) (by omega)
  unfold wrOk at hw
  simp only [Bool.and_eq_true] at hw
  have hl:=lastS_le (h.of_le (ws.getD i Wr.Z).key) hq0
  have gz:(!(ws.getD i Wr.Z).gone || (ws.getD i Wr.Z).val.isZ)=true:=hw.2.2.1
  refine ⟨o.put hw.1 ?_ (Int.le_refl _) (Int.le_refl _) (hf.get (by omega)).1,fun k hk=>?_,?_,fun k=>?_⟩
  ·rw [eo]
   unfold mayV Wr.ver
   simp only [Bool.and_eq_true,decide_eq_true_eq]
   exact ⟨by omega,hq,hw.2.1,gz⟩
  ·rw [Ch.of_put o.rise,if_neg (fun z=>hk i (by omega) z.symm)]
   exact e k fun j hj=>hk j (by omega)
  ·have:=Ch.put_len_le (L:=L.withW (ws.take i) (q+1)) (k:=(ws.getD i Wr.Z).key) (v:=(ws.getD i Wr.Z).ver (q+1))
   have:=b.1
   omega
  ·rw [Ch.of_put o.rise]
   by_cases z:k=(ws.getD i Wr.Z).key
   ·rw [if_pos z,eo,List.length_append]
    have:=hb.2 (ws.getD i Wr.Z).key
    rw [List.length_singleton]; omega
   ·rw [if_neg z]; exact b.2 k
theorem OkL.with {L:Ch} {q:Int} {ws:List Wr} {K N:Nat} (h:OkL L q) (hb:Bnd L K N) (hq0:0<=q) (hq:q+1<=1073741824) (hm:mayW ws=true) (hf:FitsW ws):OkL (L.withW ws (q+1)) (q+1)∧Bnd (L.withW ws (q+1)) (K+16) (N+1):=by
 obtain ⟨a,_,c⟩:=withW_keeps h hb hq0 hq hm hf ws.length (Nat.le_refl _)
 rw [List.take_length] at a c
 exact ⟨a,c.mono (by have:=mayW_size hm; omega) (Nat.le_refl _)⟩
theorem OkL.goods {L:Ch} {q:Int} {ws:List Wr} {K N:Nat} (h:OkL L q) (hb:Bnd L K N) (hq0:0<=q) (hq:q+1<=1073741824) (hm:mayW ws=true) (hf:FitsW ws) (hK:K<=9000) (hN:N<=900) :
  ∀ i,i<=ws.length->GoodC (L.withW (ws.take i) (q+1))∧(L.withW (ws.take i) (q+1)).length<=10000:=fun i hi=>by
 obtain ⟨a,_,c⟩:=withW_keeps h hb hq0 hq hm hf i hi
 have:=mayW_size hm
 exact ⟨a.good c (by omega) (by omega),by have:=c.1; omega⟩
theorem OkL.load {l:List En} {sq:Int} (h:mayE l sq=true) (hf:FitsE l) (hs:sq<=1073741824):OkL (loadL l) sq∧Bnd (loadL l) l.length 1:=by
 have mem:∀ x,x ∈ loadL l->∃ i,i<l.length∧x=((l.getD i En.Z).key,[(l.getD i En.Z).ver]):=fun x hx=>by
  obtain ⟨y,hy,rfl⟩:=List.mem_map.1 hx
  obtain ⟨i,hi,rfl⟩:=List.mem_iff_getElem.1 hy
  exact ⟨i,hi,by rw [List.getD_eq_getElem?_getD,List.getElem?_eq_getElem hi]; rfl⟩
 have ok:∀ i,i<l.length->enOk (prevE l i) sq (l.getD i En.Z)=true:=fun i hi=>by
  unfold mayE at h
  simp only [List.all_eq_true,List.mem_range] at h
  exact h i hi
 have ri:=loadL_rise h
 refine ⟨⟨ri,fun x hx=>?_,fun x hx=>?_,fun x hx y hy=>?_,fun x hx=>?_,fun x hx=>?_⟩,by rw [loadL_len]; exact Nat.le_refl _,fun k=>?_⟩
 ·obtain ⟨i,hi,rfl⟩:=mem x hx; simp
 ·obtain ⟨i,hi,rfl⟩:=mem x hx
  have:=ok i hi
  unfold enOk at this
  simp only [Bool.and_eq_true,decide_eq_true_eq] at this
  refine rightL_snoc (l:=[]) rfl ?_
  unfold mayV En.ver lastS
  simp only [Bool.and_eq_true,decide_eq_true_eq]
  exact ⟨by show (0:Int)<_; have:=this.2.2.1; omega,by have:=this.2.2.2.1; omega,this.2.1,rfl⟩
 ·obtain ⟨i,hi,rfl⟩:=mem x hx
  have:=ok i hi
  unfold enOk at this
  simp only [Bool.and_eq_true,decide_eq_true_eq] at this
  simp at hy
  rw [hy]
  exact this.2.2.2.1
 ·obtain ⟨i,hi,rfl⟩:=mem x hx
  have:=ok i hi
  unfold enOk at this
  simp only [Bool.and_eq_true] at this
  exact this.1
 ·obtain ⟨i,hi,rfl⟩:=mem x hx
  intro z hz
  simp at hz
  rw [hz]
  exact (hf.get hi).1
 ·cases p:(loadL l).has k with
  | false=>rw [Ch.of_no p]; simp
  | true =>
   obtain ⟨i,hi,e⟩:=mem _ (Ch.mem_has p)
   injection e with _ e
   rw [e]; exact Nat.le_refl 1

theorem ents_mem {L:Ch} (h:L.Rise) (s:Int) {e:En}:e ∈ L.ents s↔atOk (L.of e.key) s=true∧e.seq=(atL (L.of e.key) s).seq∧e.val=(atL (L.of e.key) s).val:=by
 unfold Ch.ents
 rw [List.mem_filterMap]
 constructor
 ·rintro ⟨⟨k,l⟩,hm,he⟩
  have eo:=Ch.of_mem h hm
  cases z:atOk l s with
  | false=>simp [z] at he
  | true =>
   simp only [z,if_pos] at he
   injection he with he
   subst he
   rw [eo]
   exact ⟨z,rfl,rfl⟩
 ·rintro ⟨z,e1,e2⟩
  have hk:L.has e.key=true:=by
   cases p:L.has e.key with
   | true=>rfl
   | false=>rw [Ch.of_no p] at z; cases z
  refine ⟨(e.key,L.of e.key),Ch.mem_has hk,?_⟩
  simp only [z,if_pos]
  rw [<-e1,<-e2]
theorem ents_rise {L:Ch} (h:L.Rise) (s:Int):(L.ents s).Pairwise fun x y=>ltB x.key y.key=true:=by
 unfold Ch.ents
 rw [List.pairwise_filterMap]
 refine h.imp fun {x y} hxy a ha b hb=>?_
 split at ha
 ·injection ha with ha
  split at hb
  ·injection hb with hb
   rw [<-ha,<-hb]; exact hxy
  ·cases hb
 ·cases ha
theorem eq_of_mem:∀ {a b:List En},(a.Pairwise fun x y=>ltB x.key y.key=true)->(b.Pairwise fun x y=>ltB x.key y.key=true)->(∀ e,e ∈ a↔e ∈ b)->a=b
 | [],[],_,_,_=>rfl
 | [],y :: b,_,_,h=>by have:=(h y).2 (by simp); cases this
 | x :: a,[],_,_,h=>by have:=(h x).1 (by simp); cases this
 | x :: a,y :: b,ha,hb,h=>by
  obtain ⟨hx,pa⟩:=List.pairwise_cons.1 ha
  obtain ⟨hy,pb⟩:=List.pairwise_cons.1 hb
  have exy:x=y:=by
   rcases List.mem_cons.1 ((h x).1 (by simp)) with e | e
   ·exact e
   ·rcases List.mem_cons.1 ((h y).2 (by simp)) with e2 | e2
    ·exact e2.symm
    ·have h1:=hy x e
     have h2:=hx y e2
     rw [ltB_asym h1] at h2; cases h2
  subst exy
  refine congrArg (List.cons x) (eq_of_mem pa pb fun e=>?_)
  constructor
  ·intro he
   rcases List.mem_cons.1 ((h e).1 (List.mem_cons_of_mem _ he)) with z | z
   ·have:=hx e he
    rw [z,ltB_irr] at this; cases this
   ·exact z
  ·intro he
   rcases List.mem_cons.1 ((h e).2 (List.mem_cons_of_mem _ he)) with z | z
   ·have:=hy e he
    rw [z,ltB_irr] at this; cases this
   ·exact z
theorem ents_eq {La Lb:Ch} (ha:La.Rise) (hb:Lb.Rise) (s:Int) (h:∀ k,atOk (La.of k) s=atOk (Lb.of k) s∧atL (La.of k) s=atL (Lb.of k) s):La.ents s=Lb.ents s :=
 eq_of_mem (ents_rise ha s) (ents_rise hb s) fun e=>by
  rw [ents_mem ha,ents_mem hb,(h e.key).1,(h e.key).2]
theorem cnt_all {q:Int}:∀ {l:List Ver},(∀ y,y ∈ l->y.seq<=q)->cnt q l=l.length
 | [],_=>rfl
 | x :: l,h=>by
  unfold cnt
  rw [if_pos (h x (by simp)),cnt_all fun y hy=>h y (List.mem_cons_of_mem _ hy),List.length_cons]
def En.w (e:En):Nat:=if e.val.pack.size=0 then 0 else e.val.pack.size+e.key.size
theorem wgt_at {x:ByteArray × List Ver} {q:Int} (h:∀ y,y ∈ x.2->y.seq<=q):Ch.wgt x=if atOk x.2 q=true then En.w ⟨x.1,(atL x.2 q).seq,(atL x.2 q).val⟩ else 0:=by
 have c:=cnt_all h
 have eo:atOk x.2 q=(decide (0<x.2.length) && !(lastL x.2).gone):=by unfold atOk lastL; rw [c]
 cases z:atOk x.2 q with
 | false =>
  rw [if_neg (by simp)]
  rw [z] at eo
  unfold Ch.wgt
  rw [if_pos]
  unfold weightL
  rw [if_pos]
  by_cases e:x.2.length=0
  ·exact .inl e
  ·rw [decide_eq_true (by omega),Bool.true_and] at eo
   exact .inr (by simpa using eo.symm)
 | true =>
  rw [if_pos rfl]
  have el:atL x.2 q=lastL x.2:=by unfold atL; rw [z,if_pos rfl,c]; rfl
  rw [el]
  rw [z] at eo
  have eo:=eo.symm
  simp only [Bool.and_eq_true,decide_eq_true_eq] at eo
  have wl:weightL x.2=(lastL x.2).val.pack.size:=by
   unfold weightL
   rw [if_neg]
   rintro (e | e)
   ·omega
   ·rw [e] at eo; simp at eo
  unfold Ch.wgt En.w
  rw [wl]
theorem live_ents {q:Int}:∀ {L:Ch},(∀ x,x ∈ L->∀ y,y ∈ x.2->y.seq<=q)->L.live=((L.ents q).map En.w).sum
 | [],_=>rfl
 | x :: L,h=>by
  have ih:=live_ents (L:=L) fun y hy=>h y (List.mem_cons_of_mem _ hy)
  have e:=wgt_at (q:=q) (h x (by simp))
  unfold Ch.live at ih ⊢
  unfold Ch.ents at ih ⊢
  rw [List.map_cons,List.sum_cons,ih,e,List.filterMap_cons]
  cases z:atOk x.2 q with
  | false=>simp
  | true=>simp

end Go.Proofs.YtbfgpdgiaclphaaGreat

namespace Go.Proofs.YtbfgpdgiaclphaaGreat
open Go.RowKit

theorem cnt_snoc {f:Int} {v:Ver} (h:f<v.seq):∀ l:List Ver,cnt f (l++[v])=cnt f l
 | []=>by show (if v.seq<=f then _ else _)=_; rw [if_neg (by omega)]; rfl
 | x :: l=>by
  show (if x.seq<=f then cnt f (l++[v])+1 else 0)=(if x.seq<=f then cnt f l+1 else 0)
  rw [cnt_snoc h l]
theorem sweep_snoc {f:Int} {v:Ver} (h:f<v.seq) (l:List Ver):sweepL (l++[v]) f=sweepL l f++[v]:=by
 have hc:=cnt_le f l
 have ho:=oldL_le l f
 have e:oldL (l++[v]) f=oldL l f:=by
  unfold oldL
  rw [cnt_snoc h]
  by_cases z:cnt f l=0
  ·rw [if_pos z,if_pos z]
  ·rw [if_neg z,if_neg z,snoc_get (by omega)]
 unfold sweepL
 rw [e,List.drop_append_of_le_length (by omega)]
def Sim (La Lb:Ch) (F:Int):Prop:=∀ k,∃ f,f<=F∧Lb.of k=sweepL (La.of k) f
namespace Sim
variable {La Lb:Ch} {F q q':Int} {k:ByteArray} {v:Ver}
theorem nil (F:Int):Sim [] [] F:=fun _=>⟨F,Int.le_refl _,rfl⟩
theorem mono (h:Sim La Lb F) {F':Int} (hF:F<=F'):Sim La Lb F':=fun k=>by
 obtain ⟨f,hf,e⟩:=h k
 exact ⟨f,by omega,e⟩
theorem swept (h:Sim La Lb F) (oa:OkL La q) (ob:OkL Lb q'):Sim La (Lb.swept F) F:=fun k=>by
 obtain ⟨f,hf,e⟩:=h k
 refine ⟨F,Int.le_refl _,?_⟩
 rw [Ch.of_swept ob.rise,e,sweep_twice (rise_of_right (oa.of_right k)),show max f F=F by omega]
theorem put (h:Sim La Lb F) (ha:La.Rise) (hb:Lb.Rise) (hv:F<v.seq):Sim (La.put k v) (Lb.put k v) F:=fun k'=>by
 rw [Ch.of_put ha,Ch.of_put hb]
 by_cases z:k'=k
 ·rw [if_pos z,if_pos z]
  obtain ⟨f,hf,e⟩:=h k
  exact ⟨f,hf,by rw [e,sweep_snoc (by omega)]⟩
 ·rw [if_neg z,if_neg z]; exact h k'
theorem rise_with (ha:La.Rise) (ws:List Wr) (s:Int):(La.withW ws s).Rise:=by
 unfold Ch.withW
 induction ws generalizing La with
 | nil=>exact ha
 | cons x ws ih=>rw [List.foldl_cons]; exact ih (Ch.rise_put ha)
theorem at_ (h:Sim La Lb F) (oa:OkL La q) {s:Int} (hs:F<=s) (k:ByteArray):atOk (La.of k) s=atOk (Lb.of k) s∧atL (La.of k) s=atL (Lb.of k) s:=by
 obtain ⟨f,hf,e⟩:=h k
 have:=sweep_at (rise_of_right (oa.of_right k)) (show f<=s by omega)
 rw [e]
 exact ⟨this.1.symm,this.2.symm⟩
theorem ents (h:Sim La Lb F) (oa:OkL La q) (ob:OkL Lb q') {s:Int} (hs:F<=s):La.ents s=Lb.ents s:=ents_eq oa.rise ob.rise s (h.at_ oa hs)
theorem live (h:Sim La Lb F) (oa:OkL La q) (ob:OkL Lb q) (hF:F<=q):La.live=Lb.live:=by
 rw [live_ents oa.le,live_ents ob.le,h.ents oa ob hF]
theorem since (h:Sim La Lb F) (oa:OkL La q) {s:Int} (hs:F<=s) (k:ByteArray):since La k s=since Lb k s:=by
 obtain ⟨f,hf,e⟩:=h k
 obtain ⟨l,hl⟩:=nmq (La.of k)
 have hr:=rise_of_right (oa.of_right k)
 unfold Go.Proofs.YtbfgpdgiaclphaaGreat.since
 rw [e]
 rw [<-hl] at hr ⊢
 have ho:oldL l f=(if cnt f l=0 then 0 else if (l.getD (cnt f l-1) Ver.Z).gone then cnt f l else cnt f l-1):=rfl
 have hc:=cnt_le f l
 have hle:=oldL_le l f
 by_cases z:oldL l f<l.length
 ·unfold sweepL
  rw [lastL_drop z,List.length_drop,decide_eq_true (show 0<l.length by omega),decide_eq_true (show 0<l.length-oldL l f by omega)]
 ·unfold sweepL
  rw [List.length_drop,decide_eq_false (show ¬ 0<l.length-oldL l f by omega),Bool.false_and]
  by_cases y:0<l.length
  ·have:=(cnt_iff (f:=f) hr (l.length-1) (by omega)).1 (by omega)
   rw [decide_eq_false (show ¬ s<(lastL l).seq by unfold lastL; omega),Bool.and_false]
  ·rw [decide_eq_false y,Bool.false_and]
end Sim
def aftV (L:Ch) (k:ByteArray) (ab:Bool) (s:Int):ByteArray × (Val × Bool) :=
 if L.frm k ab s<L.length then (L.key (L.frm k ab s),((atL (L.chn (L.frm k ab s)) s).val,true)) else (⟨#[]⟩,(Val.V0,false))
theorem vers_le:∀ {La Lb:Ch},La.Rise->Lb.Rise->(∀ y,y ∈ Lb->∃ l,(y.1,l) ∈ La∧y.2.length<=l.length)->Lb.vers<=La.vers
 | _,[],_,_,_=>Nat.zero_le _
 | [],y :: Lb,_,_,h=>by
  obtain ⟨l,hl,_⟩:=h y (by simp)
  cases hl
 | x :: La,y :: Lb,ha,hb,h=>by
  obtain ⟨hx,pa⟩:=List.pairwise_cons.1 ha
  obtain ⟨hy,pb⟩:=List.pairwise_cons.1 hb
  obtain ⟨l,hl,hle⟩:=h y (by simp)
  have tl:∀ z,z ∈ Lb->∃ l,(z.1,l) ∈ La∧z.2.length<=l.length:=fun z hz=>by
   obtain ⟨l2,hl2,hle2⟩:=h z (List.mem_cons_of_mem _ hz)
   rcases List.mem_cons.1 hl2 with e | e
   ·have h1:=hy z hz
    have e1:z.1=x.1:=by rw [<-e]
    rcases List.mem_cons.1 hl with e2 | e2
    ·have e3:y.1=x.1:=by rw [<-e2]
     rw [e3,e1,ltB_irr] at h1; cases h1
    ·have h2:=hx _ e2
     have h2:ltB x.1 y.1=true:=h2
     rw [<-e1,ltB_asym h1] at h2; cases h2
   ·exact ⟨l2,e,hle2⟩
  rcases List.mem_cons.1 hl with e | e
  ·have:=vers_le (La:=La) (Lb:=Lb) pa pb tl
   have e2:l=x.2:=by rw [<-e]
   unfold Ch.vers at this ⊢
   rw [List.map_cons,List.sum_cons,List.map_cons,List.sum_cons]
   rw [e2] at hle
   omega
  ·have:=vers_le (La:=La) (Lb:=y :: Lb) pa hb (fun z hz=>by
    rcases List.mem_cons.1 hz with q | q
    ·rw [q]; exact ⟨l,e,hle⟩
    ·exact tl z q)
   unfold Ch.vers at this ⊢
   rw [List.map_cons (l:=La),List.sum_cons]
   omega
theorem Sim.vers {La Lb:Ch} {F q:Int} (h:Sim La Lb F) (oa:La.Rise) (ob:OkL Lb q):Lb.vers<=La.vers :=
 vers_le oa ob.rise fun y hy=>by
  obtain ⟨a,b⟩:=y
  obtain ⟨f,_,e⟩:=h a
  have eb:=Ch.of_mem ob.rise hy
  rw [eb] at e
  have hn:b≠[]:=ob.ne _ hy
  have hk:La.has a=true:=by
   cases p:La.has a with
   | true=>rfl
   | false=>rw [Ch.of_no p] at e; exact absurd (e.trans (by unfold sweepL; rw [List.drop_nil])) hn
  refine ⟨La.of a,Ch.mem_has hk,?_⟩
  show b.length<=_
  rw [e]; unfold sweepL; rw [List.length_drop]; omega

end Go.Proofs.YtbfgpdgiaclphaaGreat

namespace Go.Proofs.YtbfgpdgiaclphaaGreat
open Go.RowKit

def lateL (f:Int) (l:List Ver):Nat:=l.countP fun y=>decide (f<y.seq)
def late (f:Int) (L:Ch):Nat:=(L.map fun x=>lateL f x.2).sum
theorem sweep_len {l:List Ver} {f q:Int} (hr:RiseV l) (hq:∀ y,y ∈ l->y.seq<=q):(sweepL l f).length<=(if atOk l q=true then 1 else 0)+2 * lateL f l:=by
 have hc:=cnt_le f l
 have late_eq:lateL f l=l.length-cnt f l:=by
  have h1:lateL f (l.take (cnt f l))=0:=by
   unfold lateL
   rw [List.countP_eq_zero]
   intro y hy
   obtain ⟨i,hi,rfl⟩:=List.mem_iff_getElem.1 hy
   rw [List.length_take] at hi
   have:=(cnt_iff (f:=f) hr i (by omega)).1 (by omega)
   rw [List.getD_eq_getElem?_getD,List.getElem?_eq_getElem (by omega)] at this
   rw [List.getElem_take]
   simp only [decide_eq_true_eq]
   have t:l[i].seq<=f:=this
   omega
  have h2:lateL f (l.drop (cnt f l))=(l.drop (cnt f l)).length:=by
   unfold lateL
   rw [List.countP_eq_length]
   intro y hy
   obtain ⟨i,hi,rfl⟩:=List.mem_iff_getElem.1 hy
   rw [List.length_drop] at hi
   have:=cnt_iff (f:=f) hr (cnt f l+i) (by omega)
   rw [List.getD_eq_getElem?_getD,List.getElem?_eq_getElem (by omega)] at this
   rw [List.getElem_drop]
   simp only [decide_eq_true_eq]
   by_cases z:l[cnt f l+i].seq<=f
   ·have:=this.2 z; omega
   ·omega
  have e:lateL f l=lateL f (l.take (cnt f l))+lateL f (l.drop (cnt f l)):=by
   unfold lateL
   rw [<-List.countP_append,List.take_append_drop]
  rw [e,h1,h2,List.length_drop]; omega
 rw [late_eq]
 unfold sweepL
 rw [List.length_drop]
 have ho:oldL l f=(if cnt f l=0 then 0 else if (l.getD (cnt f l-1) Ver.Z).gone then cnt f l else cnt f l-1):=rfl
 by_cases z:cnt f l=0
 ·rw [if_pos z] at ho; omega
 ·rw [if_neg z] at ho
  cases g:(l.getD (cnt f l-1) Ver.Z).gone with
  | true=>rw [g,if_pos rfl] at ho; omega
  | false =>
   rw [g] at ho
   simp only [Bool.false_eq_true,if_false] at ho
   by_cases y:cnt f l=l.length
   ·have e:atOk l q=true:=by
     unfold atOk
     rw [cnt_all hq,decide_eq_true (by omega),Bool.true_and,<-y,g]; rfl
    rw [if_pos e]; omega
   ·omega
theorem vers_swept {f q:Int}:∀ {L:Ch},(∀ x,x ∈ L->RiseV x.2∧∀ y,y ∈ x.2->y.seq<=q)->(L.swept f).vers<=(L.ents q).length+2 * late f L
 | [],_=>Nat.zero_le _
 | x :: L,h=>by
  have ih:=vers_swept (f:=f) (L:=L) fun y hy=>h y (List.mem_cons_of_mem _ hy)
  obtain ⟨h1,h2⟩:=h x (by simp)
  have hl:=sweep_len (f:=f) h1 h2
  have el:(Ch.ents (x :: L) q).length=(if atOk x.2 q=true then 1 else 0)+(Ch.ents L q).length:=by
   unfold Ch.ents
   rw [List.filterMap_cons]
   cases z:atOk x.2 q with
   | false=>simp
   | true=>simp; omega
  have ev:(Ch.swept (x :: L) f).vers<=(sweepL x.2 f).length+(Ch.swept L f).vers:=by
   unfold Ch.swept Ch.vers
   rw [List.map_cons,List.filter_cons]
   split
   ·rw [List.map_cons,List.sum_cons]; exact Nat.le_refl _
   ·omega
  have et:late f (x :: L)=lateL f x.2+late f L:=by unfold late; rw [List.map_cons,List.sum_cons]
  rw [el,et]
  omega
theorem sum_take_drop {α:Type} (g:α->Nat) (l:List α) (i:Nat):(l.map g).sum=((l.take i).map g).sum+((l.drop i).map g).sum:=by
 rw [<-List.sum_append,<-List.map_append,List.take_append_drop]
theorem sum_put {L:Ch} {k:ByteArray} {v:Ver} (g:List Ver->Nat) (n:Nat) (h1:∀ l,g (l++[v])=g l+n) (h0:g [v]=n):((L.put k v).map fun x=>g x.2).sum=(L.map fun x=>g x.2).sum+n:=by
 cases q:L.has k with
 | true =>
  obtain ⟨p,e⟩:=(Ch.has_iff L k).1 q
  have ep:L.put k v=L.take (L.pos k)++(k,L.chn (L.pos k)++[v]) :: L.drop (L.pos k+1):=by
   unfold Ch.put
   rw [if_pos q,List.set_eq_take_append_cons_drop,if_pos p]
  have el:L=L.take (L.pos k)++(L.key (L.pos k),L.chn (L.pos k)) :: L.drop (L.pos k+1):=by
   rw [<-Ch.getE L p,List.getElem_cons_drop,List.take_append_drop]
  rw [ep]
  conv=>rhs; rw [el]
  rw [List.map_append,List.map_append,List.sum_append,List.sum_append,List.map_cons,List.map_cons,List.sum_cons,List.sum_cons]
  show _+(g (L.chn (L.pos k)++[v])+_)=_+(g (L.chn (L.pos k))+_)+n
  rw [h1]; omega
 | false =>
  have ep:L.put k v=L.take (L.pos k)++(k,[v]) :: L.drop (L.pos k):=by unfold Ch.put; rw [q]; rfl
  rw [ep,List.map_append,List.sum_append,List.map_cons,List.sum_cons,sum_take_drop (fun x:ByteArray × List Ver=>g x.2) L (L.pos k)]
  show _+(g [v]+_)=_
  rw [h0]; omega
theorem vers_put {L:Ch} {k:ByteArray} {v:Ver}:(L.put k v).vers=L.vers+1:=sum_put (fun l=>l.length) 1 (fun l=>by simp) rfl
theorem late_put {L:Ch} {k:ByteArray} {v:Ver} {f:Int} (h:f<v.seq):late f (L.put k v)=late f L+1 :=
 sum_put (lateL f) 1 (fun l=>by unfold lateL; rw [List.countP_append]; simp [h]) (by unfold lateL; simp [h])
theorem vers_with (L:Ch) (ws:List Wr) (s:Int):(L.withW ws s).vers=L.vers+ws.length:=by
 unfold Ch.withW
 induction ws generalizing L with
 | nil=>rfl
 | cons x ws ih=>rw [List.foldl_cons,ih,vers_put,List.length_cons]; omega
theorem late_with (L:Ch) (ws:List Wr) {s f:Int} (h:f<s):late f (L.withW ws s)=late f L+ws.length:=by
 unfold Ch.withW
 induction ws generalizing L with
 | nil=>rfl
 | cons x ws ih=>rw [List.foldl_cons,ih,late_put h,List.length_cons]; omega
theorem late_swept (L:Ch) (f g:Int):late f (L.swept g)<=late f L:=by
 unfold late Ch.swept
 induction L with
 | nil=>exact Nat.le_refl _
 | cons x L ih =>
  rw [List.map_cons,List.filter_cons]
  have e1:lateL f (sweepL x.2 g)<=lateL f x.2:=(List.drop_sublist _ _).countP_le
  split
  ·rw [List.map_cons,List.sum_cons,List.map_cons,List.sum_cons]; exact Nat.add_le_add e1 ih
  ·rw [List.map_cons,List.sum_cons]; exact Nat.le_trans ih (Nat.le_add_left _ _)

theorem ents_may {L:Ch} {q:Int} (h:OkL L q):mayE (L.ents q) q=true∧FitsE (L.ents q)∧(L.ents q).length<=L.length:=by
 have hr:=ents_rise h.rise q
 have el:∀ e,e ∈ L.ents q->keyOk e.key=true∧e.val.ok=true∧1<=e.seq∧e.seq<=q∧e.val.Fits∧e.key.size<=1000∧e.val.txt.size<=1000:=fun e he=>by
  obtain ⟨h1,h2,h3⟩:=(ents_mem h.rise q).1 he
  have hk:L.has e.key=true:=by
   cases p:L.has e.key with
   | true=>rfl
   | false=>rw [Ch.of_no p] at h1; cases h1
  have hm:=Ch.mem_has hk
  have c:=cnt_all (h.le _ hm)
  have ea:atL (L.of e.key) q=lastL (L.of e.key):=by unfold atL; rw [h1,if_pos rfl,c]; rfl
  have ne:0<(L.of e.key).length:=Nat.pos_of_ne_zero fun z=>h.ne _ hm (List.eq_nil_of_length_eq_zero z)
  have lm:lastL (L.of e.key) ∈ L.of e.key:=by
   unfold lastL
   rw [List.getD_eq_getElem?_getD,List.getElem?_eq_getElem (by omega)]
   exact List.getElem_mem _
  have vo:=right_ok (h.right _ hm) lm
  have sp:=seq_pos (h.right _ hm) (i:=(L.of e.key).length-1) (by show _<(L.of e.key).length; omega)
  have kk:keyOk e.key=true:=h.key _ hm
  have k32:e.key.size<=32:=by
   unfold keyOk at kk
   simp only [Bool.and_eq_true,decide_eq_true_eq] at kk
   exact kk.2
  rw [ea] at h2 h3
  have t64:=Val.ok_txt vo
  exact ⟨kk,by rw [h3]; exact vo,by rw [h2]; exact sp,by rw [h2]; exact h.le _ hm _ lm,by rw [h3]; exact h.fits _ hm _ lm,by omega,by rw [h3]; omega⟩
 refine ⟨mayE_yes fun j hj=>?_,fun e he=>(el e he).2.2.2.2,ents_len L q⟩
 have he:(L.ents q).getD j En.Z ∈ L.ents q:=by
  rw [List.getD_eq_getElem?_getD,List.getElem?_eq_getElem hj]
  exact List.getElem_mem _
 obtain ⟨a,b,c,d,_⟩:=el _ he
 unfold enOk
 rw [a,b,decide_eq_true c,decide_eq_true d,Bool.true_and,Bool.true_and,Bool.true_and,Bool.true_and]
 unfold prevE
 by_cases z:j=0
 ·rw [if_pos z]
 ·rw [if_neg z]
  have:=List.pairwise_iff_getElem.1 hr (j-1) j (by omega) hj (by omega)
  show ltB ((L.ents q).getD (j-1) En.Z).key ((L.ents q).getD j En.Z).key=true
  rw [List.getD_eq_getElem?_getD,List.getD_eq_getElem?_getD,List.getElem?_eq_getElem (by omega),List.getElem?_eq_getElem hj]
  exact this
theorem loadL_of {l:List En} {sq:Int} (h:mayE l sq=true) (hf:FitsE l) (hs:sq<=1073741824) (k:ByteArray):∀ e,e ∈ l->e.key=k->(loadL l).of k=[e.ver]:=fun e he hk=>by
 refine Ch.of_mem (OkL.load h hf hs).1.rise ?_
 rw [<-hk]
 exact List.mem_map.2 ⟨e,he,rfl⟩
theorem at_one (e:En) {q:Int} (h:e.seq<=q):atOk [e.ver] q=true∧atL [e.ver] q=e.ver:=by
 have c1:cnt q [e.ver]=1:=cnt_all (fun y hy=>by rw [List.mem_singleton.1 hy]; exact h)
 have ok:atOk [e.ver] q=true:=by unfold atOk; rw [c1]; rfl
 refine ⟨ok,?_⟩
 unfold atL
 rw [ok,if_pos rfl,c1]; rfl
theorem load_at {L:Ch} {q:Int} (h:OkL L q) (hq:q<=1073741824) (k:ByteArray):atOk ((loadL (L.ents q)).of k) q=atOk (L.of k) q∧atL ((loadL (L.ents q)).of k) q=⟨(atL (L.of k) q).seq,false,(atL (L.of k) q).val⟩:=by
 obtain ⟨h1,h2,_⟩:=ents_may h
 cases z:atOk (L.of k) q with
 | true =>
  have hm:(⟨k,(atL (L.of k) q).seq,(atL (L.of k) q).val⟩:En) ∈ L.ents q:=(ents_mem h.rise q).2 ⟨z,rfl,rfl⟩
  rw [loadL_of h1 h2 hq k _ hm rfl]
  have le:(atL (L.of k) q).seq<=q:=by
   have:=(loadL_of h1 h2 hq k _ hm rfl)
   have o:=(OkL.load h1 h2 hq).1.of_le k
   rw [this] at o
   exact o (En.ver ⟨k,(atL (L.of k) q).seq,(atL (L.of k) q).val⟩) (List.mem_singleton.2 rfl)
  exact at_one ⟨k,(atL (L.of k) q).seq,(atL (L.of k) q).val⟩ le
 | false =>
  have hn:(loadL (L.ents q)).has k=false:=by
   cases p:(loadL (L.ents q)).has k with
   | false=>rfl
   | true =>
    obtain ⟨e,he,ee⟩:=List.mem_map.1 (Ch.mem_has p)
    injection ee with e1 _
    have:=((ents_mem h.rise q).1 he).1
    rw [e1,z] at this; cases this
  rw [Ch.of_no hn]
  refine ⟨rfl,?_⟩
  have e:atL (L.of k) q=Ver.Z:=by unfold atL; rw [z]; rfl
  rw [e]; rfl
theorem load_ents {L:Ch} {q:Int} (h:OkL L q) (hq:q<=1073741824):(loadL (L.ents q)).ents q=L.ents q:=by
 obtain ⟨h1,h2,_⟩:=ents_may h
 have o:=(OkL.load h1 h2 hq).1
 refine eq_of_mem (ents_rise o.rise q) (ents_rise h.rise q) fun e=>?_
 rw [ents_mem o.rise,ents_mem h.rise,(load_at h hq e.key).1,(load_at h hq e.key).2]
theorem load_live {L:Ch} {q:Int} (h:OkL L q) (hq:q<=1073741824):(loadL (L.ents q)).live=L.live:=by
 obtain ⟨h1,h2,_⟩:=ents_may h
 rw [live_ents (OkL.load h1 h2 hq).1.le,live_ents h.le,load_ents h hq]
theorem load_vers (l:List En):(loadL l).vers=l.length:=by
 unfold Ch.vers loadL
 rw [List.map_map]
 induction l with
 | nil=>rfl
 | cons x l ih=>rw [List.map_cons,List.sum_cons,ih,List.length_cons]; show 1+_=_; omega

end Go.Proofs.YtbfgpdgiaclphaaGreat

namespace Go.Proofs.YtbfgpdgiaclphaaGreat
open Go.RowKit

structure Rm where
 zs:List Int
 quota:Int
 most:Int
 r:Rg
 L:Ch
namespace Rm
structure Ok (m:Rm):Prop where
 st:stOk m.zs m.r.size m.quota m.most=true
 r:m.r.Ok
 L:OkL m.L (m.r.seq:Int)
 seq:(m.r.seq:Int)<=m.most
 live:(m.L.live:Int)<=m.quota
def Few (m:Rm):Prop:=Bnd m.L 3900 500∧m.r.l.length<=500
def floor (m:Rm):Int:=(m.r.floor:Int)
def seq (m:Rm):Int:=(m.r.seq:Int)
def chk (m:Rm) (ws:List Wr) (s:Int):Int:=chkE m.r m.L ws s m.quota m.most
def comE (m:Rm) (ws:List Wr) (x:Int):Int:=Go.Proofs.YtbfgpdgiaclphaaGreat.comE m.r m.L ws x m.quota m.most
def comN (m:Rm) (ws:List Wr) (x:Int):Int:=Go.Proofs.YtbfgpdgiaclphaaGreat.comN m.r m.L ws x m.quota m.most
def com (m:Rm) (ws:List Wr) (x:Int):Rm:=⟨m.zs,m.quota,m.most,comR m.r m.L ws x m.quota m.most,comL m.r m.L ws x m.quota m.most⟩
def sw (m:Rm):Rm:=⟨m.zs,m.quota,m.most,m.r,m.L.swept m.floor⟩
def gone (m:Rm):Int:=(m.L.vers:Int)-((m.L.swept m.floor).vers:Int)
def ents (m:Rm):List En:=m.L.ents m.seq
def new (zs:List Int) (g1 g2 g3 sq:Int) (L:Ch):Rm:=⟨zs,g2,g3,⟨g1.toNat,sq.toNat,[]⟩,L⟩
end Rm
abbrev RelM:=World->Nat->(Nat->Prop)->Rm->Prop
def LeftM (R:RelM) (b:Nat) (F:Nat->Prop) (w:World) (m:Rm) (w':World):Prop:=Chg F w w'∧∃ F',R w' b F' m∧∀ k,F' k->F k∨w.heap.size<=k
abbrev PtrM (b:Nat):Value:=.pointer (some ⟨b,0,none⟩)
def GoodW (w:World) (F:Nat->Prop) (A:Option Addr) (ws:List Wr):Prop:=SlWr w A ws∧FitsW ws∧ws.length<=1000∧(0<ws.length->∀ a,A=some a->¬ F a.block)∧∀ x,x ∈ ws->x.key.size<=1000∧x.val.txt.size<=1000
structure RoomLo (R:RelM):Prop where
 keep:∀ {w w':World} {b:Nat} {F:Nat->Prop} {m:Rm},R w b F m->(∀ k,F k->w'.heap[k]?=w.heap[k]?)->w.heap.size<=w'.heap.size->R w' b F m
 lt:∀ {w:World} {b:Nat} {F:Nat->Prop} {m:Rm} {k:Nat},R w b F m->F k->k<w.heap.size
 ok:∀ {w:World} {b:Nat} {F:Nat->Prop} {m:Rm},R w b F m->m.Ok
 new:∀ (A:Option Addr) (c:Nat) (zs:List Int) (g1 g2 g3:Int) (w:World),Sl w A zs->zs.length<=1000->La.U64 zs →
  Calls Tryz.prog 11 #[.agg #[.slice A zs.length c,.int .i64 g1,.int .i64 g2,.int .i64 g3]] w fun e w'=>Below w.heap.size w w' ∧
   ((stOk zs g1 g2 g3=true∧∃ b F,e=.returned (.tuple #[PtrM b,.int .i64 0])∧R w' b F (Rm.new zs g1 g2 g3 0 [])∧∀ k,F k->w.heap.size<=k) ∨
    (stOk zs g1 g2 g3=false∧e=.returned (.tuple #[.pointer none,.int .i64 1])))
 load:∀ (A:Option Addr) (c:Nat) (zs:List Int) (g1 g2 g3 sq:Int) (l:List En) (A2:Option Addr) (c2:Nat) (w:World),Sl w A zs->zs.length<=1000->La.U64 zs->SlEn w A2 l->FitsE l->l.length<=3900 →
  Calls Tryz.prog 38 #[.agg #[.slice A zs.length c,.int .i64 g1,.int .i64 g2,.int .i64 g3],.int .i64 sq,.slice A2 l.length c2] w fun e w'=>Below w.heap.size w w' ∧
   ((ldE zs g1 g2 g3 sq l≠0∧e=.returned (.tuple #[.pointer none,.int .i64 (ldE zs g1 g2 g3 sq l)])) ∨
    (ldE zs g1 g2 g3 sq l=0∧∃ b F,e=.returned (.tuple #[PtrM b,.int .i64 0])∧R w' b F (Rm.new zs g1 g2 g3 sq (loadL l))∧∀ k,F k->w.heap.size<=k))
 seq:∀ (b:Nat) (F:Nat->Prop) (m:Rm) (w:World),R w b F m->Calls Tryz.prog 27 #[PtrM b] w fun e w'=>e=.returned (.int .i64 m.seq)∧LeftM R b F w m w'
 floor:∀ (b:Nat) (F:Nat->Prop) (m:Rm) (w:World),R w b F m->Calls Tryz.prog 29 #[PtrM b] w fun e w'=>e=.returned (.int .i64 m.floor)∧LeftM R b F w m w'
 get:∀ (b:Nat) (F:Nat->Prop) (m:Rm) (k:ByteArray) (s:Int) (w:World),R w b F m->m.Few->k.size<=1000 →
  Calls Tryz.prog 30 #[PtrM b,.string k,.int .i64 s] w fun e w'=>e=.returned (.tuple #[(atL (m.L.of k) s).val.v,.bool (atOk (m.L.of k) s)])∧LeftM R b F w m w'
 check:∀ (b:Nat) (F:Nat->Prop) (m:Rm) (ws:List Wr) (A:Option Addr) (c:Nat) (s:Int) (w:World),R w b F m->m.Few->GoodW w F A ws →
  Calls Tryz.prog 32 #[PtrM b,.slice A ws.length c,.int .i64 s] w fun e w'=>e=.returned (.int .i64 (m.chk ws s))∧LeftM R b F w m w'
 commit:∀ (b:Nat) (F:Nat->Prop) (m:Rm) (ws:List Wr) (A:Option Addr) (c:Nat) (x:Int) (w:World),R w b F m->m.Few->GoodW w F A ws->0<=x->x<=18446744073709551615 →
  Calls Tryz.prog 26 #[PtrM b,.slice A ws.length c,.int .u64 x] w fun e w'=>e=.returned (.tuple #[.int .i64 (m.comN ws x),.int .i64 (m.comE ws x)])∧LeftM R b F w (m.com ws x) w'
 sweep:∀ (b:Nat) (F:Nat->Prop) (m:Rm) (w:World),R w b F m->m.Few->Calls Tryz.prog 28 #[PtrM b] w fun e w'=>e=.returned (.int .i64 m.gone)∧LeftM R b F w m.sw w'
 live:∀ (b:Nat) (F:Nat->Prop) (m:Rm) (w:World),R w b F m->m.Few->Calls Tryz.prog 33 #[PtrM b] w fun e w'=>e=.returned (.int .i64 (m.L.live:Nat))∧LeftM R b F w m w'
 keys:∀ (b:Nat) (F:Nat->Prop) (m:Rm) (w:World),R w b F m->m.Few->Calls Tryz.prog 34 #[PtrM b] w fun e w'=>e=.returned (.int .i64 (m.ents.length:Nat))∧LeftM R b F w m w'
 vers:∀ (b:Nat) (F:Nat->Prop) (m:Rm) (w:World),R w b F m->m.Few->Calls Tryz.prog 35 #[PtrM b] w fun e w'=>e=.returned (.int .i64 (m.L.vers:Nat))∧LeftM R b F w m w'
 entries:∀ (b:Nat) (F:Nat->Prop) (m:Rm) (w:World),R w b F m->m.Few →
  Calls Tryz.prog 37 #[PtrM b] w fun e w'=>(∃ A c,e=.returned (.slice A m.ents.length c)∧SlEn w' A m.ents∧(0<m.ents.length->∃ g o,A=some ⟨g,o,none⟩∧w.heap.size<=g))∧Below w.heap.size w w'
structure RoomSw (R:RelM):Prop extends RoomLo R where
 after:∀ (b:Nat) (F:Nat->Prop) (m:Rm) (k:ByteArray) (s:Int) (w:World),R w b F m->m.Few->k.size<=1000 →
  Calls Tryz.prog 31 #[PtrM b,.string k,.int .i64 s] w fun e w'=>e=.returned (.tuple #[.string (aftV m.L k true s).1,(aftV m.L k true s).2.1.v,.bool (aftV m.L k true s).2.2])∧LeftM R b F w m w'
structure RoomAt (R:RelM):Prop extends RoomSw R where
 right:∀ (A:Option Addr) (c:Nat) (zs:List Int) (g1 g2 g3:Int) (w:World),Sl w A zs->zs.length<=1000->La.U64 zs →
  Calls Tryz.prog 12 #[.agg #[.slice A zs.length c,.int .i64 g1,.int .i64 g2,.int .i64 g3]] w fun e w'=>e=.returned (.bool (stOk zs g1 g2 g3))∧Below w.heap.size w w'
 may:∀ (ws:List Wr) (A:Option Addr) (c:Nat) (w:World),GoodW w (fun _=>False) A ws->Calls Tryz.prog 18 #[.slice A ws.length c] w fun e w'=>e=.returned (.bool (mayW ws))∧Below w.heap.size w w'
 setting:∀ (b:Nat) (F:Nat->Prop) (m:Rm) (w:World),R w b F m →
  Calls Tryz.prog 24 #[PtrM b] w fun e w'=>(∃ A c,e=.returned (.agg #[.slice A m.zs.length c,.int .i64 (m.r.size:Nat),.int .i64 m.quota,.int .i64 m.most])∧Sl w' A m.zs)∧LeftM R b F w m w'
 asOf:∀ (b:Nat) (F:Nat->Prop) (m:Rm) (x:Int) (w:World),R w b F m->m.Few->0<=x->x<=18446744073709551615 →
  Calls Tryz.prog 16 #[PtrM b,.int .u64 x] w fun e w'=>e=.returned (.tuple #[.int .i64 (m.r.asOf x:Nat),.int .i64 (m.r.asNo x)])∧LeftM R b F w m w'
 seek:∀ (b:Nat) (F:Nat->Prop) (m:Rm) (k:ByteArray) (s:Int) (w:World),R w b F m->m.Few->k.size<=1000 →
  Calls Tryz.prog 40 #[PtrM b,.string k,.int .i64 s] w fun e w'=>e=.returned (.tuple #[.string (aftV m.L k false s).1,(aftV m.L k false s).2.1.v,.bool (aftV m.L k false s).2.2])∧LeftM R b F w m w'
 nil_:∀ (ws:List Wr) (A:Option Addr) (c:Nat) (k:ByteArray) (s x:Int) (w:World),
  (Calls Tryz.prog 24 #[.pointer none] w fun e w'=>(∃ A c,e=.returned (.agg #[.slice A 0 c,.int .i64 0,.int .i64 0,.int .i64 0]))∧Below w.heap.size w w') ∧
  (Calls Tryz.prog 27 #[.pointer none] w fun e w'=>e=.returned (.int .i64 0)∧Below w.heap.size w w') ∧
  (Calls Tryz.prog 29 #[.pointer none] w fun e w'=>e=.returned (.int .i64 0)∧Below w.heap.size w w') ∧
  (Calls Tryz.prog 16 #[.pointer none,.int .u64 x] w fun e w'=>e=.returned (.tuple #[.int .i64 0,.int .i64 2])∧Below w.heap.size w w') ∧
  (Calls Tryz.prog 30 #[.pointer none,.string k,.int .i64 s] w fun e w'=>e=.returned (.tuple #[Val.V0.v,.bool false])∧Below w.heap.size w w') ∧
  (Calls Tryz.prog 31 #[.pointer none,.string k,.int .i64 s] w fun e w'=>e=.returned (.tuple #[.string ⟨#[]⟩,Val.V0.v,.bool false])∧Below w.heap.size w w') ∧
  (Calls Tryz.prog 40 #[.pointer none,.string k,.int .i64 s] w fun e w'=>e=.returned (.tuple #[.string ⟨#[]⟩,Val.V0.v,.bool false])∧Below w.heap.size w w') ∧
  (Calls Tryz.prog 32 #[.pointer none,.slice A ws.length c,.int .i64 s] w fun e w'=>e=.returned (.int .i64 2)∧Below w.heap.size w w') ∧
  (Calls Tryz.prog 26 #[.pointer none,.slice A ws.length c,.int .u64 x] w fun e w'=>e=.returned (.tuple #[.int .i64 0,.int .i64 2])∧Below w.heap.size w w') ∧
  (Calls Tryz.prog 28 #[.pointer none] w fun e w'=>e=.returned (.int .i64 0)∧Below w.heap.size w w') ∧
  (Calls Tryz.prog 33 #[.pointer none] w fun e w'=>e=.returned (.int .i64 0)∧Below w.heap.size w w') ∧
  (Calls Tryz.prog 34 #[.pointer none] w fun e w'=>e=.returned (.int .i64 0)∧Below w.heap.size w w') ∧
  (Calls Tryz.prog 35 #[.pointer none] w fun e w'=>e=.returned (.int .i64 0)∧Below w.heap.size w w') ∧
  (Calls Tryz.prog 37 #[.pointer none] w fun e w'=>(∃ A c,e=.returned (.slice A 0 c))∧Below w.heap.size w w')
theorem RoomAt.lo {R:RelM} (X:RoomAt R):RoomLo R:=X.toRoomSw.toRoomLo
instance {R:RelM}:Coe (RoomSw R) (RoomLo R):=⟨fun X=>X.toRoomLo⟩
instance {R:RelM}:Coe (RoomAt R) (RoomLo R):=⟨fun X=>X.lo⟩

theorem RoomLo.entriesL {R:RelM} (X:RoomLo R) (b:Nat) (F:Nat->Prop) (m:Rm) (w:World) (h:R w b F m) (hf:m.Few) :
  Calls Tryz.prog 37 #[PtrM b] w fun e w'=>(∃ A c,e=.returned (.slice A m.ents.length c)∧SlEn w' A m.ents∧(0<m.ents.length->∃ g o,A=some ⟨g,o,none⟩∧w.heap.size<=g))∧LeftM R b F w m w' :=
 (X.entries b F m w h hf).mono fun _ _ ⟨h1,hb⟩=>⟨h1,Chg.of_below hb,F,X.keep h (fun k e=>hb.block k (X.lt h e)) hb.size,fun _ e=>.inl e⟩
def obP {R:RelM} (X:RoomLo R) (b:Nat) (m:Rm):Ob:=⟨fun w F=>R w b F m,fun h hk hs=>X.keep h hk hs,fun h e=>X.lt h e⟩
def RefM (w:World) (p:Nat) (F:Nat->Prop) (m:Rm):Prop :=
 ∃ q v lb G A c,(∀ k,F k↔(k=p∨rfoot q v k∨G k))∧RoomG w p q v lb m.quota m.most m.r G A c m.L∧SepR p q v G
theorem RefM.keep {w w':World} {p:Nat} {F:Nat->Prop} {m:Rm} (h:RefM w p F m) (hk:∀ k,F k->w'.heap[k]?=w.heap[k]?) (hs:w.heap.size<=w'.heap.size):RefM w' p F m:=by
 obtain ⟨q,v,lb,G,A,c,hF,hr,sp⟩:=h
 exact ⟨q,v,lb,G,A,c,hF,⟨(hk p ((hF p).2 (.inl rfl))).trans hr.row,hr.ring.keep fun k e=>hk k ((hF k).2 (.inr (.inl e))),hr.sl.keep (fun k e=>hk k ((hF k).2 (.inr (.inr e)))) hs,fun x e=>Nat.lt_of_lt_of_le (hr.lt x e) hs⟩,sp⟩
theorem RefM.lt {w:World} {p:Nat} {F:Nat->Prop} {m:Rm} {k:Nat} (h:RefM w p F m) (e:F k):k<w.heap.size:=by
 obtain ⟨q,v,lb,G,A,c,hF,hr,sp⟩:=h
 rcases (hF k).1 e with e | e | e
 ·rw [e]; exact hr.row.lt
 ·exact hr.ring.lt k e
 ·exact hr.lt k e
def obM (p:Nat) (m:Rm):Ob:=⟨fun w F=>RefM w p F m,fun h hk hs=>h.keep hk hs,fun h e=>h.lt e⟩
theorem LeftR1.leftM {w w':World} {p q:Nat} {v lb:Value} {m:Rm} {G:Nat->Prop} {r:Rg} {L:Ch} {F:Nat->Prop} (hF:∀ k,F k↔(k=p∨rfoot q v k∨G k)) (h:LeftR1 w p q v lb m.quota m.most G r L w') :
  LeftM RefM p F w ⟨m.zs,m.quota,m.most,r,L⟩ w':=by
 obtain ⟨c,v',G',A',c',hr,sp,h1,h2⟩:=h
 refine ⟨c.mono fun k e=>(hF k).2 (e.imp id fun e=>.inl e),fun k=>k=p∨rfoot q v' k∨G' k,⟨q,v',lb,G',A',c',fun k=>Iff.rfl,hr,sp⟩,fun k e=>?_⟩
 rcases e with e | e | e
 ·exact .inl ((hF k).2 (.inl e))
 ·rcases h1 k e with z | z
  ·exact .inl ((hF k).2 (.inr (.inl z)))
  ·exact .inr z
 ·rcases h2 k e with z | z
  ·exact .inl ((hF k).2 (.inr (.inr z)))
  ·exact .inr z
theorem RefM.same {w w':World} {p:Nat} {F:Nat->Prop} {m:Rm} (h:RefM w p F m) (hb:Below w.heap.size w w'):LeftM RefM p F w m w' :=
 ⟨Chg.of_below hb,F,h.keep (fun k e=>hb.block k (h.lt e)) hb.size,fun _ e=>.inl e⟩

end Go.Proofs.YtbfgpdgiaclphaaGreat

namespace Go.Proofs.YtbfgpdgiaclphaaGreat
open Go.RowKit

theorem bool_yes {b:Bool} (h:¬ b=false):b=true:=by cases b<;>simp at h ⊢
namespace Rm
variable {m:Rm} {ws:List Wr} {x:Int} {K N:Nat}
theorem st_parts {zs:List Int} {g1 g2 g3:Int} (h:stOk zs g1 g2 g3=true):1<=g1∧g1<=16∧0<=g2∧1<=g3∧g3<=1073741824:=by
 unfold stOk at h
 simp only [Bool.and_eq_true,decide_eq_true_eq] at h
 omega
theorem new_r {g1 sq:Int} (h1:1<=g1) (h2:g1<=16) (h3:0<=sq) (h4:sq<=1073741824):Rg.Ok ⟨g1.toNat,sq.toNat,[]⟩ :=
 ⟨by show 1<=g1.toNat; omega,by show g1.toNat<=16; omega,by show sq.toNat+0<=_; omega,fun i j _ hj=>(by cases hj),fun i hi=>(by cases hi)⟩
theorem ok_new {zs:List Int} {g1 g2 g3:Int} (h:stOk zs g1 g2 g3=true):(Rm.new zs g1 g2 g3 0 []).Ok:=by
 obtain ⟨h1,h2,h3,h4,h5⟩:=st_parts h
 refine ⟨?_,new_r h1 h2 (Int.le_refl _) (by decide),OkL.nil _,?_,?_⟩
 ·show stOk zs ((g1.toNat:Nat):Int) g2 g3=true
  rw [Int.toNat_of_nonneg (by omega)]; exact h
 ·show ((0:Nat):Int)<=g3; omega
 ·show ((0:Nat):Int)<=g2; omega
theorem few_new (zs:List Int) (g1 g2 g3:Int):Bnd (Rm.new zs g1 g2 g3 0 []).L 0 0:=⟨Nat.le_refl _,fun _=>Nat.le_refl _⟩
theorem ld_parts {zs:List Int} {g1 g2 g3 sq:Int} {l:List En} (h:ldE zs g1 g2 g3 sq l=0):stOk zs g1 g2 g3=true∧0<=sq∧sq<=g3∧mayE l sq=true∧((loadL l).live:Int)<=g2:=by
 unfold ldE at h
 split at h
 ·cases h
 ·rename_i z
  split at h
  ·cases h
  ·rename_i y
   split at h
   ·cases h
   ·rename_i u
    have z:=bool_yes z
    simp only [Bool.and_eq_true,decide_eq_true_eq] at z
    exact ⟨z.1,z.2.1,z.2.2,bool_yes y,by omega⟩
theorem ok_load {zs:List Int} {g1 g2 g3 sq:Int} {l:List En} (h:ldE zs g1 g2 g3 sq l=0) (hf:FitsE l):(Rm.new zs g1 g2 g3 sq (loadL l)).Ok∧Bnd (loadL l) l.length 1:=by
 obtain ⟨h0,q0,q1,hm,hl⟩:=ld_parts h
 obtain ⟨h1,h2,h3,h4,h5⟩:=st_parts h0
 obtain ⟨o,b⟩:=OkL.load hm hf (by omega)
 refine ⟨⟨?_,new_r h1 h2 q0 (by omega),?_,?_,hl⟩,b⟩
 ·show stOk zs ((g1.toNat:Nat):Int) g2 g3=true
  rw [Int.toNat_of_nonneg (by omega)]; exact h0
 ·show OkL (loadL l) (((sq.toNat+0:Nat)):Int)
  rw [show (((sq.toNat+0:Nat)):Int)=sq by omega]; exact o
 ·show (((sq.toNat+0:Nat)):Int)<=g3; omega
theorem com_yes (h:m.comE ws x=0):mayW ws=true∧(m.r.seq:Int)<m.most∧((m.L.withW ws ((m.r.seq:Int)+1)).live:Int)<=m.quota∧m.r.no x=0 ∧
  m.com ws x=⟨m.zs,m.quota,m.most,m.r.push x,m.L.withW ws ((m.r.seq:Int)+1)⟩∧m.comN ws x=(m.r.seq:Int)+1:=by
 have e:=h
 unfold Rm.comE at e
 have ec:m.com ws x=⟨m.zs,m.quota,m.most,m.r.push x,m.L.withW ws ((m.r.seq:Int)+1)⟩:=by unfold Rm.com comR comL; rw [if_pos e,if_pos e]
 have en:m.comN ws x=(m.r.seq:Int)+1:=by unfold Rm.comN Go.Proofs.YtbfgpdgiaclphaaGreat.comN; rw [if_pos e]
 unfold Go.Proofs.YtbfgpdgiaclphaaGreat.comE at e
 split at e
 ·cases e
 ·rename_i z
  split at e
  ·rename_i y; exact absurd e y
  ·rename_i y
   have y:spcE m.r m.L ws m.quota m.most=0:=Classical.byContradiction y
   unfold spcE at y
   split at y
   ·cases y
   ·rename_i u
    split at y
    ·cases y
    ·rename_i t
     exact ⟨bool_yes z,by omega,by omega,e,ec,en⟩
theorem com_no (h:m.comE ws x≠0):m.com ws x=m∧m.comN ws x=0:=by
 unfold Rm.comE at h
 constructor
 ·unfold Rm.com comR comL; rw [if_neg h,if_neg h]
 ·unfold Rm.comN Go.Proofs.YtbfgpdgiaclphaaGreat.comN; rw [if_neg h]
theorem push_seq {r:Rg} (h:r.no x=0):(r.push x).seq=r.seq+1:=by
 unfold Rg.push
 rw [if_pos h]
 show r.beg+(r.l++[x]).length=r.beg+r.l.length+1
 rw [List.length_append,List.length_singleton]; omega
theorem ok_com (h:m.Ok) (hb:Bnd m.L K N) (hf:FitsW ws):(m.com ws x).Ok∧Bnd (m.com ws x).L (K+16) (N+1)∧(m.com ws x).r.l.length<=m.r.l.length+1:=by
 by_cases e:m.comE ws x=0
 ·obtain ⟨h1,h2,h3,h4,h5,_⟩:=com_yes e
  have sq:=h.r.sq
  have st:=st_parts h.st
  obtain ⟨o,b⟩:=OkL.with (ws:=ws) h.L hb (by omega) (by omega) h1 hf
  rw [h5]
  refine ⟨⟨?_,Rg.push_ok h.r x,?_,?_,h3⟩,b,Rg.push_len m.r x⟩
  ·show stOk m.zs ((m.r.push x).size:Int) m.quota m.most=true
   rw [Rg.push_size]; exact h.st
  ·show OkL _ (((m.r.push x).seq:Nat):Int)
   rw [push_seq h4]; exact o
  ·show (((m.r.push x).seq:Nat):Int)<=m.most
   rw [push_seq h4]; omega
 ·rw [(com_no e).1]
  exact ⟨h,hb.mono (by omega) (by omega),by omega⟩
theorem floor_seq (h:m.r.Ok):m.floor<=m.seq:=by
 have:=h.s1
 unfold Rm.floor Rm.seq Rg.floor Rg.seq
 omega
theorem sw_live (h:m.Ok):m.sw.L.live=m.L.live:=by
 show (m.L.swept m.floor).live=_
 have hs:Sim m.L (m.L.swept m.floor) m.floor:=fun k=>⟨m.floor,Int.le_refl _,Ch.of_swept h.L.rise m.floor⟩
 exact (hs.live h.L (h.L.swept m.floor) (floor_seq h.r)).symm
theorem ok_sw (h:m.Ok) (hb:Bnd m.L K N):m.sw.Ok∧Bnd m.sw.L K N :=
 ⟨⟨h.st,h.r,h.L.swept m.floor,h.seq,by rw [sw_live h]; exact h.live⟩,hb.swept h.L.rise m.floor⟩
theorem good (h:m.Ok) (hb:m.Few):GoodC m.L:=h.L.good hb.1 (by decide) (by decide)
theorem goods (h:m.Ok) (hb:m.Few) (hf:FitsW ws):mayW ws=true->(m.r.seq:Int)<m.most->∀ i,i<=ws.length->GoodC (m.L.withW (ws.take i) ((m.r.seq:Int)+1))∧(m.L.withW (ws.take i) ((m.r.seq:Int)+1)).length<=10000:=fun hm hs=>by
 have st:=st_parts h.st
 exact h.L.goods hb.1 (by omega) (by omega) hm hf (by decide) (by decide)
end Rm

section
variable {w0 w:World} {N:Nat->Prop} {os:List Ob} {i:Nat} {p:Nat} {m:Rm} {T:Ending->World->Prop}
theorem mSeq (h:Side w0 N w os) (hi:os[i]?=some (obM p m)) (ok:m.Ok):Calls Tryz.prog 22 #[PtrM p] w fun e w'=>e=.returned (.int .i64 m.seq)∧Side w0 N w' os:=by
 obtain ⟨F,q,v,lb,G,A,c,hF,hr,sp⟩:=h.get hi
 exact (rSeq1 p q v lb _ _ _ _ m.r w hr.row hr.ring ok.r).mono fun e w' ⟨he,n,hw⟩=>⟨he,by rw [hw]; exact h.below (below_drewN (Below.refl _ _) n)⟩
theorem mFloor (h:Side w0 N w os) (hi:os[i]?=some (obM p m)) (ok:m.Ok):Calls Tryz.prog 72 #[PtrM p] w fun e w'=>e=.returned (.int .i64 m.floor)∧Side w0 N w' os:=by
 obtain ⟨F,q,v,lb,G,A,c,hF,hr,sp⟩:=h.get hi
 exact (rFloor1 p q v lb _ _ _ m.r w hr.row hr.ring ok.r).mono fun e w' ⟨he,n,hw⟩=>⟨he,by rw [hw]; exact h.below (below_drewN (Below.refl _ _) n)⟩
theorem mVers (h:Side w0 N w os) (hi:os[i]?=some (obM p m)) (ok:m.Ok) (hb:m.Few):Calls Tryz.prog 74 #[PtrM p] w fun e w'=>e=.returned (.int .i64 (m.L.vers:Nat))∧Side w0 N w' os:=by
 obtain ⟨F,q,v,lb,G,A,c,hF,hr,sp⟩:=h.get hi
 exact (rVers1 p G A c m.L w hr.c5 hr.sl (Rm.good ok hb)).mono fun e w' ⟨he,hw⟩=>⟨he,by rw [hw]; exact h⟩
theorem mLive (h:Side w0 N w os) (hi:os[i]?=some (obM p m)) (ok:m.Ok) (hb:m.Few):Calls Tryz.prog 73 #[PtrM p] w fun e w'=>e=.returned (.int .i64 (m.L.live:Nat))∧Side w0 N w' os:=by
 obtain ⟨F,q,v,lb,G,A,c,hF,hr,sp⟩:=h.get hi
 exact (rLive1 p G A c m.L w hr.c5 hr.sl (Rm.good ok hb)).mono fun e w' ⟨he,hw⟩=>⟨he,h.below hw⟩
theorem mEntries (h:Side w0 N w os) (hi:os[i]?=some (obM p m)) (ok:m.Ok) (hb:m.Few):Calls Tryz.prog 75 #[PtrM p] w fun e w'=>(∃ A c,e=.returned (.slice A m.ents.length c)∧SlEn w' A m.ents∧Below w.heap.size w w')∧Side w0 N w' os:=by
 obtain ⟨F,q,v,lb,G,A,c,hF,hr,sp⟩:=h.get hi
 exact (rEntries1 p q v lb _ _ m.r G A c m.L w hr ok.r (Rm.good ok hb) (Nat.le_trans hb.1.1 (by decide))).mono fun e w' ⟨A',c',he,hs,hw⟩=>⟨⟨A',c',he,hs,hw⟩,h.below hw⟩
theorem mFrom (h:Side w0 N w os) (hi:os[i]?=some (obM p m)) (ok:m.Ok) (hb:m.Few) (k:ByteArray) (ab:Bool) (s:Int) :
  Calls Tryz.prog 70 #[PtrM p,.string k,.bool ab,.int .i64 s] w fun e w'=>e=.returned (.int .i64 (if m.L.frm k ab s<m.L.length then (m.L.frm k ab s:Int) else -1))∧Side w0 N w' os:=by
 obtain ⟨F,q,v,lb,G,A,c,hF,hr,sp⟩:=h.get hi
 exact (rFrom1 p G A c m.L k ab s w hr.c5 hr.sl (Rm.good ok hb)).mono fun e w' ⟨he,hw⟩=>⟨he,h.below hw⟩
theorem mCheck (h:Side w0 N w os) (hi:os[i]?=some (obM p m)) (ok:m.Ok) (hb:m.Few) (ws:List Wr) (A:Option Addr) (c:Nat) (s:Int) (hw:SlWr w A ws) (hf:FitsW ws) (hl:ws.length<=1000) :
  Calls Tryz.prog 67 #[PtrM p,.slice A ws.length c,.int .i64 s] w fun e w'=>e=.returned (.int .i64 (m.chk ws s))∧Side w0 N w' os:=by
 obtain ⟨F,q,v,lb,G,A',c',hF,hr,sp⟩:=h.get hi
 exact (rCheck1 p q v lb _ _ m.r G A' c' m.L A c ws s w hr ok.r hw hf (Rm.good ok hb) hl (Rm.goods ok hb hf)).mono fun e w' ⟨he,hw⟩=>⟨he,h.below hw⟩
theorem mCommit (h:Side w0 N w os) (hi:os[i]?=some (obM p m)) (ok:m.Ok) (hb:m.Few) (ws:List Wr) (A:Option Addr) (c:Nat) (x:Int) (hw:SlWr w A ws) (hf:FitsW ws) (hl:ws.length<=1000) (hA:0<ws.length->∀ a,A=some a->N a.block) :
  Calls Tryz.prog 65 #[PtrM p,.slice A ws.length c,.int .u64 x] w fun e w'=>e=.returned (.tuple #[.int .i64 (m.comN ws x),.int .i64 (m.comE ws x)])∧Side w0 N w' (os.set i (obM p (m.com ws x))) :=
 h.call hi fun F hP hn=>by
  obtain ⟨q,v,lb,G,A',c',hF,hr,sp⟩:=hP
  exact (rCommit1 p q v lb _ _ m.r G A' c' m.L A c ws x w hr sp ok.r (by have:=hb.2; omega) hw (fun hp a e f=>hn _ ((hF _).2 (.inr (.inl f))) (hA hp a e)) hf hl (Rm.goods ok hb hf)).mono fun e w' ⟨he,hl⟩=>⟨he,LeftR1.leftM hF hl⟩
theorem mSweep (h:Side w0 N w os) (hi:os[i]?=some (obM p m)) (ok:m.Ok) (hb:m.Few) (hv:m.L.vers<=1000000) :
  Calls Tryz.prog 66 #[PtrM p] w fun e w'=>e=.returned (.int .i64 m.gone)∧Side w0 N w' (os.set i (obM p m.sw)) :=
 h.call hi fun F hP hn=>by
  obtain ⟨q,v,lb,G,A',c',hF,hr,sp⟩:=hP
  exact (rSweep1 p q v lb _ _ m.r G A' c' m.L w hr sp ok.r (Rm.good ok hb) hv (Nat.le_trans hb.1.1 (by decide))).mono fun e w' ⟨he,hl⟩=>⟨he,LeftR1.leftM hF hl⟩
theorem pCall {R:RelM} (X:RoomLo R) {f:FuncId} {args:Array Value} {b:Nat} {m':Rm} (h:Side w0 N w os) (hi:os[i]?=some (obP X b m))
  (hc:∀ F,R w b F m->(∀ k,F k->¬ N k)->Calls Tryz.prog f args w fun e w'=>T e w'∧LeftM R b F w m' w'):Calls Tryz.prog f args w fun e w'=>T e w'∧Side w0 N w' (os.set i (obP X b m')) :=
 h.call hi fun F hP hn=>(hc F hP hn).mono fun _ _ ⟨t,c,F',hr,hk⟩=>⟨t,c,F',hr,hk⟩
theorem pAsk {R:RelM} (X:RoomLo R) {f:FuncId} {args:Array Value} {b:Nat} (h:Side w0 N w os) (hi:os[i]?=some (obP X b m))
  (hc:∀ F,R w b F m->(∀ k,F k->¬ N k)->Calls Tryz.prog f args w fun e w'=>T e w'∧LeftM R b F w m w'):Calls Tryz.prog f args w fun e w'=>T e w'∧Side w0 N w' os:=by
 have:=pCall X h hi hc
 rwa [set_same hi] at this
theorem pOk {R:RelM} (X:RoomLo R) {b:Nat} (h:Side w0 N w os) (hi:os[i]?=some (obP X b m)):m.Ok:=by
 obtain ⟨F,hP⟩:=h.get hi
 exact X.ok hP
end

end Go.Proofs.YtbfgpdgiaclphaaGreat

namespace Go.Proofs.YtbfgpdgiaclphaaGreat
open Go.RowKit

theorem neq_selfV (x:Val) (w:World):(binOp .neq 56 x.v x.v).run Tryz.prog w=.ok (.bool false) w:=by
 unfold Val.v
 rw [run_neq_struct,eqIn_val 9998]
 simp
section
variable {w0 w w':World} {N:Nat->Prop} {os os2:List Ob} {i:Nat} {p:Nat} {m:Rm}
theorem mChain (h:Side w0 N w os) (hi:os[i]?=some (obM p m)) (ok:m.Ok) (hb:m.Few) (k:ByteArray) :
  Calls Tryz.prog 69 #[PtrM p,.string k] w fun e w'=>∃ A c,e=.returned (.slice A (m.L.of k).length c)∧w'=w∧SlV w A (m.L.of k):=by
 obtain ⟨F,q,v,lb,G,A,c,hF,hr,sp⟩:=h.get hi
 exact (rChain1 p G A c m.L k w hr.c5 hr.sl (Rm.good ok hb)).mono fun e w' ⟨⟨A',c',he,hs⟩,hw⟩=>⟨A',c',he,hw,hs.1⟩
theorem mAt (ok:m.Ok) (hb:m.Few) (k:ByteArray) (A:Option Addr) (c:Nat) (s:Int) (w:World) (h:SlV w A (m.L.of k)) :
  Calls Tryz.prog 68 #[.slice A (m.L.of k).length c,.int .i64 s] w fun e w'=>e=.returned (.tuple #[(atL (m.L.of k) s).v,.bool (atOk (m.L.of k) s)])∧Below w.heap.size w w' :=
 rAt9 (m.L.of k) A c s w h (rise_of_right (ok.L.of_right k)) (Nat.le_trans (hb.1.2 k) (by decide))
theorem mKey (h:Side w0 N w os) (hi:os[i]?=some (obM p m)) (ok:m.Ok) (hb:m.Few) {j:Nat} (hj:j<m.L.length) (s:Int) :
  ∃ b o A c A' c',w.cell? ⟨p,5,none⟩=some (.slice (some ⟨b,o,none⟩) m.L.length c')∧A=A'∧w.cell? ⟨b,o+j * 2,none⟩=some (.string (m.L.key j))∧w.cell? ⟨b,o+j * 2+1,none⟩=some (.slice A (m.L.chn j).length c) ∧
   Calls Tryz.prog 68 #[.slice A (m.L.chn j).length c,.int .i64 s] w fun e w'=>e=.returned (.tuple #[(atL (m.L.chn j) s).v,.bool (atOk (m.L.chn j) s)])∧Below w.heap.size w w':=by
 obtain ⟨F,q,v,lb,G,A,c,hF,hr,sp⟩:=h.get hi
 obtain ⟨b,o,A',c',e,_,_,k0,k1,sv⟩:=hr.sl.at hj
 have h5:=hr.c5
 rw [e] at h5
 have g:=(Rm.good ok hb).get hj
 exact ⟨b,o,A',c',A',c,h5,rfl,k0,k1,rAt9 (m.L.chn j) A' c' s w sv.1 g.2.2.2.2 g.2.2.1⟩
end

theorem lTold {R:RelM} (X:RoomAt R) {w0 w:World} {N:Nat->Prop} {os:List Ob} {i j b p:Nat} {m:Rm} (h:Side w0 N w os) (hi:os[i]?=some (obP X.lo b m)) (hj:os[j]?=some (obM p m)) (hb:m.Few) (k:ByteArray) (hk:k.size<=1000) (s:Int) :
  Calls Tryz.prog 21 #[PtrM b,PtrM p,.string k,.int .i64 s] w fun e w'=>e=.returned (.bool true)∧Side w0 N w' os:=by
 have ok:=pOk X.lo h hi
 have KG:=qh (fun W (h:Side w0 N W os)=>pAsk X.lo (T:=fun e _=>e=.returned (.tuple #[(atL (m.L.of k) s).val.v,.bool (atOk (m.L.of k) s)])) h hi fun F hP _=>X.get b F m k s W hP hb hk)
 have KC:=qh (fun W (h:Side w0 N W os)=>mChain h hj ok hb k)
 have KT:=qh (fun A c W hs=>mAt ok hb k A c s W hs)
 have KF:=qh (fun ab W (h:Side w0 N W os)=>mFrom h hj ok hb k ab s)
 have KA:=qh (fun W (h:Side w0 N W os)=>pAsk X.lo (T:=fun e _=>e=.returned (.tuple #[.string (aftV m.L k true s).1,(aftV m.L k true s).2.1.v,.bool (aftV m.L k true s).2.2])) h hi fun F hP _=>X.after b F m k s W hP hb hk)
 have KS:=qh (fun W o (h:Side w0 N W (os++[o]))=>pAsk X.lo (T:=fun e _=>e=.returned (.tuple #[.string (aftV m.L k false s).1,(aftV m.L k false s).2.1.v,.bool (aftV m.L k false s).2.2])) h (Side.idx hi) fun F hP _=>X.seek b F m k s W hP hb hk)
 have KK:=qh (fun j' (hj':j'<m.L.length) W (h:Side w0 N W os)=>mKey h hj ok hb hj' s)
 have AY:=qh (fun ab=>show (m.L.frm k ab s<m.L.length->aftV m.L k ab s=(m.L.key (m.L.frm k ab s),((atL (m.L.chn (m.L.frm k ab s)) s).val,true)))∧(¬ m.L.frm k ab s<m.L.length->aftV m.L k ab s=(⟨#[]⟩,(Val.V0,false))) from ⟨fun z=>by unfold aftV; rw [if_pos z],fun z=>by unfold aftV; rw [if_neg z]⟩)
 have NZ:=qh neq_zero
 have NS:=qh neq_selfV
 have LL:=qh (show m.L.length<=3900 from hb.1.1)
 have H:=qh h
 obtain ⟨V,hV⟩:=nmq (atL (m.L.of k) s)
 obtain ⟨Y,hY⟩:=nmq (atOk (m.L.of k) s)
 obtain ⟨n,hn⟩:=nmq ((m.L.of k).length)
 simp only [<-hV,<-hY] at KG KT
 simp only [<-hn] at KC KT
 obtain ⟨vs,vg,vn,vt,vb⟩:=V
 have KG:Hid (∀ W,Side w0 N W os->Calls Tryz.prog 30 #[PtrM b,.string k,.int .i64 s] W fun e w'=>e=.returned (.tuple #[.agg #[.bool vn,.string vt,.int .u64 (vb:Int)],.bool Y])∧Side w0 N w' os):=KG
 have KT:Hid (∀ A c W,SlV W A (m.L.of k)->Calls Tryz.prog 68 #[.slice A n c,.int .i64 s] W fun e w'=>e=.returned (.tuple #[.agg #[.int .i64 vs,.bool vg,.bool vn,.string vt,.int .u64 (vb:Int)],.bool Y])∧Below W.heap.size W w'):=KT
 have NV:∀ w,(binOp .neq 56 (.agg #[.bool vn,.string vt,.int .u64 (vb:Int)]) (.agg #[.bool vn,.string vt,.int .u64 (vb:Int)])).run Tryz.prog w=.ok (.bool false) w:=neq_selfV ⟨vn,vt,vb⟩
 clear h hi hj hb ok hk hV hY hn
 go_enter Tryz.func21,Tryz.ntmps21
 go_wp2_with fail
 refine (KG.out _ H.out).mono ?_
 rintro e w1 ⟨rfl,h1⟩
 have r1:=RowAt.new w1 [.bool vn,.string vt,.int .u64 (vb:Int)] 56
 have b1:Below w1.heap.size w1 (w1.alloc (.cells #[.bool vn,.string vt,.int .u64 (vb:Int)] 56)):=(Below.refl _ _).alloc (Nat.le_refl _) _
 have H2:=qh (h1.below b1)
 have R1:=qh r1
 clear h1 r1 b1 KG H
 go_wp2_with fail
 refine (KC.out _ H2.out).mono ?_
 rintro e w2 ⟨A2,c2,rfl,rfl,s2⟩
 have S2:=qh s2
 clear s2 KC
 go_wp2_with fail
 refine (KT.out A2 c2 _ S2.out).mono ?_
 rintro e w3 ⟨rfl,hb3⟩
 have b3:Below w3.heap.size w3 (w3.alloc (.cells #[.int .i64 vs,.bool vg,.bool vn,.string vt,.int .u64 (vb:Int)] 132)):=(Below.refl _ _).alloc (Nat.le_refl _) _
 have r4:=(R1.out.below hb3).alloc (.cells #[.int .i64 vs,.bool vg,.bool vn,.string vt,.int .u64 (vb:Int)] 132)
 have H4:=qh ((H2.out.below hb3).below b3)
 have d0:=r4.cell 0
 have d1:=r4.cell 1
 have d2:=r4.cell 2
 simp only [geS] at d0 d1 d2
 clear hb3 b3 r4 R1 H2 KT S2
 go_wp2_with fail
 clear d0 d1 d2
 generalize w3.alloc (.cells #[.int .i64 vs,.bool vg,.bool vn,.string vt,.int .u64 (vb:Int)] 132)=w4 at H4 ⊢
 go_loopw [13] (fun vk wr=>∃ q:Nat,q<=2∧vk=.int .i64 q∧Hid (Side w0 N wr os)) (fun vk _=>2-(intOf vk).toNat)
 case atStart=>exact ⟨0,by omega,rfl,H4⟩
 case round =>
  obtain ⟨q,hq,rfl,HS⟩:=hrel
  clear H4
  obtain ⟨n2,hn2⟩:=nmq (m.L.length)
  have HN2:=qh hn2
  by_cases z2:q=0
  ·subst z2
   have KF0:=qh (KF.out true)
   have EA:=qh (AY.out true)
   obtain ⟨f,hf⟩:=nmq (m.L.frm k true s)
   obtain ⟨P,hP⟩:=nmq (aftV m.L k true s)
   simp only [<-hf,<-hn2] at KF0 EA
   simp only [<-hP] at EA KA
   obtain ⟨I,hI⟩:=nmq ((if f<n2 then (f:Int) else -1))
   simp only [<-hI] at KF0
   have EI:=qh hI
   obtain ⟨S,xv,T⟩:=P
   obtain ⟨xn,xt,xb⟩:=xv
   have KB:Hid (∀ W,Side w0 N W os->Calls Tryz.prog 31 #[PtrM b,.string k,.int .i64 s] W fun e w'=>e=.returned (.tuple #[.string S,.agg #[.bool xn,.string xt,.int .u64 (xb:Int)],.bool T])∧Side w0 N w' os):=KA
   clear hf hP hI hn2 KA KS
   go_wp2_with fail
   refine (KF0.out _ HS.out).mono ?_
   rintro e w5 ⟨rfl,h5⟩
   have H5:=qh h5
   clear h5 KF0
   go_wp2_with fail
   refine (KB.out _ H5.out).mono ?_
   rintro e w6 ⟨rfl,h6⟩
   have RX:=qh (RowAt.new w6 [.bool xn,.string xt,.int .u64 (xb:Int)] 56)
   have HC:=qh (h6.below (show Below w6.heap.size w6 (w6.alloc (.cells #[.bool xn,.string xt,.int .u64 (xb:Int)] 56)) from (Below.refl _ _).alloc (Nat.le_refl _) _))
   clear h6 H5 KB
   by_cases z:f<n2
   ·have e:=EA.out.1 z
    injection e with e1 e2
    injection e2 with e2 e3
    have eI:=EI.out
    rw [if_pos z] at eI
    obtain ⟨bb,o,A',c',A9,c9,k5,rfl,k0,k1,CT⟩:=KK.out f (by rw [<-HN2.out]; exact z) _ HC.out
    rw [<-HN2.out] at k5
    obtain ⟨m2,hm2⟩:=nmq ((m.L.chn f).length)
    rw [<-hm2] at k1 CT
    obtain ⟨y,hy⟩:=nmq (atL (m.L.chn f) s)
    obtain ⟨Yq,hYq⟩:=nmq (atOk (m.L.chn f) s)
    rw [<-hy,<-hYq] at CT
    rw [<-hy] at e2
    rw [<-e1] at k0
    obtain ⟨ys,yg,yv⟩:=y
    have e2:(⟨xn,xt,xb⟩:Val)=yv:=e2
    subst e2 e3
    have CT:=qh (show Calls Tryz.prog 68 #[.slice A' m2 c',.int .i64 s] _ fun e w'=>e=.returned (.tuple #[.agg #[.int .i64 ys,.bool yg,.bool xn,.string xt,.int .u64 (xb:Int)],.bool Yq])∧Below _ _ w' from CT)
    have NX:∀ w,(binOp .neq 56 (.agg #[.bool xn,.string xt,.int .u64 (xb:Int)]) (.agg #[.bool xn,.string xt,.int .u64 (xb:Int)])).run Tryz.prog w=.ok (.bool false) w:=neq_selfV ⟨xn,xt,xb⟩
    subst eI
    have i0:(0:Int)<=(f:Int):=by omega
    have i1:(f:Int)<(n2:Int):=by omega
    have i2:¬ (f:Int)<0:=by omega
    have K0:=qh k0
    have K5:=qh k5
    clear e1 hm2 hy hYq EA EI
    go_wp2_with fail
    refine CT.out.mono ?_
    rintro e w8 ⟨rfl,hb8⟩
    have b8:Below w8.heap.size w8 (w8.alloc (.cells #[.int .i64 ys,.bool yg,.bool xn,.string xt,.int .u64 (xb:Int)] 132)):=(Below.refl _ _).alloc (Nat.le_refl _) _
    have bb8:=hb8.trans (b8.mono hb8.size)
    have H8:=qh (HC.out.below bb8)
    have rx:=RX.out.below bb8
    have d0:=rx.cell 0
    have d1:=rx.cell 1
    have d2:=rx.cell 2
    simp only [geS] at d0 d1 d2
    have k5:=(bb8.cell (p:=⟨p,5,none⟩) (block_lt_of_cell K5.out)).trans K5.out
    have k0:=(bb8.cell (p:=⟨bb,o+f * 2,none⟩) (block_lt_of_cell K0.out)).trans K0.out
    clear hb8 b8 bb8 rx k1
    go_wp2_with fail
    go_roundw
    case rel=>first | exact ⟨1,by omega,by go_num,H8⟩ | exact ⟨2,by omega,by go_num,H8⟩
    case measure=>simp [intOf]
   ·have e:=EA.out.2 z
    injection e with e1 e2
    injection e2 with e2 e3
    have eI:=EI.out
    rw [if_neg z] at eI
    injection e2 with e4 e5 e6
    subst e1 e3 e4 e5 e6 eI
    have NX:∀ w,(binOp .neq 56 (.agg #[.bool false,.string ⟨#[]⟩,.int .u64 0]) (.agg #[.bool false,.string ⟨#[]⟩,.int .u64 0])).run Tryz.prog w=.ok (.bool false) w:=neq_selfV Val.V0
    have d0:=RX.out.cell 0
    have d1:=RX.out.cell 1
    have d2:=RX.out.cell 2
    simp only [geS] at d0 d1 d2
    clear EA EI
    go_wp2_with fail
    go_roundw
    case rel=>first | exact ⟨1,by omega,by go_num,HC⟩ | exact ⟨2,by omega,by go_num,HC⟩
    case measure=>simp [intOf]
  by_cases z3:q=1
  ·subst z3
   have KF0:=qh (KF.out false)
   have EA:=qh (AY.out false)
   obtain ⟨f,hf⟩:=nmq (m.L.frm k false s)
   obtain ⟨P,hP⟩:=nmq (aftV m.L k false s)
   obtain ⟨P0,hP0⟩:=nmq (aftV m.L k true s)
   simp only [<-hf,<-hn2] at KF0 EA
   simp only [<-hP] at EA KS
   simp only [<-hP0] at KA
   obtain ⟨I,hI⟩:=nmq ((if f<n2 then (f:Int) else -1))
   simp only [<-hI] at KF0
   have EI:=qh hI
   obtain ⟨S,xv,T⟩:=P
   obtain ⟨xn,xt,xb⟩:=xv
   obtain ⟨S0,x0v,T0⟩:=P0
   obtain ⟨un,ut,ub⟩:=x0v
   have KB:Hid (∀ W,Side w0 N W os->Calls Tryz.prog 31 #[PtrM b,.string k,.int .i64 s] W fun e w'=>e=.returned (.tuple #[.string S0,.agg #[.bool un,.string ut,.int .u64 (ub:Int)],.bool T0])∧Side w0 N w' os):=KA
   have KD:Hid (∀ W o,Side w0 N W (os++[o])->Calls Tryz.prog 40 #[PtrM b,.string k,.int .i64 s] W fun e w'=>e=.returned (.tuple #[.string S,.agg #[.bool xn,.string xt,.int .u64 (xb:Int)],.bool T])∧Side w0 N w' (os++[o])):=KS
   clear hf hP hP0 hI hn2 KA KS
   go_wp2_with fail
   refine (KF0.out _ HS.out).mono ?_
   rintro e w5 ⟨rfl,h5⟩
   have H5:=qh h5
   clear h5 KF0
   go_wp2_with fail
   refine (KB.out _ H5.out).mono ?_
   rintro e w6 ⟨rfl,h6⟩
   have HR:=qh (h6.rowNew [.bool un,.string ut,.int .u64 (ub:Int)] 56)
   clear h6 H5 KB
   go_wp2_with fail
   refine (KD.out _ _ HR.out).mono ?_
   rintro e w7 ⟨rfl,h7⟩
   obtain ⟨g,hg⟩:=nmq (w6.heap.size)
   rw [<-hg] at h7
   have r7:=h7.rowAt Side.last
   have f0:=r7.frozen 0
   have f1:=r7.frozen 1
   have f2:=r7.frozen 2
   have d0:=r7.cell 0
   have d1:=r7.cell 1
   have d2:=r7.cell 2
   simp only [geS] at d0 d1 d2
   have RX:=qh (show RowAt (((w7.setCell ⟨g,0,none⟩ (.bool xn)).setCell ⟨g,1,none⟩ (.string xt)).setCell ⟨g,2,none⟩ (.int .u64 (xb:Int))) g [.bool xn,.string xt,.int .u64 (xb:Int)] 56 from ((r7.set 0 (.bool xn)).set 1 (.string xt)).set 2 (.int .u64 (xb:Int)))
   have HC:=qh (show Side w0 N (((w7.setCell ⟨g,0,none⟩ (.bool xn)).setCell ⟨g,1,none⟩ (.string xt)).setCell ⟨g,2,none⟩ (.int .u64 (xb:Int))) os from by
    have:=h7.rowSet Side.last ((((Chg.refl (fun k=>k=g) w7).setCell (.inl rfl) _).setCell (.inl rfl) _).setCell (.inl rfl) _) RX.out
    rw [Side.set_last] at this
    exact this.drop)
   have HG:=qh hg
   clear h7 HR KD r7 hg
   simp only [<-HG.out]
   by_cases z:f<n2
   ·have e:=EA.out.1 z
    injection e with e1 e2
    injection e2 with e2 e3
    have eI:=EI.out
    rw [if_pos z] at eI
    obtain ⟨bb,o,A',c',A9,c9,k5,rfl,k0,k1,CT⟩:=KK.out f (by rw [<-HN2.out]; exact z) _ HC.out
    rw [<-HN2.out] at k5
    obtain ⟨m2,hm2⟩:=nmq ((m.L.chn f).length)
    rw [<-hm2] at k1 CT
    obtain ⟨y,hy⟩:=nmq (atL (m.L.chn f) s)
    obtain ⟨Yq,hYq⟩:=nmq (atOk (m.L.chn f) s)
    rw [<-hy,<-hYq] at CT
    rw [<-hy] at e2
    rw [<-e1] at k0
    obtain ⟨ys,yg,yv⟩:=y
    have e2:(⟨xn,xt,xb⟩:Val)=yv:=e2
    subst e2 e3
    have CT:=qh (show Calls Tryz.prog 68 #[.slice A' m2 c',.int .i64 s] _ fun e w'=>e=.returned (.tuple #[.agg #[.int .i64 ys,.bool yg,.bool xn,.string xt,.int .u64 (xb:Int)],.bool Yq])∧Below _ _ w' from CT)
    have NX:∀ w,(binOp .neq 56 (.agg #[.bool xn,.string xt,.int .u64 (xb:Int)]) (.agg #[.bool xn,.string xt,.int .u64 (xb:Int)])).run Tryz.prog w=.ok (.bool false) w:=neq_selfV ⟨xn,xt,xb⟩
    subst eI
    have i0:(0:Int)<=(f:Int):=by omega
    have i1:(f:Int)<(n2:Int):=by omega
    have i2:¬ (f:Int)<0:=by omega
    have K0:=qh k0
    have K5:=qh k5
    clear e1 hm2 hy hYq EA EI
    go_wp2_with fail
    refine CT.out.mono ?_
    rintro e w8 ⟨rfl,hb8⟩
    have b8:Below w8.heap.size w8 (w8.alloc (.cells #[.int .i64 ys,.bool yg,.bool xn,.string xt,.int .u64 (xb:Int)] 132)):=(Below.refl _ _).alloc (Nat.le_refl _) _
    have bb8:=hb8.trans (b8.mono hb8.size)
    have H8:=qh (HC.out.below bb8)
    have rx:=RX.out.below bb8
    have d0:=rx.cell 0
    have d1:=rx.cell 1
    have d2:=rx.cell 2
    simp only [geS] at d0 d1 d2
    have k5:=(bb8.cell (p:=⟨p,5,none⟩) (block_lt_of_cell K5.out)).trans K5.out
    have k0:=(bb8.cell (p:=⟨bb,o+f * 2,none⟩) (block_lt_of_cell K0.out)).trans K0.out
    clear hb8 b8 bb8 rx k1
    go_wp2_with fail
    go_roundw
    case rel=>first | exact ⟨1,by omega,by go_num,H8⟩ | exact ⟨2,by omega,by go_num,H8⟩
    case measure=>simp [intOf]
   ·have e:=EA.out.2 z
    injection e with e1 e2
    injection e2 with e2 e3
    have eI:=EI.out
    rw [if_neg z] at eI
    injection e2 with e4 e5 e6
    subst e1 e3 e4 e5 e6 eI
    have NX:∀ w,(binOp .neq 56 (.agg #[.bool false,.string ⟨#[]⟩,.int .u64 0]) (.agg #[.bool false,.string ⟨#[]⟩,.int .u64 0])).run Tryz.prog w=.ok (.bool false) w:=neq_selfV Val.V0
    have d0:=RX.out.cell 0
    have d1:=RX.out.cell 1
    have d2:=RX.out.cell 2
    simp only [geS] at d0 d1 d2
    clear EA EI
    go_wp2_with fail
    go_roundw
    case rel=>first | exact ⟨1,by omega,by go_num,HC⟩ | exact ⟨2,by omega,by go_num,HC⟩
    case measure=>simp [intOf]
  ·obtain rfl:q=2:=by omega
   go_wp2_with fail
   go_ret
   exact ⟨rfl,HS.out⟩

end Go.Proofs.YtbfgpdgiaclphaaGreat

namespace Go.Proofs.YtbfgpdgiaclphaaGreat
open Go.RowKit

theorem lCounts {R:RelM} (X:RoomLo R) {w0 w:World} {N:Nat->Prop} {os:List Ob} {i j b p:Nat} {m:Rm} (h:Side w0 N w os) (hi:os[i]?=some (obP X b m)) (hj:os[j]?=some (obM p m)) (hb:m.Few) :
  Calls Tryz.prog 23 #[PtrM b,PtrM p] w fun e w'=>e=.returned (.bool true)∧Side w0 N w' os:=by
 have ok:=pOk X h hi
 have sq:=ok.r.sq
 have fl:=Rm.floor_seq ok.r
 have K1:=qh (fun W (h:Side w0 N W os)=>pAsk X (T:=fun e _=>e=.returned (.int .i64 m.seq)) h hi fun F hP _=>X.seq b F m W hP)
 have K2:=qh (fun W (h:Side w0 N W os)=>mSeq h hj ok)
 have K3:=qh (fun W (h:Side w0 N W os)=>pAsk X (T:=fun e _=>e=.returned (.int .i64 m.floor)) h hi fun F hP _=>X.floor b F m W hP)
 have K4:=qh (fun W (h:Side w0 N W os)=>mFloor h hj ok)
 have K5:=qh (fun W (h:Side w0 N W os)=>pAsk X (T:=fun e _=>e=.returned (.int .i64 (m.L.live:Nat))) h hi fun F hP _=>X.live b F m W hP hb)
 have K6:=qh (fun W (h:Side w0 N W os)=>mLive h hj ok hb)
 have K7:=qh (fun W (h:Side w0 N W os)=>pAsk X (T:=fun e _=>e=.returned (.int .i64 (m.L.vers:Nat))) h hi fun F hP _=>X.vers b F m W hP hb)
 have K8:=qh (fun W (h:Side w0 N W os)=>mVers h hj ok hb)
 have K9:=qh (fun W (h:Side w0 N W os)=>pAsk X (T:=fun e _=>e=.returned (.int .i64 (m.ents.length:Nat))) h hi fun F hP _=>X.keys b F m W hP hb)
 have KA:=qh (fun W (h:Side w0 N W os)=>mEntries h hj ok hb)
 have KB:=qh (fun W (h:Side w0 N W os)=>pAsk X (T:=fun e w'=>∃ A c,e=.returned (.slice A m.ents.length c)∧SlEn w' A m.ents∧(0<m.ents.length->∃ g o,A=some ⟨g,o,none⟩∧W.heap.size<=g)) h hi fun F hP _=>X.entriesL b F m W hP hb)
 have LE:=qh (show m.ents.length<=10000 from Nat.le_trans (ents_len _ _) (Nat.le_trans hb.1.1 (by decide)))
 have KS:=qh (fun W A1 A2 c1 c2 (h1:SlEn W A1 m.ents) (h2:SlEn W A2 m.ents)=>rSame1 m.ents m.ents A1 A2 c1 c2 W h1 h2 LE.out LE.out)
 have H:=qh h
 obtain ⟨s,hs⟩:=nmq (m.seq)
 obtain ⟨f,hf⟩:=nmq (m.floor)
 obtain ⟨v,hv⟩:=nmq (m.L.live)
 obtain ⟨u,hu⟩:=nmq (m.L.vers)
 obtain ⟨E,hE⟩:=nmq (m.ents)
 obtain ⟨n,hn⟩:=nmq (E.length)
 simp only [<-hs] at K1 K2
 simp only [<-hf] at K3 K4
 simp only [<-hv] at K5 K6
 simp only [<-hu] at K7 K8
 simp only [<-hE] at K9 KA KB KS
 simp only [<-hn] at K9 KA KB KS
 clear h hi hj hb ok sq fl hs hf hv hu hE hn LE
 go_enter Tryz.func23,Tryz.ntmps23
 go_wp2_with fail
 refine (K1.out _ H.out).mono ?_
 rintro e w1 ⟨rfl,h1⟩
 have H1:=qh h1
 clear h1 K1
 go_wp2_with fail
 refine (K2.out _ H1.out).mono ?_
 rintro e w2 ⟨rfl,h2⟩
 have H2:=qh h2
 clear h2 K2 H1
 go_wp2_with fail
 refine (K3.out _ H2.out).mono ?_
 rintro e w3 ⟨rfl,h3⟩
 have H3:=qh h3
 clear h3 K3 H2
 go_wp2_with fail
 refine (K4.out _ H3.out).mono ?_
 rintro e w4 ⟨rfl,h4⟩
 have H4:=qh h4
 clear h4 K4 H3
 go_wp2_with fail
 refine (K5.out _ H4.out).mono ?_
 rintro e w5 ⟨rfl,h5⟩
 have H5:=qh h5
 clear h5 K5 H4
 go_wp2_with fail
 refine (K6.out _ H5.out).mono ?_
 rintro e w6 ⟨rfl,h6⟩
 have H6:=qh h6
 clear h6 K6 H5
 go_wp2_with fail
 refine (K7.out _ H6.out).mono ?_
 rintro e w7 ⟨rfl,h7⟩
 have H7:=qh h7
 clear h7 K7 H6
 go_wp2_with fail
 refine (K8.out _ H7.out).mono ?_
 rintro e w8 ⟨rfl,h8⟩
 have H8:=qh h8
 clear h8 K8 H7
 go_wp2_with fail
 refine (K9.out _ H8.out).mono ?_
 rintro e w9 ⟨rfl,h9⟩
 have H9:=qh h9
 clear h9 K9 H8
 go_wp2_with fail
 refine (KA.out _ H9.out).mono ?_
 rintro e wa ⟨⟨A1,c1,rfl,_,_⟩,ha⟩
 have HA:=qh ha
 clear ha H9
 go_wp2_with fail
 refine (KB.out _ HA.out).mono ?_
 rintro e wb ⟨⟨A2,c2,rfl,s2,_⟩,hb⟩
 have HB:=qh hb
 have S2:=qh s2
 clear hb s2 KB HA
 go_wp2_with fail
 refine (KA.out _ HB.out).mono ?_
 rintro e wc ⟨⟨A3,c3,rfl,s3,b3⟩,hc⟩
 have HC:=qh hc
 have CS:=qh (KS.out wc A2 A3 c2 c3 (fun hp=>by
  obtain ⟨b,o,e,hl,hd⟩:=S2.out hp
  exact ⟨b,o,e,Nat.lt_of_lt_of_le hl b3.size,fun j hj=>sw5 b3 (hd j hj)⟩) s3)
 clear hc s3 b3 KA KS HB
 go_wp2_with fail
 refine CS.out.mono ?_
 rintro e wd ⟨rfl,k,hk⟩
 have HD:=qh (show Side w0 N wd os by rw [hk]; exact HC.out.below (below_drewN (Below.refl _ _) k))
 clear hk
 go_wp2_with fail
 go_ret
 exact ⟨by simp,HD.out⟩

end Go.Proofs.YtbfgpdgiaclphaaGreat
